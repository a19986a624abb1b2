/- Demand in numbers: what the program's function and the reference's give. -/
import Derived.Test.YtlhnhidoljfnnaaCt
set_option linter.unusedVariables false
set_option linter.unusedSimpArgs false
namespace Go.Proofs.Ytlhnhidoljfnnaa
open Go.RowKit Fx
def pdM : Models := Models.on pChk_K.f CKm (Models.on pVal_K.f VDm (Models.on pBod_K.f BDm (Models.on pSig_K.f (F1 sg) (Models.on pHalf_K.f hfR noM))))
def rdM : Models := Models.on rChk_K.f CKm (Models.on rVal_K.f VDm (Models.on rBod_K.f BDm (Models.on rSig_K.f (F1 sg) (Models.on rRound_K.f rdR noM))))
theorem pDem_ok : ConOk Try.prog pDem_K (pDem_T.run pdM 30) := con_run follows (one_con (pChk_ok.to _) (one_con (pVal_ok.to _) (one_con (pBod_ok.to _) (one_con (pSig_ok.to _) (one_con (pHalf_ok.to _) no_cons))))) pDem_t rfl 30
theorem rDem_ok : ConOk Try.prog rDem_K (rDem_T.run rdM 30) := con_run follows (one_con (rChk_ok.to _) (one_con (rVal_ok.to _) (one_con (rBod_ok.to _) (one_con (rSig_ok.to _) (one_con (rRound_ok.to _) no_cons))))) rDem_t rfl 30
def cutI (m v : Int) : Int := max (0 - m) (min v m)
theorem cutI_rng {m v a : Int} (h0 : 0 ≤ m) (h1 : m ≤ a) : -a ≤ cutI m v ∧ cutI m v ≤ a := by
  unfold cutI
  omega
/-- a weighed sum -/
def wsum (a b c m s u v : Int) : Int := a * u + b * cutI m (s + u) - c * v
theorem wsum_rng {a b c m s u v : Int} (a0 : 0 ≤ a) (a1 : a ≤ 100000) (b0 : 0 ≤ b) (b1 : b ≤ 100000) (c0 : 0 ≤ c) (c1 : c ≤ 100000) (m0 : 0 ≤ m) (m1 : m ≤ 10000000) (u0 : -400000000 ≤ u) (u1 : u ≤ 400000000) (v0 : -400000000 ≤ v) (v1 : v ≤ 400000000) :
    (-40000000000000 ≤ a * u ∧ a * u ≤ 40000000000000) ∧ (-1000000000000 ≤ b * cutI m (s + u) ∧ b * cutI m (s + u) ≤ 1000000000000) ∧ (-40000000000000 ≤ c * v ∧ c * v ≤ 40000000000000) := by
  have p := mul_rng a0 a1 u0 u1
  have q := cutI_rng (v := s + u) m0 m1
  have q' := mul_rng b0 b1 q.1 q.2
  have r := mul_rng c0 c1 v0 v1
  omega
def dmO (g0 g1 g2 g3 g4 g5 g6 g7 g8 sx sy sh lx ly lh x y h tx ty th : Int) (sn1 : Bool) : List D :=
  if gok g0 g1 g2 g3 g4 g5 g6 g7 g8 then
    if vok g0 g1 g2 g3 g4 g5 g6 g7 g8 sx sy sh lx ly lh ∧ okp x y ∧ okp tx ty ∧ (0 ≤ h ∧ h < 3600) ∧ 0 ≤ th ∧ th < 3600 then
      [.i (cutI g7 (hdv (wsum g0 g1 g2 g6 sx (bdA x y tx ty h) (if sn1 = true then bdA lx ly x y h else 0)) 1000)), .i (cutI g7 (hdv (wsum g0 g1 g2 g6 sy (bdB x y tx ty h) (if sn1 = true then bdB lx ly x y h else 0)) 1000)), .i (cutI g8 (hdv (wsum g3 g4 g5 g6 sh (sg (th - h)) (if sn1 = true then sg (h - lh) else 0)) 1000)), .i (cutI g6 (sx + (bdA x y tx ty h))), .i (cutI g6 (sy + (bdB x y tx ty h))), .i (cutI g6 (sh + (sg (th - h)))), .i x, .i y, .i h, .b true, .i 0]
    else [.i 0, .i 0, .i 0, .i 0, .i 0, .i 0, .i 0, .i 0, .i 0, .b false, .i 1]
  else [.i 0, .i 0, .i 0, .i 0, .i 0, .i 0, .i 0, .i 0, .i 0, .b false, .i 62]
theorem dmO_shape {g0 g1 g2 g3 g4 g5 g6 g7 g8 sx sy sh lx ly lh x y h tx ty th : Int} {sn1 : Bool} : ∃ (a1 a2 a3 a4 a5 a6 a7 a8 a9 : Int) (b : Bool) (e : Int), dmO g0 g1 g2 g3 g4 g5 g6 g7 g8 sx sy sh lx ly lh x y h tx ty th sn1 = [.i a1, .i a2, .i a3, .i a4, .i a5, .i a6, .i a7, .i a8, .i a9, .b b, .i e] := by
  unfold dmO
  split
  · split
    · exact ⟨_, _, _, _, _, _, _, _, _, _, _, rfl⟩
    · exact ⟨_, _, _, _, _, _, _, _, _, _, _, rfl⟩
  · exact ⟨_, _, _, _, _, _, _, _, _, _, _, rfl⟩
theorem pdem_full {g0 g1 g2 g3 g4 g5 g6 g7 g8 sx sy sh lx ly lh x y h tx ty th : Int} {sn1 : Bool} : ∃ o, pDem_T.run pdM 30 [.i g0, .i g1, .i g2, .i g3, .i g4, .i g5, .i g6, .i g7, .i g8, .i sx, .i sy, .i sh, .i lx, .i ly, .i lh, .b sn1, .i x, .i y, .i h, .i tx, .i ty, .i th] = some o ∧ o = dmO g0 g1 g2 g3 g4 g5 g6 g7 g8 sx sy sh lx ly lh x y h tx ty th sn1 := by
  refine run_to ?_
  unfold pDem_T
  by_cases hg : gok g0 g1 g2 g3 g4 g5 g6 g7 g8
  · have e := ck_yes hg
    by_cases hv : vok g0 g1 g2 g3 g4 g5 g6 g7 g8 sx sy sh lx ly lh
    · have ev : vd g0 g1 g2 g3 g4 g5 g6 g7 g8 sx sy sh lx ly lh = true := decide_eq_true hv
      by_cases hr : okp x y ∧ okp tx ty ∧ (0 ≤ h ∧ h < 3600) ∧ 0 ≤ th ∧ th < 3600
      · have ed : dmO g0 g1 g2 g3 g4 g5 g6 g7 g8 sx sy sh lx ly lh x y h tx ty th sn1 = [.i (cutI g7 (hdv (wsum g0 g1 g2 g6 sx (bdA x y tx ty h) (if sn1 = true then bdA lx ly x y h else 0)) 1000)), .i (cutI g7 (hdv (wsum g0 g1 g2 g6 sy (bdB x y tx ty h) (if sn1 = true then bdB lx ly x y h else 0)) 1000)), .i (cutI g8 (hdv (wsum g3 g4 g5 g6 sh (sg (th - h)) (if sn1 = true then sg (h - lh) else 0)) 1000)), .i (cutI g6 (sx + (bdA x y tx ty h))), .i (cutI g6 (sy + (bdB x y tx ty h))), .i (cutI g6 (sh + (sg (th - h)))), .i x, .i y, .i h, .b true, .i 0] := (if_pos hg).trans (if_pos ⟨hv, hr⟩)
        rw [ed]
        clear ed
        unfold gok at hg
        unfold vok at hv
        obtain ⟨_, hv⟩ := hv
        unfold okp at hv hr
        have ra := bdA_rng x y tx ty h
        have rb := bdB_rng x y tx ty h
        have rc := sg_rng (th - h)
        cases sn1
        · simp only [Bool.false_eq_true, if_false, if_true]
          (repeat' (first
              | (refine To.callX rfl (fun ρ2 eρ => ⟨rfl, ?_⟩); simp (disch := omega) only [X.den, X.dens, X.denss, D.int_i, D.boo_b, D.str_s, D.rows_l, List.getD_cons_zero, List.getD_cons_succ, List.cons_append, List.nil_append, List.append_nil, List.length_cons, List.length_nil, decide_eq_true_eq, decide_eq_false_iff_not, Bool.not_eq_true', Bool.not_eq_false', Bool.and_eq_true, Bool.and_eq_false_iff, Bool.true_eq_false, Bool.false_eq_true, Bool.not_true, Bool.not_false, eq_self, D.len_l, wr64, not_true_eq_false, not_false_eq_true, ia, e, ev] at eρ; subst eρ)
              | (refine To.subK (fun K hK => ?_))
              | (refine To.need (by simp (disch := omega) only [X.den, X.dens, X.denss, D.int_i, D.boo_b, D.str_s, D.rows_l, List.getD_cons_zero, List.getD_cons_succ, List.cons_append, List.nil_append, List.append_nil, List.length_cons, List.length_nil, decide_eq_true_eq, decide_eq_false_iff_not, Bool.not_eq_true', Bool.not_eq_false', Bool.and_eq_true, Bool.and_eq_false_iff, Bool.true_eq_false, Bool.false_eq_true, Bool.not_true, Bool.not_false, eq_self, D.len_l, wr64, not_true_eq_false, not_false_eq_true, ia, e, ev] <;> omega) ?_)
              | (refine To.ite (fun c => ?_) (fun c => ?_) <;> ((try simp (disch := omega) only [X.den, X.dens, X.denss, D.int_i, D.boo_b, D.str_s, D.rows_l, List.getD_cons_zero, List.getD_cons_succ, List.cons_append, List.nil_append, List.append_nil, List.length_cons, List.length_nil, decide_eq_true_eq, decide_eq_false_iff_not, Bool.not_eq_true', Bool.not_eq_false', Bool.and_eq_true, Bool.and_eq_false_iff, Bool.true_eq_false, Bool.false_eq_true, Bool.not_true, Bool.not_false, eq_self, D.len_l, wr64, not_true_eq_false, not_false_eq_true, ia, e, ev] at c) <;> (try (exfalso; omega))))
              | (refine To.ret ⟨rfl, ?_⟩; (try simp (disch := omega) only [X.den, X.dens, X.denss, D.int_i, D.boo_b, D.str_s, D.rows_l, List.getD_cons_zero, List.getD_cons_succ, List.cons_append, List.nil_append, List.append_nil, List.length_cons, List.length_nil, decide_eq_true_eq, decide_eq_false_iff_not, Bool.not_eq_true', Bool.not_eq_false', Bool.and_eq_true, Bool.and_eq_false_iff, Bool.true_eq_false, Bool.false_eq_true, Bool.not_true, Bool.not_false, eq_self, D.len_l, wr64, not_true_eq_false, not_false_eq_true, ia, e, ev]); refine hK _ _ (by simp only [List.cons_append, List.nil_append]; first | done | rfl) ?_; clear hK; clear K)))
          generalize bdA x y tx ty h = v1 at *
          generalize bdB x y tx ty h = v2 at *
          generalize sg (th - h) = v3 at *
          have w1 := wsum_rng (a := g0) (b := g1) (c := g2) (m := g6) (s := sx) (u := v1) (v := 0) (by omega) (by omega) (by omega) (by omega) (by omega) (by omega) (by omega) (by omega) (by omega) (by omega) (by omega) (by omega)
          have c1 : max (0 - g6) (min (sx + v1) g6) = cutI g6 (sx + v1) := rfl
          have w2 := wsum_rng (a := g0) (b := g1) (c := g2) (m := g6) (s := sy) (u := v2) (v := 0) (by omega) (by omega) (by omega) (by omega) (by omega) (by omega) (by omega) (by omega) (by omega) (by omega) (by omega) (by omega)
          have c2 : max (0 - g6) (min (sy + v2) g6) = cutI g6 (sy + v2) := rfl
          have w3 := wsum_rng (a := g3) (b := g4) (c := g5) (m := g6) (s := sh) (u := v3) (v := 0) (by omega) (by omega) (by omega) (by omega) (by omega) (by omega) (by omega) (by omega) (by omega) (by omega) (by omega) (by omega)
          have c3 : max (0 - g6) (min (sh + v3) g6) = cutI g6 (sh + v3) := rfl
          refine To.viaK (by (try simp (disch := omega) only [X.den, X.dens, X.denss, D.int_i, D.boo_b, D.str_s, D.rows_l, List.getD_cons_zero, List.getD_cons_succ, List.cons_append, List.nil_append, List.append_nil, List.length_cons, List.length_nil, decide_eq_true_eq, decide_eq_false_iff_not, Bool.not_eq_true', Bool.not_eq_false', Bool.and_eq_true, Bool.and_eq_false_iff, Bool.true_eq_false, Bool.false_eq_true, Bool.not_true, Bool.not_false, eq_self, D.len_l, wr64, not_true_eq_false, not_false_eq_true, c1, c2, c3]); exact hfR_to (n := g0 * v1 + g1 * cutI g6 (sx + v1) - g2 * 0) (d := 1000) (by omega) (by omega) (by omega) (by omega)) ?_
          rintro _ ρ2 rfl eρ
          refine ⟨rfl, ?_⟩
          simp only [List.cons_append, List.nil_append] at eρ
          subst eρ
          refine To.viaK (by (try simp (disch := omega) only [X.den, X.dens, X.denss, D.int_i, D.boo_b, D.str_s, D.rows_l, List.getD_cons_zero, List.getD_cons_succ, List.cons_append, List.nil_append, List.append_nil, List.length_cons, List.length_nil, decide_eq_true_eq, decide_eq_false_iff_not, Bool.not_eq_true', Bool.not_eq_false', Bool.and_eq_true, Bool.and_eq_false_iff, Bool.true_eq_false, Bool.false_eq_true, Bool.not_true, Bool.not_false, eq_self, D.len_l, wr64, not_true_eq_false, not_false_eq_true, c1, c2, c3]); exact hfR_to (n := g0 * v2 + g1 * cutI g6 (sy + v2) - g2 * 0) (d := 1000) (by omega) (by omega) (by omega) (by omega)) ?_
          rintro _ ρ2 rfl eρ
          refine ⟨rfl, ?_⟩
          simp only [List.cons_append, List.nil_append] at eρ
          subst eρ
          refine To.viaK (by (try simp (disch := omega) only [X.den, X.dens, X.denss, D.int_i, D.boo_b, D.str_s, D.rows_l, List.getD_cons_zero, List.getD_cons_succ, List.cons_append, List.nil_append, List.append_nil, List.length_cons, List.length_nil, decide_eq_true_eq, decide_eq_false_iff_not, Bool.not_eq_true', Bool.not_eq_false', Bool.and_eq_true, Bool.and_eq_false_iff, Bool.true_eq_false, Bool.false_eq_true, Bool.not_true, Bool.not_false, eq_self, D.len_l, wr64, not_true_eq_false, not_false_eq_true, c1, c2, c3]); exact hfR_to (n := g3 * v3 + g4 * cutI g6 (sh + v3) - g5 * 0) (d := 1000) (by omega) (by omega) (by omega) (by omega)) ?_
          rintro _ ρ2 rfl eρ
          refine ⟨rfl, ?_⟩
          simp only [List.cons_append, List.nil_append] at eρ
          subst eρ
          refine To.ret ?_
          simp (disch := omega) only [X.den, X.dens, X.denss, D.int_i, D.boo_b, D.str_s, D.rows_l, List.getD_cons_zero, List.getD_cons_succ, List.cons_append, List.nil_append, List.append_nil, List.length_cons, List.length_nil, wr64, c1, c2, c3]
          first | done | rfl
        · simp only [Bool.false_eq_true, if_false, if_true]
          (repeat' (first
              | (refine To.callX rfl (fun ρ2 eρ => ⟨rfl, ?_⟩); simp (disch := omega) only [X.den, X.dens, X.denss, D.int_i, D.boo_b, D.str_s, D.rows_l, List.getD_cons_zero, List.getD_cons_succ, List.cons_append, List.nil_append, List.append_nil, List.length_cons, List.length_nil, decide_eq_true_eq, decide_eq_false_iff_not, Bool.not_eq_true', Bool.not_eq_false', Bool.and_eq_true, Bool.and_eq_false_iff, Bool.true_eq_false, Bool.false_eq_true, Bool.not_true, Bool.not_false, eq_self, D.len_l, wr64, not_true_eq_false, not_false_eq_true, ia, e, ev] at eρ; subst eρ)
              | (refine To.subK (fun K hK => ?_))
              | (refine To.need (by simp (disch := omega) only [X.den, X.dens, X.denss, D.int_i, D.boo_b, D.str_s, D.rows_l, List.getD_cons_zero, List.getD_cons_succ, List.cons_append, List.nil_append, List.append_nil, List.length_cons, List.length_nil, decide_eq_true_eq, decide_eq_false_iff_not, Bool.not_eq_true', Bool.not_eq_false', Bool.and_eq_true, Bool.and_eq_false_iff, Bool.true_eq_false, Bool.false_eq_true, Bool.not_true, Bool.not_false, eq_self, D.len_l, wr64, not_true_eq_false, not_false_eq_true, ia, e, ev] <;> omega) ?_)
              | (refine To.ite (fun c => ?_) (fun c => ?_) <;> ((try simp (disch := omega) only [X.den, X.dens, X.denss, D.int_i, D.boo_b, D.str_s, D.rows_l, List.getD_cons_zero, List.getD_cons_succ, List.cons_append, List.nil_append, List.append_nil, List.length_cons, List.length_nil, decide_eq_true_eq, decide_eq_false_iff_not, Bool.not_eq_true', Bool.not_eq_false', Bool.and_eq_true, Bool.and_eq_false_iff, Bool.true_eq_false, Bool.false_eq_true, Bool.not_true, Bool.not_false, eq_self, D.len_l, wr64, not_true_eq_false, not_false_eq_true, ia, e, ev] at c) <;> (try (exfalso; omega))))
              | (refine To.ret ⟨rfl, ?_⟩; (try simp (disch := omega) only [X.den, X.dens, X.denss, D.int_i, D.boo_b, D.str_s, D.rows_l, List.getD_cons_zero, List.getD_cons_succ, List.cons_append, List.nil_append, List.append_nil, List.length_cons, List.length_nil, decide_eq_true_eq, decide_eq_false_iff_not, Bool.not_eq_true', Bool.not_eq_false', Bool.and_eq_true, Bool.and_eq_false_iff, Bool.true_eq_false, Bool.false_eq_true, Bool.not_true, Bool.not_false, eq_self, D.len_l, wr64, not_true_eq_false, not_false_eq_true, ia, e, ev]); refine hK _ _ (by simp only [List.cons_append, List.nil_append]; first | done | rfl) ?_; clear hK; clear K)))
          have rd := bdA_rng lx ly x y h
          have re := bdB_rng lx ly x y h
          have rf := sg_rng (h - lh)
          generalize bdA lx ly x y h = u1 at *
          generalize bdB lx ly x y h = u2 at *
          generalize sg (h - lh) = u3 at *
          generalize bdA x y tx ty h = v1 at *
          generalize bdB x y tx ty h = v2 at *
          generalize sg (th - h) = v3 at *
          have w1 := wsum_rng (a := g0) (b := g1) (c := g2) (m := g6) (s := sx) (u := v1) (v := u1) (by omega) (by omega) (by omega) (by omega) (by omega) (by omega) (by omega) (by omega) (by omega) (by omega) (by omega) (by omega)
          have c1 : max (0 - g6) (min (sx + v1) g6) = cutI g6 (sx + v1) := rfl
          have w2 := wsum_rng (a := g0) (b := g1) (c := g2) (m := g6) (s := sy) (u := v2) (v := u2) (by omega) (by omega) (by omega) (by omega) (by omega) (by omega) (by omega) (by omega) (by omega) (by omega) (by omega) (by omega)
          have c2 : max (0 - g6) (min (sy + v2) g6) = cutI g6 (sy + v2) := rfl
          have w3 := wsum_rng (a := g3) (b := g4) (c := g5) (m := g6) (s := sh) (u := v3) (v := u3) (by omega) (by omega) (by omega) (by omega) (by omega) (by omega) (by omega) (by omega) (by omega) (by omega) (by omega) (by omega)
          have c3 : max (0 - g6) (min (sh + v3) g6) = cutI g6 (sh + v3) := rfl
          refine To.viaK (by (try simp (disch := omega) only [X.den, X.dens, X.denss, D.int_i, D.boo_b, D.str_s, D.rows_l, List.getD_cons_zero, List.getD_cons_succ, List.cons_append, List.nil_append, List.append_nil, List.length_cons, List.length_nil, decide_eq_true_eq, decide_eq_false_iff_not, Bool.not_eq_true', Bool.not_eq_false', Bool.and_eq_true, Bool.and_eq_false_iff, Bool.true_eq_false, Bool.false_eq_true, Bool.not_true, Bool.not_false, eq_self, D.len_l, wr64, not_true_eq_false, not_false_eq_true, c1, c2, c3]); exact hfR_to (n := g0 * v1 + g1 * cutI g6 (sx + v1) - g2 * u1) (d := 1000) (by omega) (by omega) (by omega) (by omega)) ?_
          rintro _ ρ2 rfl eρ
          refine ⟨rfl, ?_⟩
          simp only [List.cons_append, List.nil_append] at eρ
          subst eρ
          refine To.viaK (by (try simp (disch := omega) only [X.den, X.dens, X.denss, D.int_i, D.boo_b, D.str_s, D.rows_l, List.getD_cons_zero, List.getD_cons_succ, List.cons_append, List.nil_append, List.append_nil, List.length_cons, List.length_nil, decide_eq_true_eq, decide_eq_false_iff_not, Bool.not_eq_true', Bool.not_eq_false', Bool.and_eq_true, Bool.and_eq_false_iff, Bool.true_eq_false, Bool.false_eq_true, Bool.not_true, Bool.not_false, eq_self, D.len_l, wr64, not_true_eq_false, not_false_eq_true, c1, c2, c3]); exact hfR_to (n := g0 * v2 + g1 * cutI g6 (sy + v2) - g2 * u2) (d := 1000) (by omega) (by omega) (by omega) (by omega)) ?_
          rintro _ ρ2 rfl eρ
          refine ⟨rfl, ?_⟩
          simp only [List.cons_append, List.nil_append] at eρ
          subst eρ
          refine To.viaK (by (try simp (disch := omega) only [X.den, X.dens, X.denss, D.int_i, D.boo_b, D.str_s, D.rows_l, List.getD_cons_zero, List.getD_cons_succ, List.cons_append, List.nil_append, List.append_nil, List.length_cons, List.length_nil, decide_eq_true_eq, decide_eq_false_iff_not, Bool.not_eq_true', Bool.not_eq_false', Bool.and_eq_true, Bool.and_eq_false_iff, Bool.true_eq_false, Bool.false_eq_true, Bool.not_true, Bool.not_false, eq_self, D.len_l, wr64, not_true_eq_false, not_false_eq_true, c1, c2, c3]); exact hfR_to (n := g3 * v3 + g4 * cutI g6 (sh + v3) - g5 * u3) (d := 1000) (by omega) (by omega) (by omega) (by omega)) ?_
          rintro _ ρ2 rfl eρ
          refine ⟨rfl, ?_⟩
          simp only [List.cons_append, List.nil_append] at eρ
          subst eρ
          refine To.ret ?_
          simp (disch := omega) only [X.den, X.dens, X.denss, D.int_i, D.boo_b, D.str_s, D.rows_l, List.getD_cons_zero, List.getD_cons_succ, List.cons_append, List.nil_append, List.append_nil, List.length_cons, List.length_nil, wr64, c1, c2, c3]
          first | done | rfl
      · have ed : dmO g0 g1 g2 g3 g4 g5 g6 g7 g8 sx sy sh lx ly lh x y h tx ty th sn1 = [.i 0, .i 0, .i 0, .i 0, .i 0, .i 0, .i 0, .i 0, .i 0, .b false, .i 1] := (if_pos hg).trans (if_neg (fun q => hr q.2))
        rw [ed]
        clear ed
        unfold okp at hr
        (repeat' (first
            | (refine To.callX rfl (fun ρ2 eρ => ⟨rfl, ?_⟩); simp (disch := omega) only [X.den, X.dens, X.denss, D.int_i, D.boo_b, D.str_s, D.rows_l, List.getD_cons_zero, List.getD_cons_succ, List.cons_append, List.nil_append, List.append_nil, List.length_cons, List.length_nil, decide_eq_true_eq, decide_eq_false_iff_not, Bool.not_eq_true', Bool.not_eq_false', Bool.and_eq_true, Bool.and_eq_false_iff, Bool.true_eq_false, Bool.false_eq_true, Bool.not_true, Bool.not_false, eq_self, D.len_l, wr64, not_true_eq_false, not_false_eq_true, ia, e, ev] at eρ; subst eρ)
            | (refine To.subK (fun K hK => ?_))
            | (refine To.need (by simp (disch := omega) only [X.den, X.dens, X.denss, D.int_i, D.boo_b, D.str_s, D.rows_l, List.getD_cons_zero, List.getD_cons_succ, List.cons_append, List.nil_append, List.append_nil, List.length_cons, List.length_nil, decide_eq_true_eq, decide_eq_false_iff_not, Bool.not_eq_true', Bool.not_eq_false', Bool.and_eq_true, Bool.and_eq_false_iff, Bool.true_eq_false, Bool.false_eq_true, Bool.not_true, Bool.not_false, eq_self, D.len_l, wr64, not_true_eq_false, not_false_eq_true, ia, e, ev] <;> omega) ?_)
            | (refine To.ite (fun c => ?_) (fun c => ?_) <;> ((try simp (disch := omega) only [X.den, X.dens, X.denss, D.int_i, D.boo_b, D.str_s, D.rows_l, List.getD_cons_zero, List.getD_cons_succ, List.cons_append, List.nil_append, List.append_nil, List.length_cons, List.length_nil, decide_eq_true_eq, decide_eq_false_iff_not, Bool.not_eq_true', Bool.not_eq_false', Bool.and_eq_true, Bool.and_eq_false_iff, Bool.true_eq_false, Bool.false_eq_true, Bool.not_true, Bool.not_false, eq_self, D.len_l, wr64, not_true_eq_false, not_false_eq_true, ia, e, ev] at c) <;> (try (exfalso; omega))))
            | (refine To.ret ⟨rfl, ?_⟩; (try simp (disch := omega) only [X.den, X.dens, X.denss, D.int_i, D.boo_b, D.str_s, D.rows_l, List.getD_cons_zero, List.getD_cons_succ, List.cons_append, List.nil_append, List.append_nil, List.length_cons, List.length_nil, decide_eq_true_eq, decide_eq_false_iff_not, Bool.not_eq_true', Bool.not_eq_false', Bool.and_eq_true, Bool.and_eq_false_iff, Bool.true_eq_false, Bool.false_eq_true, Bool.not_true, Bool.not_false, eq_self, D.len_l, wr64, not_true_eq_false, not_false_eq_true, ia, e, ev]); refine hK _ _ (by simp only [List.cons_append, List.nil_append]; first | done | rfl) ?_; clear hK; clear K)))
        all_goals (refine To.ret ?_; simp only [X.den, X.dens, X.denss, D.int_i, D.boo_b, D.str_s, D.rows_l, List.getD_cons_zero, List.getD_cons_succ, List.cons_append, List.nil_append, List.append_nil, List.length_cons, List.length_nil])
    · have ev : vd g0 g1 g2 g3 g4 g5 g6 g7 g8 sx sy sh lx ly lh = false := decide_eq_false hv
      have ed : dmO g0 g1 g2 g3 g4 g5 g6 g7 g8 sx sy sh lx ly lh x y h tx ty th sn1 = [.i 0, .i 0, .i 0, .i 0, .i 0, .i 0, .i 0, .i 0, .i 0, .b false, .i 1] := (if_pos hg).trans (if_neg (fun q => hv q.1))
      rw [ed]
      clear ed
      (repeat' (first
          | (refine To.callX rfl (fun ρ2 eρ => ⟨rfl, ?_⟩); simp (disch := omega) only [X.den, X.dens, X.denss, D.int_i, D.boo_b, D.str_s, D.rows_l, List.getD_cons_zero, List.getD_cons_succ, List.cons_append, List.nil_append, List.append_nil, List.length_cons, List.length_nil, decide_eq_true_eq, decide_eq_false_iff_not, Bool.not_eq_true', Bool.not_eq_false', Bool.and_eq_true, Bool.and_eq_false_iff, Bool.true_eq_false, Bool.false_eq_true, Bool.not_true, Bool.not_false, eq_self, D.len_l, wr64, not_true_eq_false, not_false_eq_true, ia, e, ev] at eρ; subst eρ)
          | (refine To.subK (fun K hK => ?_))
          | (refine To.need (by simp (disch := omega) only [X.den, X.dens, X.denss, D.int_i, D.boo_b, D.str_s, D.rows_l, List.getD_cons_zero, List.getD_cons_succ, List.cons_append, List.nil_append, List.append_nil, List.length_cons, List.length_nil, decide_eq_true_eq, decide_eq_false_iff_not, Bool.not_eq_true', Bool.not_eq_false', Bool.and_eq_true, Bool.and_eq_false_iff, Bool.true_eq_false, Bool.false_eq_true, Bool.not_true, Bool.not_false, eq_self, D.len_l, wr64, not_true_eq_false, not_false_eq_true, ia, e, ev] <;> omega) ?_)
          | (refine To.ite (fun c => ?_) (fun c => ?_) <;> ((try simp (disch := omega) only [X.den, X.dens, X.denss, D.int_i, D.boo_b, D.str_s, D.rows_l, List.getD_cons_zero, List.getD_cons_succ, List.cons_append, List.nil_append, List.append_nil, List.length_cons, List.length_nil, decide_eq_true_eq, decide_eq_false_iff_not, Bool.not_eq_true', Bool.not_eq_false', Bool.and_eq_true, Bool.and_eq_false_iff, Bool.true_eq_false, Bool.false_eq_true, Bool.not_true, Bool.not_false, eq_self, D.len_l, wr64, not_true_eq_false, not_false_eq_true, ia, e, ev] at c) <;> (try (exfalso; omega))))
          | (refine To.ret ⟨rfl, ?_⟩; (try simp (disch := omega) only [X.den, X.dens, X.denss, D.int_i, D.boo_b, D.str_s, D.rows_l, List.getD_cons_zero, List.getD_cons_succ, List.cons_append, List.nil_append, List.append_nil, List.length_cons, List.length_nil, decide_eq_true_eq, decide_eq_false_iff_not, Bool.not_eq_true', Bool.not_eq_false', Bool.and_eq_true, Bool.and_eq_false_iff, Bool.true_eq_false, Bool.false_eq_true, Bool.not_true, Bool.not_false, eq_self, D.len_l, wr64, not_true_eq_false, not_false_eq_true, ia, e, ev]); refine hK _ _ (by simp only [List.cons_append, List.nil_append]; first | done | rfl) ?_; clear hK; clear K)))
      all_goals (refine To.ret ?_; simp only [X.den, X.dens, X.denss, D.int_i, D.boo_b, D.str_s, D.rows_l, List.getD_cons_zero, List.getD_cons_succ, List.cons_append, List.nil_append, List.append_nil, List.length_cons, List.length_nil])
  · have e := ck_no hg
    have ed : dmO g0 g1 g2 g3 g4 g5 g6 g7 g8 sx sy sh lx ly lh x y h tx ty th sn1 = [.i 0, .i 0, .i 0, .i 0, .i 0, .i 0, .i 0, .i 0, .i 0, .b false, .i 62] := if_neg hg
    rw [ed]
    clear ed
    (repeat' (first
        | (refine To.callX rfl (fun ρ2 eρ => ⟨rfl, ?_⟩); simp (disch := omega) only [X.den, X.dens, X.denss, D.int_i, D.boo_b, D.str_s, D.rows_l, List.getD_cons_zero, List.getD_cons_succ, List.cons_append, List.nil_append, List.append_nil, List.length_cons, List.length_nil, decide_eq_true_eq, decide_eq_false_iff_not, Bool.not_eq_true', Bool.not_eq_false', Bool.and_eq_true, Bool.and_eq_false_iff, Bool.true_eq_false, Bool.false_eq_true, Bool.not_true, Bool.not_false, eq_self, D.len_l, wr64, not_true_eq_false, not_false_eq_true, ia, e] at eρ; subst eρ)
        | (refine To.subK (fun K hK => ?_))
        | (refine To.need (by simp (disch := omega) only [X.den, X.dens, X.denss, D.int_i, D.boo_b, D.str_s, D.rows_l, List.getD_cons_zero, List.getD_cons_succ, List.cons_append, List.nil_append, List.append_nil, List.length_cons, List.length_nil, decide_eq_true_eq, decide_eq_false_iff_not, Bool.not_eq_true', Bool.not_eq_false', Bool.and_eq_true, Bool.and_eq_false_iff, Bool.true_eq_false, Bool.false_eq_true, Bool.not_true, Bool.not_false, eq_self, D.len_l, wr64, not_true_eq_false, not_false_eq_true, ia, e] <;> omega) ?_)
        | (refine To.ite (fun c => ?_) (fun c => ?_) <;> ((try simp (disch := omega) only [X.den, X.dens, X.denss, D.int_i, D.boo_b, D.str_s, D.rows_l, List.getD_cons_zero, List.getD_cons_succ, List.cons_append, List.nil_append, List.append_nil, List.length_cons, List.length_nil, decide_eq_true_eq, decide_eq_false_iff_not, Bool.not_eq_true', Bool.not_eq_false', Bool.and_eq_true, Bool.and_eq_false_iff, Bool.true_eq_false, Bool.false_eq_true, Bool.not_true, Bool.not_false, eq_self, D.len_l, wr64, not_true_eq_false, not_false_eq_true, ia, e] at c) <;> (try (exfalso; omega))))
        | (refine To.ret ⟨rfl, ?_⟩; (try simp (disch := omega) only [X.den, X.dens, X.denss, D.int_i, D.boo_b, D.str_s, D.rows_l, List.getD_cons_zero, List.getD_cons_succ, List.cons_append, List.nil_append, List.append_nil, List.length_cons, List.length_nil, decide_eq_true_eq, decide_eq_false_iff_not, Bool.not_eq_true', Bool.not_eq_false', Bool.and_eq_true, Bool.and_eq_false_iff, Bool.true_eq_false, Bool.false_eq_true, Bool.not_true, Bool.not_false, eq_self, D.len_l, wr64, not_true_eq_false, not_false_eq_true, ia, e]); refine hK _ _ (by simp only [List.cons_append, List.nil_append]; first | done | rfl) ?_; clear hK; clear K)))
    all_goals (refine To.ret ?_; simp only [X.den, X.dens, X.denss, D.int_i, D.boo_b, D.str_s, D.rows_l, List.getD_cons_zero, List.getD_cons_succ, List.cons_append, List.nil_append, List.append_nil, List.length_cons, List.length_nil, e])
theorem rdem_full {g0 g1 g2 g3 g4 g5 g6 g7 g8 sx sy sh lx ly lh x y h tx ty th : Int} {sn1 : Bool} : ∃ o, rDem_T.run rdM 30 [.i g0, .i g1, .i g2, .i g3, .i g4, .i g5, .i g6, .i g7, .i g8, .i sx, .i sy, .i sh, .i lx, .i ly, .i lh, .b sn1, .i x, .i y, .i h, .i tx, .i ty, .i th] = some o ∧ o = dmO g0 g1 g2 g3 g4 g5 g6 g7 g8 sx sy sh lx ly lh x y h tx ty th sn1 := by
  refine run_to ?_
  unfold rDem_T
  by_cases hg : gok g0 g1 g2 g3 g4 g5 g6 g7 g8
  · have e := ck_yes hg
    by_cases hv : vok g0 g1 g2 g3 g4 g5 g6 g7 g8 sx sy sh lx ly lh
    · have ev : vd g0 g1 g2 g3 g4 g5 g6 g7 g8 sx sy sh lx ly lh = true := decide_eq_true hv
      by_cases hr : okp x y ∧ okp tx ty ∧ (0 ≤ h ∧ h < 3600) ∧ 0 ≤ th ∧ th < 3600
      · have ed : dmO g0 g1 g2 g3 g4 g5 g6 g7 g8 sx sy sh lx ly lh x y h tx ty th sn1 = [.i (cutI g7 (hdv (wsum g0 g1 g2 g6 sx (bdA x y tx ty h) (if sn1 = true then bdA lx ly x y h else 0)) 1000)), .i (cutI g7 (hdv (wsum g0 g1 g2 g6 sy (bdB x y tx ty h) (if sn1 = true then bdB lx ly x y h else 0)) 1000)), .i (cutI g8 (hdv (wsum g3 g4 g5 g6 sh (sg (th - h)) (if sn1 = true then sg (h - lh) else 0)) 1000)), .i (cutI g6 (sx + (bdA x y tx ty h))), .i (cutI g6 (sy + (bdB x y tx ty h))), .i (cutI g6 (sh + (sg (th - h)))), .i x, .i y, .i h, .b true, .i 0] := (if_pos hg).trans (if_pos ⟨hv, hr⟩)
        rw [ed]
        clear ed
        unfold gok at hg
        unfold vok at hv
        obtain ⟨_, hv⟩ := hv
        unfold okp at hv hr
        have ra := bdA_rng x y tx ty h
        have rb := bdB_rng x y tx ty h
        have rc := sg_rng (th - h)
        cases sn1
        · simp only [Bool.false_eq_true, if_false, if_true]
          (repeat' (first
              | (refine To.callX rfl (fun ρ2 eρ => ⟨rfl, ?_⟩); simp (disch := omega) only [X.den, X.dens, X.denss, D.int_i, D.boo_b, D.str_s, D.rows_l, List.getD_cons_zero, List.getD_cons_succ, List.cons_append, List.nil_append, List.append_nil, List.length_cons, List.length_nil, decide_eq_true_eq, decide_eq_false_iff_not, Bool.not_eq_true', Bool.not_eq_false', Bool.and_eq_true, Bool.and_eq_false_iff, Bool.true_eq_false, Bool.false_eq_true, Bool.not_true, Bool.not_false, eq_self, D.len_l, wr64, not_true_eq_false, not_false_eq_true, ia, e, ev] at eρ; subst eρ)
              | (refine To.subK (fun K hK => ?_))
              | (refine To.need (by simp (disch := omega) only [X.den, X.dens, X.denss, D.int_i, D.boo_b, D.str_s, D.rows_l, List.getD_cons_zero, List.getD_cons_succ, List.cons_append, List.nil_append, List.append_nil, List.length_cons, List.length_nil, decide_eq_true_eq, decide_eq_false_iff_not, Bool.not_eq_true', Bool.not_eq_false', Bool.and_eq_true, Bool.and_eq_false_iff, Bool.true_eq_false, Bool.false_eq_true, Bool.not_true, Bool.not_false, eq_self, D.len_l, wr64, not_true_eq_false, not_false_eq_true, ia, e, ev] <;> omega) ?_)
              | (refine To.ite (fun c => ?_) (fun c => ?_) <;> ((try simp (disch := omega) only [X.den, X.dens, X.denss, D.int_i, D.boo_b, D.str_s, D.rows_l, List.getD_cons_zero, List.getD_cons_succ, List.cons_append, List.nil_append, List.append_nil, List.length_cons, List.length_nil, decide_eq_true_eq, decide_eq_false_iff_not, Bool.not_eq_true', Bool.not_eq_false', Bool.and_eq_true, Bool.and_eq_false_iff, Bool.true_eq_false, Bool.false_eq_true, Bool.not_true, Bool.not_false, eq_self, D.len_l, wr64, not_true_eq_false, not_false_eq_true, ia, e, ev] at c) <;> (try (exfalso; omega))))
              | (refine To.ret ⟨rfl, ?_⟩; (try simp (disch := omega) only [X.den, X.dens, X.denss, D.int_i, D.boo_b, D.str_s, D.rows_l, List.getD_cons_zero, List.getD_cons_succ, List.cons_append, List.nil_append, List.append_nil, List.length_cons, List.length_nil, decide_eq_true_eq, decide_eq_false_iff_not, Bool.not_eq_true', Bool.not_eq_false', Bool.and_eq_true, Bool.and_eq_false_iff, Bool.true_eq_false, Bool.false_eq_true, Bool.not_true, Bool.not_false, eq_self, D.len_l, wr64, not_true_eq_false, not_false_eq_true, ia, e, ev]); refine hK _ _ (by simp only [List.cons_append, List.nil_append]; first | done | rfl) ?_; clear hK; clear K)))
          generalize bdA x y tx ty h = v1 at *
          generalize bdB x y tx ty h = v2 at *
          generalize sg (th - h) = v3 at *
          have w1 := wsum_rng (a := g0) (b := g1) (c := g2) (m := g6) (s := sx) (u := v1) (v := 0) (by omega) (by omega) (by omega) (by omega) (by omega) (by omega) (by omega) (by omega) (by omega) (by omega) (by omega) (by omega)
          have c1 : max (0 - g6) (min (sx + v1) g6) = cutI g6 (sx + v1) := rfl
          have w2 := wsum_rng (a := g0) (b := g1) (c := g2) (m := g6) (s := sy) (u := v2) (v := 0) (by omega) (by omega) (by omega) (by omega) (by omega) (by omega) (by omega) (by omega) (by omega) (by omega) (by omega) (by omega)
          have c2 : max (0 - g6) (min (sy + v2) g6) = cutI g6 (sy + v2) := rfl
          have w3 := wsum_rng (a := g3) (b := g4) (c := g5) (m := g6) (s := sh) (u := v3) (v := 0) (by omega) (by omega) (by omega) (by omega) (by omega) (by omega) (by omega) (by omega) (by omega) (by omega) (by omega) (by omega)
          have c3 : max (0 - g6) (min (sh + v3) g6) = cutI g6 (sh + v3) := rfl
          refine To.viaK (by (try simp (disch := omega) only [X.den, X.dens, X.denss, D.int_i, D.boo_b, D.str_s, D.rows_l, List.getD_cons_zero, List.getD_cons_succ, List.cons_append, List.nil_append, List.append_nil, List.length_cons, List.length_nil, decide_eq_true_eq, decide_eq_false_iff_not, Bool.not_eq_true', Bool.not_eq_false', Bool.and_eq_true, Bool.and_eq_false_iff, Bool.true_eq_false, Bool.false_eq_true, Bool.not_true, Bool.not_false, eq_self, D.len_l, wr64, not_true_eq_false, not_false_eq_true, c1, c2, c3]); exact rdR_to (n := g0 * v1 + g1 * cutI g6 (sx + v1) - g2 * 0) (d := 1000) (by omega) (by omega) (by omega) (by omega)) ?_
          rintro _ ρ2 rfl eρ
          refine ⟨rfl, ?_⟩
          simp only [List.cons_append, List.nil_append] at eρ
          subst eρ
          refine To.viaK (by (try simp (disch := omega) only [X.den, X.dens, X.denss, D.int_i, D.boo_b, D.str_s, D.rows_l, List.getD_cons_zero, List.getD_cons_succ, List.cons_append, List.nil_append, List.append_nil, List.length_cons, List.length_nil, decide_eq_true_eq, decide_eq_false_iff_not, Bool.not_eq_true', Bool.not_eq_false', Bool.and_eq_true, Bool.and_eq_false_iff, Bool.true_eq_false, Bool.false_eq_true, Bool.not_true, Bool.not_false, eq_self, D.len_l, wr64, not_true_eq_false, not_false_eq_true, c1, c2, c3]); exact rdR_to (n := g0 * v2 + g1 * cutI g6 (sy + v2) - g2 * 0) (d := 1000) (by omega) (by omega) (by omega) (by omega)) ?_
          rintro _ ρ2 rfl eρ
          refine ⟨rfl, ?_⟩
          simp only [List.cons_append, List.nil_append] at eρ
          subst eρ
          refine To.viaK (by (try simp (disch := omega) only [X.den, X.dens, X.denss, D.int_i, D.boo_b, D.str_s, D.rows_l, List.getD_cons_zero, List.getD_cons_succ, List.cons_append, List.nil_append, List.append_nil, List.length_cons, List.length_nil, decide_eq_true_eq, decide_eq_false_iff_not, Bool.not_eq_true', Bool.not_eq_false', Bool.and_eq_true, Bool.and_eq_false_iff, Bool.true_eq_false, Bool.false_eq_true, Bool.not_true, Bool.not_false, eq_self, D.len_l, wr64, not_true_eq_false, not_false_eq_true, c1, c2, c3]); exact rdR_to (n := g3 * v3 + g4 * cutI g6 (sh + v3) - g5 * 0) (d := 1000) (by omega) (by omega) (by omega) (by omega)) ?_
          rintro _ ρ2 rfl eρ
          refine ⟨rfl, ?_⟩
          simp only [List.cons_append, List.nil_append] at eρ
          subst eρ
          refine To.ret ?_
          simp (disch := omega) only [X.den, X.dens, X.denss, D.int_i, D.boo_b, D.str_s, D.rows_l, List.getD_cons_zero, List.getD_cons_succ, List.cons_append, List.nil_append, List.append_nil, List.length_cons, List.length_nil, wr64, c1, c2, c3]
          first | done | rfl
        · simp only [Bool.false_eq_true, if_false, if_true]
          (repeat' (first
              | (refine To.callX rfl (fun ρ2 eρ => ⟨rfl, ?_⟩); simp (disch := omega) only [X.den, X.dens, X.denss, D.int_i, D.boo_b, D.str_s, D.rows_l, List.getD_cons_zero, List.getD_cons_succ, List.cons_append, List.nil_append, List.append_nil, List.length_cons, List.length_nil, decide_eq_true_eq, decide_eq_false_iff_not, Bool.not_eq_true', Bool.not_eq_false', Bool.and_eq_true, Bool.and_eq_false_iff, Bool.true_eq_false, Bool.false_eq_true, Bool.not_true, Bool.not_false, eq_self, D.len_l, wr64, not_true_eq_false, not_false_eq_true, ia, e, ev] at eρ; subst eρ)
              | (refine To.subK (fun K hK => ?_))
              | (refine To.need (by simp (disch := omega) only [X.den, X.dens, X.denss, D.int_i, D.boo_b, D.str_s, D.rows_l, List.getD_cons_zero, List.getD_cons_succ, List.cons_append, List.nil_append, List.append_nil, List.length_cons, List.length_nil, decide_eq_true_eq, decide_eq_false_iff_not, Bool.not_eq_true', Bool.not_eq_false', Bool.and_eq_true, Bool.and_eq_false_iff, Bool.true_eq_false, Bool.false_eq_true, Bool.not_true, Bool.not_false, eq_self, D.len_l, wr64, not_true_eq_false, not_false_eq_true, ia, e, ev] <;> omega) ?_)
              | (refine To.ite (fun c => ?_) (fun c => ?_) <;> ((try simp (disch := omega) only [X.den, X.dens, X.denss, D.int_i, D.boo_b, D.str_s, D.rows_l, List.getD_cons_zero, List.getD_cons_succ, List.cons_append, List.nil_append, List.append_nil, List.length_cons, List.length_nil, decide_eq_true_eq, decide_eq_false_iff_not, Bool.not_eq_true', Bool.not_eq_false', Bool.and_eq_true, Bool.and_eq_false_iff, Bool.true_eq_false, Bool.false_eq_true, Bool.not_true, Bool.not_false, eq_self, D.len_l, wr64, not_true_eq_false, not_false_eq_true, ia, e, ev] at c) <;> (try (exfalso; omega))))
              | (refine To.ret ⟨rfl, ?_⟩; (try simp (disch := omega) only [X.den, X.dens, X.denss, D.int_i, D.boo_b, D.str_s, D.rows_l, List.getD_cons_zero, List.getD_cons_succ, List.cons_append, List.nil_append, List.append_nil, List.length_cons, List.length_nil, decide_eq_true_eq, decide_eq_false_iff_not, Bool.not_eq_true', Bool.not_eq_false', Bool.and_eq_true, Bool.and_eq_false_iff, Bool.true_eq_false, Bool.false_eq_true, Bool.not_true, Bool.not_false, eq_self, D.len_l, wr64, not_true_eq_false, not_false_eq_true, ia, e, ev]); refine hK _ _ (by simp only [List.cons_append, List.nil_append]; first | done | rfl) ?_; clear hK; clear K)))
          have rd := bdA_rng lx ly x y h
          have re := bdB_rng lx ly x y h
          have rf := sg_rng (h - lh)
          generalize bdA lx ly x y h = u1 at *
          generalize bdB lx ly x y h = u2 at *
          generalize sg (h - lh) = u3 at *
          generalize bdA x y tx ty h = v1 at *
          generalize bdB x y tx ty h = v2 at *
          generalize sg (th - h) = v3 at *
          have w1 := wsum_rng (a := g0) (b := g1) (c := g2) (m := g6) (s := sx) (u := v1) (v := u1) (by omega) (by omega) (by omega) (by omega) (by omega) (by omega) (by omega) (by omega) (by omega) (by omega) (by omega) (by omega)
          have c1 : max (0 - g6) (min (sx + v1) g6) = cutI g6 (sx + v1) := rfl
          have w2 := wsum_rng (a := g0) (b := g1) (c := g2) (m := g6) (s := sy) (u := v2) (v := u2) (by omega) (by omega) (by omega) (by omega) (by omega) (by omega) (by omega) (by omega) (by omega) (by omega) (by omega) (by omega)
          have c2 : max (0 - g6) (min (sy + v2) g6) = cutI g6 (sy + v2) := rfl
          have w3 := wsum_rng (a := g3) (b := g4) (c := g5) (m := g6) (s := sh) (u := v3) (v := u3) (by omega) (by omega) (by omega) (by omega) (by omega) (by omega) (by omega) (by omega) (by omega) (by omega) (by omega) (by omega)
          have c3 : max (0 - g6) (min (sh + v3) g6) = cutI g6 (sh + v3) := rfl
          refine To.viaK (by (try simp (disch := omega) only [X.den, X.dens, X.denss, D.int_i, D.boo_b, D.str_s, D.rows_l, List.getD_cons_zero, List.getD_cons_succ, List.cons_append, List.nil_append, List.append_nil, List.length_cons, List.length_nil, decide_eq_true_eq, decide_eq_false_iff_not, Bool.not_eq_true', Bool.not_eq_false', Bool.and_eq_true, Bool.and_eq_false_iff, Bool.true_eq_false, Bool.false_eq_true, Bool.not_true, Bool.not_false, eq_self, D.len_l, wr64, not_true_eq_false, not_false_eq_true, c1, c2, c3]); exact rdR_to (n := g0 * v1 + g1 * cutI g6 (sx + v1) - g2 * u1) (d := 1000) (by omega) (by omega) (by omega) (by omega)) ?_
          rintro _ ρ2 rfl eρ
          refine ⟨rfl, ?_⟩
          simp only [List.cons_append, List.nil_append] at eρ
          subst eρ
          refine To.viaK (by (try simp (disch := omega) only [X.den, X.dens, X.denss, D.int_i, D.boo_b, D.str_s, D.rows_l, List.getD_cons_zero, List.getD_cons_succ, List.cons_append, List.nil_append, List.append_nil, List.length_cons, List.length_nil, decide_eq_true_eq, decide_eq_false_iff_not, Bool.not_eq_true', Bool.not_eq_false', Bool.and_eq_true, Bool.and_eq_false_iff, Bool.true_eq_false, Bool.false_eq_true, Bool.not_true, Bool.not_false, eq_self, D.len_l, wr64, not_true_eq_false, not_false_eq_true, c1, c2, c3]); exact rdR_to (n := g0 * v2 + g1 * cutI g6 (sy + v2) - g2 * u2) (d := 1000) (by omega) (by omega) (by omega) (by omega)) ?_
          rintro _ ρ2 rfl eρ
          refine ⟨rfl, ?_⟩
          simp only [List.cons_append, List.nil_append] at eρ
          subst eρ
          refine To.viaK (by (try simp (disch := omega) only [X.den, X.dens, X.denss, D.int_i, D.boo_b, D.str_s, D.rows_l, List.getD_cons_zero, List.getD_cons_succ, List.cons_append, List.nil_append, List.append_nil, List.length_cons, List.length_nil, decide_eq_true_eq, decide_eq_false_iff_not, Bool.not_eq_true', Bool.not_eq_false', Bool.and_eq_true, Bool.and_eq_false_iff, Bool.true_eq_false, Bool.false_eq_true, Bool.not_true, Bool.not_false, eq_self, D.len_l, wr64, not_true_eq_false, not_false_eq_true, c1, c2, c3]); exact rdR_to (n := g3 * v3 + g4 * cutI g6 (sh + v3) - g5 * u3) (d := 1000) (by omega) (by omega) (by omega) (by omega)) ?_
          rintro _ ρ2 rfl eρ
          refine ⟨rfl, ?_⟩
          simp only [List.cons_append, List.nil_append] at eρ
          subst eρ
          refine To.ret ?_
          simp (disch := omega) only [X.den, X.dens, X.denss, D.int_i, D.boo_b, D.str_s, D.rows_l, List.getD_cons_zero, List.getD_cons_succ, List.cons_append, List.nil_append, List.append_nil, List.length_cons, List.length_nil, wr64, c1, c2, c3]
          first | done | rfl
      · have ed : dmO g0 g1 g2 g3 g4 g5 g6 g7 g8 sx sy sh lx ly lh x y h tx ty th sn1 = [.i 0, .i 0, .i 0, .i 0, .i 0, .i 0, .i 0, .i 0, .i 0, .b false, .i 1] := (if_pos hg).trans (if_neg (fun q => hr q.2))
        rw [ed]
        clear ed
        unfold okp at hr
        (repeat' (first
            | (refine To.callX rfl (fun ρ2 eρ => ⟨rfl, ?_⟩); simp (disch := omega) only [X.den, X.dens, X.denss, D.int_i, D.boo_b, D.str_s, D.rows_l, List.getD_cons_zero, List.getD_cons_succ, List.cons_append, List.nil_append, List.append_nil, List.length_cons, List.length_nil, decide_eq_true_eq, decide_eq_false_iff_not, Bool.not_eq_true', Bool.not_eq_false', Bool.and_eq_true, Bool.and_eq_false_iff, Bool.true_eq_false, Bool.false_eq_true, Bool.not_true, Bool.not_false, eq_self, D.len_l, wr64, not_true_eq_false, not_false_eq_true, ia, e, ev] at eρ; subst eρ)
            | (refine To.subK (fun K hK => ?_))
            | (refine To.need (by simp (disch := omega) only [X.den, X.dens, X.denss, D.int_i, D.boo_b, D.str_s, D.rows_l, List.getD_cons_zero, List.getD_cons_succ, List.cons_append, List.nil_append, List.append_nil, List.length_cons, List.length_nil, decide_eq_true_eq, decide_eq_false_iff_not, Bool.not_eq_true', Bool.not_eq_false', Bool.and_eq_true, Bool.and_eq_false_iff, Bool.true_eq_false, Bool.false_eq_true, Bool.not_true, Bool.not_false, eq_self, D.len_l, wr64, not_true_eq_false, not_false_eq_true, ia, e, ev] <;> omega) ?_)
            | (refine To.ite (fun c => ?_) (fun c => ?_) <;> ((try simp (disch := omega) only [X.den, X.dens, X.denss, D.int_i, D.boo_b, D.str_s, D.rows_l, List.getD_cons_zero, List.getD_cons_succ, List.cons_append, List.nil_append, List.append_nil, List.length_cons, List.length_nil, decide_eq_true_eq, decide_eq_false_iff_not, Bool.not_eq_true', Bool.not_eq_false', Bool.and_eq_true, Bool.and_eq_false_iff, Bool.true_eq_false, Bool.false_eq_true, Bool.not_true, Bool.not_false, eq_self, D.len_l, wr64, not_true_eq_false, not_false_eq_true, ia, e, ev] at c) <;> (try (exfalso; omega))))
            | (refine To.ret ⟨rfl, ?_⟩; (try simp (disch := omega) only [X.den, X.dens, X.denss, D.int_i, D.boo_b, D.str_s, D.rows_l, List.getD_cons_zero, List.getD_cons_succ, List.cons_append, List.nil_append, List.append_nil, List.length_cons, List.length_nil, decide_eq_true_eq, decide_eq_false_iff_not, Bool.not_eq_true', Bool.not_eq_false', Bool.and_eq_true, Bool.and_eq_false_iff, Bool.true_eq_false, Bool.false_eq_true, Bool.not_true, Bool.not_false, eq_self, D.len_l, wr64, not_true_eq_false, not_false_eq_true, ia, e, ev]); refine hK _ _ (by simp only [List.cons_append, List.nil_append]; first | done | rfl) ?_; clear hK; clear K)))
        all_goals (refine To.ret ?_; simp only [X.den, X.dens, X.denss, D.int_i, D.boo_b, D.str_s, D.rows_l, List.getD_cons_zero, List.getD_cons_succ, List.cons_append, List.nil_append, List.append_nil, List.length_cons, List.length_nil])
    · have ev : vd g0 g1 g2 g3 g4 g5 g6 g7 g8 sx sy sh lx ly lh = false := decide_eq_false hv
      have ed : dmO g0 g1 g2 g3 g4 g5 g6 g7 g8 sx sy sh lx ly lh x y h tx ty th sn1 = [.i 0, .i 0, .i 0, .i 0, .i 0, .i 0, .i 0, .i 0, .i 0, .b false, .i 1] := (if_pos hg).trans (if_neg (fun q => hv q.1))
      rw [ed]
      clear ed
      (repeat' (first
          | (refine To.callX rfl (fun ρ2 eρ => ⟨rfl, ?_⟩); simp (disch := omega) only [X.den, X.dens, X.denss, D.int_i, D.boo_b, D.str_s, D.rows_l, List.getD_cons_zero, List.getD_cons_succ, List.cons_append, List.nil_append, List.append_nil, List.length_cons, List.length_nil, decide_eq_true_eq, decide_eq_false_iff_not, Bool.not_eq_true', Bool.not_eq_false', Bool.and_eq_true, Bool.and_eq_false_iff, Bool.true_eq_false, Bool.false_eq_true, Bool.not_true, Bool.not_false, eq_self, D.len_l, wr64, not_true_eq_false, not_false_eq_true, ia, e, ev] at eρ; subst eρ)
          | (refine To.subK (fun K hK => ?_))
          | (refine To.need (by simp (disch := omega) only [X.den, X.dens, X.denss, D.int_i, D.boo_b, D.str_s, D.rows_l, List.getD_cons_zero, List.getD_cons_succ, List.cons_append, List.nil_append, List.append_nil, List.length_cons, List.length_nil, decide_eq_true_eq, decide_eq_false_iff_not, Bool.not_eq_true', Bool.not_eq_false', Bool.and_eq_true, Bool.and_eq_false_iff, Bool.true_eq_false, Bool.false_eq_true, Bool.not_true, Bool.not_false, eq_self, D.len_l, wr64, not_true_eq_false, not_false_eq_true, ia, e, ev] <;> omega) ?_)
          | (refine To.ite (fun c => ?_) (fun c => ?_) <;> ((try simp (disch := omega) only [X.den, X.dens, X.denss, D.int_i, D.boo_b, D.str_s, D.rows_l, List.getD_cons_zero, List.getD_cons_succ, List.cons_append, List.nil_append, List.append_nil, List.length_cons, List.length_nil, decide_eq_true_eq, decide_eq_false_iff_not, Bool.not_eq_true', Bool.not_eq_false', Bool.and_eq_true, Bool.and_eq_false_iff, Bool.true_eq_false, Bool.false_eq_true, Bool.not_true, Bool.not_false, eq_self, D.len_l, wr64, not_true_eq_false, not_false_eq_true, ia, e, ev] at c) <;> (try (exfalso; omega))))
          | (refine To.ret ⟨rfl, ?_⟩; (try simp (disch := omega) only [X.den, X.dens, X.denss, D.int_i, D.boo_b, D.str_s, D.rows_l, List.getD_cons_zero, List.getD_cons_succ, List.cons_append, List.nil_append, List.append_nil, List.length_cons, List.length_nil, decide_eq_true_eq, decide_eq_false_iff_not, Bool.not_eq_true', Bool.not_eq_false', Bool.and_eq_true, Bool.and_eq_false_iff, Bool.true_eq_false, Bool.false_eq_true, Bool.not_true, Bool.not_false, eq_self, D.len_l, wr64, not_true_eq_false, not_false_eq_true, ia, e, ev]); refine hK _ _ (by simp only [List.cons_append, List.nil_append]; first | done | rfl) ?_; clear hK; clear K)))
      all_goals (refine To.ret ?_; simp only [X.den, X.dens, X.denss, D.int_i, D.boo_b, D.str_s, D.rows_l, List.getD_cons_zero, List.getD_cons_succ, List.cons_append, List.nil_append, List.append_nil, List.length_cons, List.length_nil])
  · have e := ck_no hg
    have ed : dmO g0 g1 g2 g3 g4 g5 g6 g7 g8 sx sy sh lx ly lh x y h tx ty th sn1 = [.i 0, .i 0, .i 0, .i 0, .i 0, .i 0, .i 0, .i 0, .i 0, .b false, .i 62] := if_neg hg
    rw [ed]
    clear ed
    (repeat' (first
        | (refine To.callX rfl (fun ρ2 eρ => ⟨rfl, ?_⟩); simp (disch := omega) only [X.den, X.dens, X.denss, D.int_i, D.boo_b, D.str_s, D.rows_l, List.getD_cons_zero, List.getD_cons_succ, List.cons_append, List.nil_append, List.append_nil, List.length_cons, List.length_nil, decide_eq_true_eq, decide_eq_false_iff_not, Bool.not_eq_true', Bool.not_eq_false', Bool.and_eq_true, Bool.and_eq_false_iff, Bool.true_eq_false, Bool.false_eq_true, Bool.not_true, Bool.not_false, eq_self, D.len_l, wr64, not_true_eq_false, not_false_eq_true, ia, e] at eρ; subst eρ)
        | (refine To.subK (fun K hK => ?_))
        | (refine To.need (by simp (disch := omega) only [X.den, X.dens, X.denss, D.int_i, D.boo_b, D.str_s, D.rows_l, List.getD_cons_zero, List.getD_cons_succ, List.cons_append, List.nil_append, List.append_nil, List.length_cons, List.length_nil, decide_eq_true_eq, decide_eq_false_iff_not, Bool.not_eq_true', Bool.not_eq_false', Bool.and_eq_true, Bool.and_eq_false_iff, Bool.true_eq_false, Bool.false_eq_true, Bool.not_true, Bool.not_false, eq_self, D.len_l, wr64, not_true_eq_false, not_false_eq_true, ia, e] <;> omega) ?_)
        | (refine To.ite (fun c => ?_) (fun c => ?_) <;> ((try simp (disch := omega) only [X.den, X.dens, X.denss, D.int_i, D.boo_b, D.str_s, D.rows_l, List.getD_cons_zero, List.getD_cons_succ, List.cons_append, List.nil_append, List.append_nil, List.length_cons, List.length_nil, decide_eq_true_eq, decide_eq_false_iff_not, Bool.not_eq_true', Bool.not_eq_false', Bool.and_eq_true, Bool.and_eq_false_iff, Bool.true_eq_false, Bool.false_eq_true, Bool.not_true, Bool.not_false, eq_self, D.len_l, wr64, not_true_eq_false, not_false_eq_true, ia, e] at c) <;> (try (exfalso; omega))))
        | (refine To.ret ⟨rfl, ?_⟩; (try simp (disch := omega) only [X.den, X.dens, X.denss, D.int_i, D.boo_b, D.str_s, D.rows_l, List.getD_cons_zero, List.getD_cons_succ, List.cons_append, List.nil_append, List.append_nil, List.length_cons, List.length_nil, decide_eq_true_eq, decide_eq_false_iff_not, Bool.not_eq_true', Bool.not_eq_false', Bool.and_eq_true, Bool.and_eq_false_iff, Bool.true_eq_false, Bool.false_eq_true, Bool.not_true, Bool.not_false, eq_self, D.len_l, wr64, not_true_eq_false, not_false_eq_true, ia, e]); refine hK _ _ (by simp only [List.cons_append, List.nil_append]; first | done | rfl) ?_; clear hK; clear K)))
    all_goals (refine To.ret ?_; simp only [X.den, X.dens, X.denss, D.int_i, D.boo_b, D.str_s, D.rows_l, List.getD_cons_zero, List.getD_cons_succ, List.cons_append, List.nil_append, List.append_nil, List.length_cons, List.length_nil, e])
end Go.Proofs.Ytlhnhidoljfnnaa
