/- FuseMean: mirrored lists, rows. -/
import Derived.Test.YtlhnhidoljfnnaaFuY
set_option linter.unusedVariables false
set_option linter.unusedSimpArgs false
namespace Go.Proofs.Ytlhnhidoljfnnaa
open Go.RowKit Fx Sh
theorem rhalf_full {n d : Int} (n0 : -1000000000000000000 ≤ n) (n1 : n ≤ 1000000000000000000) (d0 : 1 ≤ d) (d1 : d ≤ 1000000000) : ∃ l, rHlf09_T.run noM 0 [.i n, .i d] = some l ∧ l = [.i (hdv n d), .i 0] := by
  obtain ⟨N, hN⟩ : ∃ N, 2 * n + d = N := ⟨_, rfl⟩
  obtain ⟨E, hE⟩ : ∃ E, 2 * d = E := ⟨_, rfl⟩
  have hv : hdv n d = N / E := by unfold hdv; rw [hN, hE]
  obtain ⟨q1, q2⟩ := tdiv_down (n := N) (show 0 < E by omega)
  have e := Int.mul_ediv_add_emod N E
  have r0 := Int.emod_nonneg N (show E ≠ 0 by omega)
  have r1 := Int.emod_lt_of_pos N (show 0 < E by omega)
  have t1 := Int.lt_tmod_of_pos N (show 0 < E by omega)
  have t2 := Int.tmod_lt_of_pos N (show 0 < E by omega)
  have ab : -3000000000000000000 ≤ N.tdiv E ∧ N.tdiv E ≤ 3000000000000000000 := by
    have := Int.natAbs_tdiv_le_natAbs N E
    omega
  refine run_to ?_
  unfold rHlf09_T
  by_cases hneg : N.tmod E < 0
  · rw [if_pos hneg] at q1 q2
    (repeat' (first
        
        | (refine To.subK (fun K hK => ?_))
        | (refine To.need (by simp (disch := omega) only [X.den, X.dens, X.denss, D.int_i, D.boo_b, D.str_s, D.rows_l, List.getD_cons_zero, List.getD_cons_succ, List.cons_append, List.nil_append, List.append_nil, List.length_cons, List.length_nil, decide_eq_true_eq, decide_eq_false_iff_not, Bool.not_eq_true', Bool.not_eq_false', Bool.and_eq_true, Bool.and_eq_false_iff, Bool.true_eq_false, Bool.false_eq_true, Bool.not_true, Bool.not_false, eq_self, D.len_l, wr64, not_true_eq_false, not_false_eq_true, hN, hE] <;> omega) ?_)
        | (refine To.ite (fun c => ?_) (fun c => ?_) <;> ((try simp (disch := omega) only [X.den, X.dens, X.denss, D.int_i, D.boo_b, D.str_s, D.rows_l, List.getD_cons_zero, List.getD_cons_succ, List.cons_append, List.nil_append, List.append_nil, List.length_cons, List.length_nil, decide_eq_true_eq, decide_eq_false_iff_not, Bool.not_eq_true', Bool.not_eq_false', Bool.and_eq_true, Bool.and_eq_false_iff, Bool.true_eq_false, Bool.false_eq_true, Bool.not_true, Bool.not_false, eq_self, D.len_l, wr64, not_true_eq_false, not_false_eq_true, hN, hE] at c) <;> (try (exfalso; omega))))
        | (refine To.ret ⟨rfl, ?_⟩; (try simp (disch := omega) only [X.den, X.dens, X.denss, D.int_i, D.boo_b, D.str_s, D.rows_l, List.getD_cons_zero, List.getD_cons_succ, List.cons_append, List.nil_append, List.append_nil, List.length_cons, List.length_nil, decide_eq_true_eq, decide_eq_false_iff_not, Bool.not_eq_true', Bool.not_eq_false', Bool.and_eq_true, Bool.and_eq_false_iff, Bool.true_eq_false, Bool.false_eq_true, Bool.not_true, Bool.not_false, eq_self, D.len_l, wr64, not_true_eq_false, not_false_eq_true, hN, hE]); refine hK _ _ (by simp only [List.cons_append, List.nil_append]; first | done | rfl) ?_; clear hK; clear K)))
    all_goals (refine To.ret ?_; simp only [X.den, X.dens, X.denss, D.int_i, D.boo_b, D.str_s, D.rows_l, List.getD_cons_zero, List.getD_cons_succ, List.cons_append, List.nil_append, List.append_nil, List.length_cons, List.length_nil]; simp only [List.cons.injEq, D.i.injEq, and_true]; rw [hv]; omega)
  · rw [if_neg hneg] at q1 q2
    (repeat' (first
        
        | (refine To.subK (fun K hK => ?_))
        | (refine To.need (by simp (disch := omega) only [X.den, X.dens, X.denss, D.int_i, D.boo_b, D.str_s, D.rows_l, List.getD_cons_zero, List.getD_cons_succ, List.cons_append, List.nil_append, List.append_nil, List.length_cons, List.length_nil, decide_eq_true_eq, decide_eq_false_iff_not, Bool.not_eq_true', Bool.not_eq_false', Bool.and_eq_true, Bool.and_eq_false_iff, Bool.true_eq_false, Bool.false_eq_true, Bool.not_true, Bool.not_false, eq_self, D.len_l, wr64, not_true_eq_false, not_false_eq_true, hN, hE] <;> omega) ?_)
        | (refine To.ite (fun c => ?_) (fun c => ?_) <;> ((try simp (disch := omega) only [X.den, X.dens, X.denss, D.int_i, D.boo_b, D.str_s, D.rows_l, List.getD_cons_zero, List.getD_cons_succ, List.cons_append, List.nil_append, List.append_nil, List.length_cons, List.length_nil, decide_eq_true_eq, decide_eq_false_iff_not, Bool.not_eq_true', Bool.not_eq_false', Bool.and_eq_true, Bool.and_eq_false_iff, Bool.true_eq_false, Bool.false_eq_true, Bool.not_true, Bool.not_false, eq_self, D.len_l, wr64, not_true_eq_false, not_false_eq_true, hN, hE] at c) <;> (try (exfalso; omega))))
        | (refine To.ret ⟨rfl, ?_⟩; (try simp (disch := omega) only [X.den, X.dens, X.denss, D.int_i, D.boo_b, D.str_s, D.rows_l, List.getD_cons_zero, List.getD_cons_succ, List.cons_append, List.nil_append, List.append_nil, List.length_cons, List.length_nil, decide_eq_true_eq, decide_eq_false_iff_not, Bool.not_eq_true', Bool.not_eq_false', Bool.and_eq_true, Bool.and_eq_false_iff, Bool.true_eq_false, Bool.false_eq_true, Bool.not_true, Bool.not_false, eq_self, D.len_l, wr64, not_true_eq_false, not_false_eq_true, hN, hE]); refine hK _ _ (by simp only [List.cons_append, List.nil_append]; first | done | rfl) ?_; clear hK; clear K)))
    all_goals (refine To.ret ?_; simp only [X.den, X.dens, X.denss, D.int_i, D.boo_b, D.str_s, D.rows_l, List.getD_cons_zero, List.getD_cons_succ, List.cons_append, List.nil_append, List.append_nil, List.length_cons, List.length_nil]; simp only [List.cons.injEq, D.i.injEq, and_true]; rw [hv]; omega)
theorem rHlf09_ok : ConOk Try.prog rHlf09_K (rHlf09_T.run noM 0) := con_run follows no_cons rHlf09_t rfl 0
theorem sumf_head {f : Int → Int} (n : Nat) : sumf f (n + 1) = f 0 + sumf (fun i => f (i + 1)) n := by
  induction n with
  | zero => simp [sumf]
  | succ n ih =>
    have : sumf f (n + 1 + 1) = sumf f (n + 1) + f ((n + 1 : Nat) : Int) := rfl
    rw [this, ih]
    simp only [sumf]
    have e : ((n + 1 : Nat) : Int) = (n : Int) + 1 := by omega
    rw [e]
    omega
theorem sumf_rev {f g : Int → Int} (n : Nat) (h : ∀ i : Int, 0 ≤ i → i < n → g i = f (n - 1 - i)) : sumf g n = sumf f n := by
  induction n generalizing f g with
  | zero => rfl
  | succ n ih =>
    rw [sumf_head]
    have a := ih (f := f) (g := fun i => g (i + 1)) fun i i0 i1 => by
      rw [h (i + 1) (by omega) (by omega)]
      congr 1
      omega
    have b := h 0 (by omega) (by omega)
    rw [a, b]
    simp only [sumf]
    have e : ((n + 1 : Nat) : Int) - 1 - 0 = (n : Int) := by omega
    rw [e]
    omega
theorem gF_le {l : List (List D)} {m : Int} (hm : 0 ≤ m) (k : Nat) (h : ∀ i : Int, 0 ≤ i → i < k → wF l i ≤ m) : gF l k ≤ m := by
  induction k with
  | zero => exact hm
  | succ k ih =>
    have := ih fun i a b => h i a (by omega)
    have := h k (by omega) (by omega)
    simp only [gF]
    omega
theorem bF_le {l : List (List D)} {p q m : Int} (hm : 0 ≤ m) (k : Nat) (h : ∀ i : Int, 0 ≤ i → i < k → bxF l p q i ≤ m) : bF l p q k ≤ m := by
  induction k with
  | zero => exact hm
  | succ k ih =>
    have := ih fun i a b => h i a (by omega)
    have := h k (by omega) (by omega)
    simp only [bF]
    omega
/-- the other way round -/
def Mir (l y : List (List D)) : Prop := y.length = l.length ∧ ∀ (c : Nat) (i : Int), 1 ≤ c → c ≤ 3 → 0 ≤ i → i < l.length → cf y c i = cf l c (l.length - 1 - i)
theorem Mir.symm {l y : List (List D)} (h : Mir l y) : Mir y l := ⟨h.1.symm, fun c i c0 c1 i0 i1 => by
  have := h.2 c (y.length - 1 - i) c0 c1 (by omega) (by have := h.1; omega)
  rw [this]
  congr 1
  have := h.1
  omega⟩
theorem Mir.okF {l y : List (List D)} (h : Mir l y) (hv : ∀ i : Int, 0 ≤ i → i < l.length → okF l i) : ∀ i : Int, 0 ≤ i → i < y.length → okF y i := fun i i0 i1 => by
  have e := h.1
  have := hv (l.length - 1 - i) (by omega) (by omega)
  unfold Proofs.Ytlhnhidoljfnnaa.okF at *
  rw [h.2 1 i (by omega) (by omega) i0 (by omega), h.2 2 i (by omega) (by omega) i0 (by omega), h.2 3 i (by omega) (by omega) i0 (by omega)]
  exact this
theorem Mir.wF {l y : List (List D)} (h : Mir l y) {i : Int} (i0 : 0 ≤ i) (i1 : i < l.length) : wF y i = wF l (l.length - 1 - i) := by
  unfold Proofs.Ytlhnhidoljfnnaa.wF
  rw [h.2 3 i (by omega) (by omega) i0 i1]
theorem Mir.gF_le {l y : List (List D)} (h : Mir l y) (hv : ∀ i : Int, 0 ≤ i → i < l.length → Proofs.Ytlhnhidoljfnnaa.okF l i) : gF y y.length ≤ gF l l.length := by
  have g := gF_spec hv l.length (Nat.le_refl _)
  refine Proofs.Ytlhnhidoljfnnaa.gF_le g.1.1 _ fun i i0 i1 => ?_
  have := h.1
  rw [h.wF i0 (by omega)]
  exact g.2 _ (by omega) (by omega)
theorem Mir.gF {l y : List (List D)} (h : Mir l y) (hv : ∀ i : Int, 0 ≤ i → i < l.length → Proofs.Ytlhnhidoljfnnaa.okF l i) : gF y y.length = gF l l.length :=
  Int.le_antisymm (h.gF_le hv) (h.symm.gF_le (h.okF hv))
theorem Mir.uF {l y : List (List D)} (h : Mir l y) (hv : ∀ i : Int, 0 ≤ i → i < l.length → Proofs.Ytlhnhidoljfnnaa.okF l i) {i : Int} (i0 : 0 ≤ i) (i1 : i < l.length) : uF y i = uF l (l.length - 1 - i) := by
  unfold Proofs.Ytlhnhidoljfnnaa.uF
  rw [h.gF hv, h.wF i0 i1]
theorem Mir.pF {l y : List (List D)} (h : Mir l y) (hv : ∀ i : Int, 0 ≤ i → i < l.length → Proofs.Ytlhnhidoljfnnaa.okF l i) {c : Nat} (c0 : 1 ≤ c) (c1 : c ≤ 3) : pF y c = pF l c := by
  unfold Proofs.Ytlhnhidoljfnnaa.pF
  rw [h.1, sumf_rev (f := Proofs.Ytlhnhidoljfnnaa.vF l c) l.length fun i i0 i1 => by unfold vF; rw [h.uF hv i0 i1, h.2 c i c0 c1 i0 i1], sumf_rev (f := Proofs.Ytlhnhidoljfnnaa.uF l) l.length fun i i0 i1 => h.uF hv i0 i1]
theorem Mir.bF_le {l y : List (List D)} {p q : Int} (h : Mir l y) (hv : ∀ i : Int, 0 ≤ i → i < l.length → Proofs.Ytlhnhidoljfnnaa.okF l i) (hp : -100000000 ≤ p ∧ p ≤ 100000000) (hq : -100000000 ≤ q ∧ q ≤ 100000000) : bF y p q y.length ≤ bF l p q l.length := by
  have b := bF_spec hv hp hq l.length (Nat.le_refl _)
  refine Proofs.Ytlhnhidoljfnnaa.bF_le b.1.1 _ fun i i0 i1 => ?_
  have := h.1
  have e : bxF y p q i = bxF l p q (l.length - 1 - i) := by
    unfold bxF
    rw [h.2 1 i (by omega) (by omega) i0 (by omega), h.2 2 i (by omega) (by omega) i0 (by omega), h.2 3 i (by omega) (by omega) i0 (by omega)]
  rw [e]
  exact b.2 _ (by omega) (by omega)
theorem hdv_scale {k a b : Int} (hk : 1 ≤ k) : hdv (k * a) (k * b) = hdv a b := by
  unfold hdv
  rw [show 2 * (k * a) + k * b = k * (2 * a + b) by grind, show 2 * (k * b) = k * (2 * b) by grind]
  exact Int.mul_ediv_mul_of_pos _ _ (by omega)
/-- a row of the source -/
def FxR (r : List D) : Prop := ∃ x y e : Int, r = [.i 0, .i x, .i y, .i e] ∧ (-30 ≤ x ∧ x ≤ 1000) ∧ (-20 ≤ y ∧ y ≤ 5) ∧ (1 ≤ e ∧ e ≤ 200)
theorem fx_mem {fs : List (List D)} {k : Int} (h0 : 0 ≤ k) (h1 : k < fs.length) : fs.getD k.toNat [] ∈ fs := by
  rw [List.getD_eq_getElem?_getD, List.getElem?_eq_getElem (by omega), Option.getD_some]
  exact List.getElem_mem _
theorem fxR_ok {l : List (List D)} (h : ∀ r ∈ l, FxR r) {i : Int} (i0 : 0 ≤ i) (i1 : i < l.length) : okF l i ∧ (-30 ≤ cf l 1 i ∧ cf l 1 i ≤ 1000) := by
  obtain ⟨x, y, e, er, hx, hy, he⟩ := h _ (fx_mem i0 i1)
  have e1 : cf l 1 i = x := by simp only [cf, cell_of, er]; rfl
  have e2 : cf l 2 i = y := by simp only [cf, cell_of, er]; rfl
  have e3 : cf l 3 i = e := by simp only [cf, cell_of, er]; rfl
  unfold okF
  rw [e1, e2, e3]
  omega
/-- rows of four cells -/
def Four (l : List (List D)) : Prop := ∀ r ∈ l, r.length = 4
def put7 (y : List (List D)) (k : Int) : List (List D) := y.set k.toNat ((y.getD k.toNat []).set 3 (.i 7))
theorem put7_def {y : List (List D)} {k : Int} : (D.l y).put k 3 (.i 7) = .l (put7 y k) := rfl
theorem put7_len {y : List (List D)} {k : Int} : (put7 y k).length = y.length := by simp only [put7, List.length_set]
theorem put7_four {y : List (List D)} {k : Int} (h : Four y) (k0 : 0 ≤ k) (k1 : k < y.length) : Four (put7 y k) := by
  intro r hr
  rcases List.mem_or_eq_of_mem_set hr with h1 | h1
  · exact h r h1
  · rw [h1, List.length_set]
    exact h _ (fx_mem k0 k1)
theorem put7_ce {y : List (List D)} {k i : Int} {c : Nat} (h : Four y) (k0 : 0 ≤ k) (k1 : k < y.length) (i0 : 0 ≤ i) : cf (put7 y k) c i = if i = k ∧ c = 3 then 7 else cf y c i := by
  have hk : k.toNat < y.length := by omega
  have h4 := h _ (fx_mem k0 k1)
  simp only [cf, cell_of, put7]
  by_cases q : i = k
  · subst q
    rw [List.getD_eq_getElem?_getD (l := y.set _ _), List.getElem?_set_self hk, Option.getD_some]
    by_cases q2 : c = 3
    · subst q2
      rw [if_pos ⟨rfl, rfl⟩, List.getD_eq_getElem?_getD, List.getElem?_set_self (by omega)]
      rfl
    · rw [if_neg (fun x => q2 x.2), List.getD_eq_getElem?_getD, List.getElem?_set_ne (by omega), ← List.getD_eq_getElem?_getD]
  · rw [if_neg (fun x => q x.1), List.getD_eq_getElem?_getD (l := y.set _ _), List.getElem?_set_ne (by omega), ← List.getD_eq_getElem?_getD]
theorem coO_shape {l : List (List D)} : ∃ a b c d ok, coO l = [.i a, .i b, .i c, .i d, .b ok] ∧ (ok = true → a = mxF (loX l 1) l.length ∧ b = mxF (loX l 2) l.length ∧ c = mnF (hiX l 1) l.length ∧ d = mnF (hiX l 2) l.length) := by
  unfold coO
  split
  · exact ⟨_, _, _, _, _, rfl, fun h => by cases h⟩
  · exact ⟨_, _, _, _, _, rfl, fun _ => ⟨rfl, rfl, rfl, rfl⟩⟩
theorem common_to {l : List (List D)} (h : fck l = 0) : ∃ o, gCom_T.run (Models.on gChk_K.f (gChk_T.run gcM 30) noM) 30 [.l l] = some o ∧ ∃ a b c d ok, o = [.i a, .i b, .i c, .i d, .b ok] ∧ (ok = true → a = mxF (loX l 1) l.length ∧ b = mxF (loX l 2) l.length ∧ c = mnF (hiX l 1) l.length ∧ d = mnF (hiX l 2) l.length) := by
  obtain ⟨o, h1, h2⟩ := common_full h
  exact ⟨o, h1, by rw [h2]; exact coO_shape⟩
def fmM : Models := Models.on srcN_K.f (srcN_T.run noM 0) (Models.on gFuse_K.f (gFuse_T.run fuM 30) (Models.on gCom_K.f (gCom_T.run (Models.on gChk_K.f (gChk_T.run gcM 30) noM) 30) (Models.on gHul_K.f (gHul_T.run (Models.on gChk_K.f (gChk_T.run gcM 30) noM) 30) (Models.on rHlf09_K.f (rHlf09_T.run noM 0) (Models.on sane09x_K.f (fun _ => some [.b true]) noM)))))
theorem src_take9 {rows : List (List D)} : SrcOk (rows.take (min (min (rows.length : Int) 9223372036854775807) 600).toNat) 0 := ⟨by omega, by omega, by rw [List.length_take]; omega⟩
theorem fx_picks {r1 r2 r3 : Int} (p1 : 0 ≤ r1) (q1 : r1 < 6) (p2 : 0 ≤ r2) (q2 : r2 < 4) (p3 : 0 ≤ r3) (q3 : r3 < 4) : ∃ a b c : Int, (D.l [[.i 0], [.i 0], [.i 1], [.i 20], [.i (-30)], [.i 1000]]).cell r1 0 = .i a ∧ (D.l [[.i 0], [.i 0], [.i 5], [.i (-20)]]).cell r2 0 = .i b ∧ (D.l [[.i 1], [.i 10], [.i 50], [.i 200]]).cell r3 0 = .i c ∧ (-30 ≤ a ∧ a ≤ 1000) ∧ (-20 ≤ b ∧ b ≤ 5) ∧ (1 ≤ c ∧ c ≤ 200) := by
  obtain ⟨a, ha, ea⟩ := pick_cell (zs := [0, 0, 1, 20, -30, 1000]) p1 q1
  obtain ⟨b, hb, eb⟩ := pick_cell (zs := [0, 0, 5, -20]) p2 q2
  obtain ⟨c, hc, ec⟩ := pick_cell (zs := [1, 10, 50, 200]) p3 q3
  refine ⟨a, b, c, ea, eb, ec, ?_⟩
  simp only [List.mem_cons, List.not_mem_nil, or_false] at ha hb hc
  omega
theorem w7 : wtx 7 = 20408163 := by decide
theorem u7 : updv (1000 * 20408163) 20408163 = 1000 := by decide
end Go.Proofs.Ytlhnhidoljfnnaa
