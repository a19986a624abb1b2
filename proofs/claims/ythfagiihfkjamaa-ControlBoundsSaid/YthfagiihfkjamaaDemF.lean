/- What Demand gives. -/
import Derived.Test.YthfagiihfkjamaaDemT
import Derived.Test.YthfagiihfkjamaaHalfF
set_option linter.unusedVariables false
set_option linter.unusedSimpArgs false
namespace Go.Proofs.Ythfagiihfkjamaa
open Go.RowKit Fx
def BdAll : List D → Bds → Prop
  | _, [] => True
  | [], _ => False
  | d :: ds, some (l, h) :: bd => l ≤ d.int ∧ d.int ≤ h ∧ BdAll ds bd
  | _ :: ds, none :: bd => BdAll ds bd
theorem BdAll.ok : ∀ {ds : List D} {bd : Bds}, BdAll ds bd → BdOk ds bd
  | _, [], _, i, l, h, e => by simp at e
  | [], _ :: _, q, _, _, _, _ => by simp [BdAll] at q
  | d :: ds, some (l0, h0) :: bd, q, i, l, h, e => by
    simp only [BdAll] at q
    cases i with
    | zero => simp at e; obtain ⟨rfl, rfl⟩ := e; exact ⟨q.1, q.2.1⟩
    | succ i => simp at e; have := BdAll.ok q.2.2 i l h e; simpa using this
  | d :: ds, none :: bd, q, i, l, h, e => by
    simp only [BdAll] at q
    cases i with
    | zero => simp at e
    | succ i => simp at e; have := BdAll.ok q i l h e; simpa using this
open Classical in
/-- what a tree gives, within bounds -/
noncomputable def runB (bd : Bds) (M : Models) (N : Nat) (t : T (List X)) (ds : List D) : Option (List D) := if BdOk ds bd then t.run M N ds else none
theorem con_runB {P : Program} (hm : P.follows .mixedOrders = true) {M : Models} {cons : List Con} (hM : ∀ k ∈ cons, ConOk P k (M k.f)) {cuts : List FuncId} {k : Con} {t : T (List X)} (ht : runS P cons cuts k = t) (N : Nat) : ConOk P k (runB k.bd M N t) :=
  run_con hm hM ht fun ds outs h1 h2 => by
    unfold runB at h2
    split at h2
    · rename_i hb
      refine ⟨hb, N, ?_⟩
      simp only [T.run, Option.map_eq_some_iff] at h2
      obtain ⟨⟨xs, ρ'⟩, h3, h4⟩ := h2
      exact ⟨xs, ρ', h3, h4⟩
    · cases h2
def demM0 : Models := Models.on fxSin_K.f (fxSin_T.run noM 0) (Models.on fxCos_K.f (fxCos_T.run noM 0) noM)
noncomputable def demR : List D → Option (List D) := runB demand_K.bd demM0 0 demand_T
theorem demand_ok : ConOk Try.prog demand_K demR := con_runB follows (one_con (fxSin_ok.to _) (one_con (fxCos_ok.to _) no_cons)) demand_t 0
def bodyA (x y s c : Int) : Int := (2 * (x * c + y * s) + 10000) / (2 * 10000)
def bodyR (x y s c : Int) : Int := (2 * (y * c - x * s) + 10000) / (2 * 10000)
def sgnd (n : Int) : Int := if n % 3600 < 1800 then n % 3600 else n % 3600 - 3600
def cut (S x : Int) : Int := max (0 - S) (min x S)
def wt (n : Int) : Int := (2 * n + 1000) / (2 * 1000)
theorem demand_to {g0 g1 g2 g3 g4 g5 S F Y sx sy sh lx ly lh px py ph tx ty th u v : Int} {seen : Bool} (hb : BdAll [.i g0, .i g1, .i g2, .i g3, .i g4, .i g5, .i S, .i F, .i Y, .i sx, .i sy, .i sh, .i lx, .i ly, .i lh, .b seen, .i px, .i py, .i ph, .i tx, .i ty, .i th] demand_K.bd) (k1 : -S ≤ sx) (k2 : sx ≤ S) (k3 : -S ≤ sy) (k4 : sy ≤ S) (k5 : -S ≤ sh) (k6 : sh ≤ S)
    (es : fxSin_T.run noM 0 [.i ph] = some [.i u]) (u0 : -10000 ≤ u) (u1 : u ≤ 10000) (ec : fxCos_T.run noM 0 [.i ph] = some [.i v]) (v0 : -10000 ≤ v) (v1 : v ≤ 10000) :
    demR [.i g0, .i g1, .i g2, .i g3, .i g4, .i g5, .i S, .i F, .i Y, .i sx, .i sy, .i sh, .i lx, .i ly, .i lh, .b seen, .i px, .i py, .i ph, .i tx, .i ty, .i th] = some [
      .i (cut F (wt (g0 * bodyA (tx - px) (ty - py) u v + g1 * cut S (sx + bodyA (tx - px) (ty - py) u v) - g2 * (if seen = true then bodyA (px - lx) (py - ly) u v else 0)))),
      .i (cut F (wt (g0 * bodyR (tx - px) (ty - py) u v + g1 * cut S (sy + bodyR (tx - px) (ty - py) u v) - g2 * (if seen = true then bodyR (px - lx) (py - ly) u v else 0)))),
      .i (cut Y (wt (g3 * sgnd (th - ph) + g4 * cut S (sh + sgnd (th - ph)) - g5 * (if seen = true then sgnd (ph - lh) else 0)))),
      .i (cut S (sx + bodyA (tx - px) (ty - py) u v)), .i (cut S (sy + bodyR (tx - px) (ty - py) u v)), .i (cut S (sh + sgnd (th - ph))), .i px, .i py, .i ph, .b true, .i 0] := by
  have hB := hb.ok
  simp only [BdAll, demand_K, D.int_i] at hb
  unfold demR runB
  rw [if_pos hB]
  suffices H : demand_T.To demM0 0 [.i g0, .i g1, .i g2, .i g3, .i g4, .i g5, .i S, .i F, .i Y, .i sx, .i sy, .i sh, .i lx, .i ly, .i lh, .b seen, .i px, .i py, .i ph, .i tx, .i ty, .i th] (fun xs ρ' => X.dens ρ' xs = [
      .i (cut F (wt (g0 * bodyA (tx - px) (ty - py) u v + g1 * cut S (sx + bodyA (tx - px) (ty - py) u v) - g2 * (if seen = true then bodyA (px - lx) (py - ly) u v else 0)))),
      .i (cut F (wt (g0 * bodyR (tx - px) (ty - py) u v + g1 * cut S (sy + bodyR (tx - px) (ty - py) u v) - g2 * (if seen = true then bodyR (px - lx) (py - ly) u v else 0)))),
      .i (cut Y (wt (g3 * sgnd (th - ph) + g4 * cut S (sh + sgnd (th - ph)) - g5 * (if seen = true then sgnd (ph - lh) else 0)))),
      .i (cut S (sx + bodyA (tx - px) (ty - py) u v)), .i (cut S (sy + bodyR (tx - px) (ty - py) u v)), .i (cut S (sh + sgnd (th - ph))), .i px, .i py, .i ph, .b true, .i 0]) by
    obtain ⟨l, h1, h2⟩ := run_to (R := fun l => l = _) H
    rw [h1, h2]
  unfold demand_T
  refine To.join (fun l => l = [.b false]) ?_ ?_
  · refine To.join (fun l => l = [.b true]) ?_ ?_
    · refine To.join (fun l => l = [.b true]) (To.no (by simp only [X.den, X.dens, X.denss, D.int_i, D.boo_b, D.str_s, D.rows_l, List.getD_cons_zero, List.getD_cons_succ, List.cons_append, List.nil_append, List.append_nil, List.length_cons, List.length_nil, decide_eq_false_iff_not]; omega) (To.ret ⟨rfl, by simp only [X.den, X.dens, X.denss, D.int_i, D.boo_b, D.str_s, D.rows_l, List.getD_cons_zero, List.getD_cons_succ, List.cons_append, List.nil_append, List.append_nil, List.length_cons, List.length_nil, List.cons.injEq, D.b.injEq, and_true, Bool.not_eq_true', decide_eq_false_iff_not]; omega⟩)) ?_
      rintro l rfl
      simp only [List.cons_append, List.nil_append]
      refine To.yes rfl ?_
      refine To.join (fun l => l = [.b true]) (To.no (by simp only [X.den, X.dens, X.denss, D.int_i, D.boo_b, D.str_s, D.rows_l, List.getD_cons_zero, List.getD_cons_succ, List.cons_append, List.nil_append, List.append_nil, List.length_cons, List.length_nil, decide_eq_false_iff_not]; omega) (To.ret ⟨rfl, by simp only [X.den, X.dens, X.denss, D.int_i, D.boo_b, D.str_s, D.rows_l, List.getD_cons_zero, List.getD_cons_succ, List.cons_append, List.nil_append, List.append_nil, List.length_cons, List.length_nil, List.cons.injEq, D.b.injEq, and_true, Bool.not_eq_true', decide_eq_false_iff_not]; omega⟩)) ?_
      rintro l rfl
      simp only [List.cons_append, List.nil_append]
      refine To.yes rfl ?_
      refine To.join (fun l => l = [.b true]) (To.no (by simp only [X.den, X.dens, X.denss, D.int_i, D.boo_b, D.str_s, D.rows_l, List.getD_cons_zero, List.getD_cons_succ, List.cons_append, List.nil_append, List.append_nil, List.length_cons, List.length_nil, decide_eq_false_iff_not]; omega) (To.ret ⟨rfl, by simp only [X.den, X.dens, X.denss, D.int_i, D.boo_b, D.str_s, D.rows_l, List.getD_cons_zero, List.getD_cons_succ, List.cons_append, List.nil_append, List.append_nil, List.length_cons, List.length_nil, List.cons.injEq, D.b.injEq, and_true, Bool.not_eq_true', decide_eq_false_iff_not]; omega⟩)) ?_
      rintro l rfl
      simp only [List.cons_append, List.nil_append]
      refine To.yes rfl (To.ret ⟨rfl, by simp only [X.den, X.dens, X.denss, D.int_i, D.boo_b, D.str_s, D.rows_l, List.getD_cons_zero, List.getD_cons_succ, List.cons_append, List.nil_append, List.append_nil, List.length_cons, List.length_nil]⟩)
    · rintro l rfl
      simp only [List.cons_append, List.nil_append]
      exact To.yes rfl (To.ret ⟨rfl, by simp only [X.den, X.dens, X.denss, D.int_i, D.boo_b, D.str_s, D.rows_l, List.getD_cons_zero, List.getD_cons_succ, List.cons_append, List.nil_append, List.append_nil, List.length_cons, List.length_nil]⟩)
  rintro l rfl
  simp only [List.cons_append, List.nil_append]
  refine To.no rfl ?_
  refine To.call (l := [.i u]) es rfl ?_
  simp only [List.cons_append, List.nil_append]
  refine To.need (by simp only [X.den, X.dens, X.denss, D.int_i, D.boo_b, D.str_s, D.rows_l, List.getD_cons_zero, List.getD_cons_succ, List.cons_append, List.nil_append, List.append_nil, List.length_cons, List.length_nil, D.len_l, Bool.and_eq_true, Bool.not_eq_true', decide_eq_true_eq, decide_eq_false_iff_not]; omega) ?_
  refine To.call (l := [.i v]) ec rfl ?_
  simp only [List.cons_append, List.nil_append]
  refine To.need (by simp only [X.den, X.dens, X.denss, D.int_i, D.boo_b, D.str_s, D.rows_l, List.getD_cons_zero, List.getD_cons_succ, List.cons_append, List.nil_append, List.append_nil, List.length_cons, List.length_nil, D.len_l, Bool.and_eq_true, Bool.not_eq_true', decide_eq_true_eq, decide_eq_false_iff_not]; omega) ?_
  refine To.half (by decide) (by simp only [X.den, X.dens, X.denss, D.int_i, D.boo_b, D.str_s, D.rows_l, List.getD_cons_zero, List.getD_cons_succ, List.cons_append, List.nil_append, List.append_nil, List.length_cons, List.length_nil]; rfl) rfl ?_
  simp only [List.cons_append, List.nil_append]
  refine To.half (by decide) (by simp only [X.den, X.dens, X.denss, D.int_i, D.boo_b, D.str_s, D.rows_l, List.getD_cons_zero, List.getD_cons_succ, List.cons_append, List.nil_append, List.append_nil, List.length_cons, List.length_nil]; rfl) rfl ?_
  simp only [List.cons_append, List.nil_append]
  refine To.pick1 (by simp only [X.den, X.dens, X.denss, D.int_i, D.boo_b, D.str_s, D.rows_l, List.getD_cons_zero, List.getD_cons_succ, List.cons_append, List.nil_append, List.append_nil, List.length_cons, List.length_nil]; rfl) (by simp only [X.den, X.dens, X.denss, D.int_i, D.boo_b, D.str_s, D.rows_l, List.getD_cons_zero, List.getD_cons_succ, List.cons_append, List.nil_append, List.append_nil, List.length_cons, List.length_nil]; rfl) (by simp only [X.den, X.dens, X.denss, D.int_i, D.boo_b, D.str_s, D.rows_l, List.getD_cons_zero, List.getD_cons_succ, List.cons_append, List.nil_append, List.append_nil, List.length_cons, List.length_nil]; rfl) ?_; simp only [List.cons_append, List.nil_append, norm_if]
  refine To.pick1 (by simp only [X.den, X.dens, X.denss, D.int_i, D.boo_b, D.str_s, D.rows_l, List.getD_cons_zero, List.getD_cons_succ, List.cons_append, List.nil_append, List.append_nil, List.length_cons, List.length_nil]; rfl) (by simp only [X.den, X.dens, X.denss, D.int_i, D.boo_b, D.str_s, D.rows_l, List.getD_cons_zero, List.getD_cons_succ, List.cons_append, List.nil_append, List.append_nil, List.length_cons, List.length_nil]; rfl) (by simp only [X.den, X.dens, X.denss, D.int_i, D.boo_b, D.str_s, D.rows_l, List.getD_cons_zero, List.getD_cons_succ, List.cons_append, List.nil_append, List.append_nil, List.length_cons, List.length_nil]; rfl) ?_; simp only [List.cons_append, List.nil_append, norm_if]
  refine To.join (fun l => l = [.i (if seen = true then bodyA (px - lx) (py - ly) u v else 0), .i (if seen = true then bodyR (px - lx) (py - ly) u v else 0), .i (if seen = true then sgnd (ph - lh) else 0)]) (To.ite (fun c => ?_) (fun c => ?_)) ?_
  · simp only [X.den, X.dens, X.denss, D.int_i, D.boo_b, D.str_s, D.rows_l, List.getD_cons_zero, List.getD_cons_succ, List.cons_append, List.nil_append, List.append_nil, List.length_cons, List.length_nil] at c
    subst c
    simp only [if_true]
    refine To.call (l := [.i u]) es rfl ?_
    simp only [List.cons_append, List.nil_append]
    refine To.need (by simp only [X.den, X.dens, X.denss, D.int_i, D.boo_b, D.str_s, D.rows_l, List.getD_cons_zero, List.getD_cons_succ, List.cons_append, List.nil_append, List.append_nil, List.length_cons, List.length_nil, D.len_l, Bool.and_eq_true, Bool.not_eq_true', decide_eq_true_eq, decide_eq_false_iff_not]; omega) ?_
    refine To.call (l := [.i v]) ec rfl ?_
    simp only [List.cons_append, List.nil_append]
    refine To.need (by simp only [X.den, X.dens, X.denss, D.int_i, D.boo_b, D.str_s, D.rows_l, List.getD_cons_zero, List.getD_cons_succ, List.cons_append, List.nil_append, List.append_nil, List.length_cons, List.length_nil, D.len_l, Bool.and_eq_true, Bool.not_eq_true', decide_eq_true_eq, decide_eq_false_iff_not]; omega) ?_
    refine To.half (by decide) (by simp only [X.den, X.dens, X.denss, D.int_i, D.boo_b, D.str_s, D.rows_l, List.getD_cons_zero, List.getD_cons_succ, List.cons_append, List.nil_append, List.append_nil, List.length_cons, List.length_nil]; rfl) rfl ?_
    simp only [List.cons_append, List.nil_append]
    refine To.half (by decide) (by simp only [X.den, X.dens, X.denss, D.int_i, D.boo_b, D.str_s, D.rows_l, List.getD_cons_zero, List.getD_cons_succ, List.cons_append, List.nil_append, List.append_nil, List.length_cons, List.length_nil]; rfl) rfl ?_
    simp only [List.cons_append, List.nil_append]
    refine To.pick1 (by simp only [X.den, X.dens, X.denss, D.int_i, D.boo_b, D.str_s, D.rows_l, List.getD_cons_zero, List.getD_cons_succ, List.cons_append, List.nil_append, List.append_nil, List.length_cons, List.length_nil]; rfl) (by simp only [X.den, X.dens, X.denss, D.int_i, D.boo_b, D.str_s, D.rows_l, List.getD_cons_zero, List.getD_cons_succ, List.cons_append, List.nil_append, List.append_nil, List.length_cons, List.length_nil]; rfl) (by simp only [X.den, X.dens, X.denss, D.int_i, D.boo_b, D.str_s, D.rows_l, List.getD_cons_zero, List.getD_cons_succ, List.cons_append, List.nil_append, List.append_nil, List.length_cons, List.length_nil]; rfl) ?_; simp only [List.cons_append, List.nil_append, norm_if]
    refine To.pick1 (by simp only [X.den, X.dens, X.denss, D.int_i, D.boo_b, D.str_s, D.rows_l, List.getD_cons_zero, List.getD_cons_succ, List.cons_append, List.nil_append, List.append_nil, List.length_cons, List.length_nil]; rfl) (by simp only [X.den, X.dens, X.denss, D.int_i, D.boo_b, D.str_s, D.rows_l, List.getD_cons_zero, List.getD_cons_succ, List.cons_append, List.nil_append, List.append_nil, List.length_cons, List.length_nil]; rfl) (by simp only [X.den, X.dens, X.denss, D.int_i, D.boo_b, D.str_s, D.rows_l, List.getD_cons_zero, List.getD_cons_succ, List.cons_append, List.nil_append, List.append_nil, List.length_cons, List.length_nil]; rfl) ?_; simp only [List.cons_append, List.nil_append, norm_if]
    exact To.ret ⟨rfl, rfl⟩
  · simp only [X.den, X.dens, X.denss, D.int_i, D.boo_b, D.str_s, D.rows_l, List.getD_cons_zero, List.getD_cons_succ, List.cons_append, List.nil_append, List.append_nil, List.length_cons, List.length_nil] at c
    subst c
    simp only [Bool.false_eq_true, if_false]
    exact To.ret ⟨rfl, rfl⟩
  rintro l rfl
  simp only [List.cons_append, List.nil_append]
  refine To.half (by decide) (by simp only [X.den, X.dens, X.denss, D.int_i, D.boo_b, D.str_s, D.rows_l, List.getD_cons_zero, List.getD_cons_succ, List.cons_append, List.nil_append, List.append_nil, List.length_cons, List.length_nil]; rfl) rfl ?_
  simp only [List.cons_append, List.nil_append]
  refine To.half (by decide) (by simp only [X.den, X.dens, X.denss, D.int_i, D.boo_b, D.str_s, D.rows_l, List.getD_cons_zero, List.getD_cons_succ, List.cons_append, List.nil_append, List.append_nil, List.length_cons, List.length_nil]; rfl) rfl ?_
  simp only [List.cons_append, List.nil_append]
  refine To.half (by decide) (by simp only [X.den, X.dens, X.denss, D.int_i, D.boo_b, D.str_s, D.rows_l, List.getD_cons_zero, List.getD_cons_succ, List.cons_append, List.nil_append, List.append_nil, List.length_cons, List.length_nil]; rfl) rfl ?_
  simp only [List.cons_append, List.nil_append]
  exact To.ret rfl
theorem cut_rng {S x : Int} (h : 0 ≤ S) : -S ≤ cut S x ∧ cut S x ≤ S := by unfold cut; omega
/-- the demand of a place and of one moved -/
theorem demand_two {g0 g1 g2 g3 g4 g5 S F Y sx sy sh lx ly lh px py ph tx ty th x y : Int} {seen : Bool} (hb : BdAll [.i g0, .i g1, .i g2, .i g3, .i g4, .i g5, .i S, .i F, .i Y, .i sx, .i sy, .i sh, .i lx, .i ly, .i lh, .b seen, .i px, .i py, .i ph, .i tx, .i ty, .i th] demand_K.bd) (hb' : BdAll [.i g0, .i g1, .i g2, .i g3, .i g4, .i g5, .i S, .i F, .i Y, .i sx, .i sy, .i sh, .i (lx + x), .i (ly + y), .i lh, .b seen, .i (px + x), .i (py + y), .i ph, .i (tx + x), .i (ty + y), .i th] demand_K.bd) (k1 : -S ≤ sx) (k2 : sx ≤ S) (k3 : -S ≤ sy) (k4 : sy ≤ S) (k5 : -S ≤ sh) (k6 : sh ≤ S) :
    ∃ F1 F2 F3 a b c, demR [.i g0, .i g1, .i g2, .i g3, .i g4, .i g5, .i S, .i F, .i Y, .i sx, .i sy, .i sh, .i lx, .i ly, .i lh, .b seen, .i px, .i py, .i ph, .i tx, .i ty, .i th] = some [.i F1, .i F2, .i F3, .i a, .i b, .i c, .i px, .i py, .i ph, .b true, .i 0] ∧ demR [.i g0, .i g1, .i g2, .i g3, .i g4, .i g5, .i S, .i F, .i Y, .i sx, .i sy, .i sh, .i (lx + x), .i (ly + y), .i lh, .b seen, .i (px + x), .i (py + y), .i ph, .i (tx + x), .i (ty + y), .i th] = some [.i F1, .i F2, .i F3, .i a, .i b, .i c, .i (px + x), .i (py + y), .i ph, .b true, .i 0] ∧
      -F ≤ F1 ∧ F1 ≤ F ∧ -F ≤ F2 ∧ F2 ≤ F ∧ -Y ≤ F3 ∧ F3 ≤ Y ∧ -S ≤ a ∧ a ≤ S ∧ -S ≤ b ∧ b ≤ S ∧ -S ≤ c ∧ c ≤ S := by
  have hb0 := hb
  simp only [BdAll, demand_K, D.int_i] at hb0
  obtain ⟨_, es, u, rfl, u0, u1⟩ := sin_to (a := ph) (by omega) (by omega)
  obtain ⟨_, ec, v, rfl, v0, v1⟩ := cos_to (a := ph) (by omega) (by omega)
  have e1 := demand_to hb k1 k2 k3 k4 k5 k6 es u0 u1 ec v0 v1
  have e2 := demand_to hb' k1 k2 k3 k4 k5 k6 es u0 u1 ec v0 v1
  rw [show tx + x - (px + x) = tx - px by omega, show ty + y - (py + y) = ty - py by omega, show px + x - (lx + x) = px - lx by omega, show py + y - (ly + y) = py - ly by omega] at e2
  have hS : 0 ≤ S := by omega
  have hF : 0 ≤ F := by omega
  have hY : 0 ≤ Y := by omega
  exact ⟨_, _, _, _, _, _, e1, e2, (cut_rng hF).1, (cut_rng hF).2, (cut_rng hF).1, (cut_rng hF).2, (cut_rng hY).1, (cut_rng hY).2, (cut_rng hS).1, (cut_rng hS).2, (cut_rng hS).1, (cut_rng hS).2, (cut_rng hS).1, (cut_rng hS).2⟩
end Go.Proofs.Ythfagiihfkjamaa
