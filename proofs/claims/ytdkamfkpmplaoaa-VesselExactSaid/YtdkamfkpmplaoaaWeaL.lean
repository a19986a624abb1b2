/- The sum of the loads; flows that the source gives; the example of law 22. -/
import Derived.Test.YtdkamfkpmplaoaaWea
set_option linter.unusedVariables false
set_option linter.unusedSimpArgs false
namespace Go.Proofs.Ytdkamfkpmplaoaa
open Go.RowKit Fx
def FlOk (f v : Int) : Prop := 0 ≤ f ∧ f < 3600 ∧ 0 ≤ v ∧ v ≤ 10000
theorem ldV_rng {d : D} (h : FacOk d) {a v : Int} (h0 : 0 ≤ a) (h1 : a < 3600) (v0 : 0 ≤ v) (v1 : v ≤ 10000) : -100000000000 ≤ ldV d a v ∧ ldV d a v ≤ 100000000000 := by
  obtain ⟨_, q1, q2⟩ := ldN_rng h h0 h1 v0 v1
  exact hdv_rng (by decide) q1 q2
theorem ldV_calm (d : D) (a : Int) : ldV d a 0 = 0 := by
  unfold ldV
  rw [Int.mul_zero]
  rfl
/-- a number that is in its range -/
theorem To.rng {M : Models} {N : Nat} {α : Type} {ρ : List D} {Q : α → List D → Prop} {e : X} {n c : Int} {k : T α} (hn : (e.den ρ).int = n) (n0 : 0 ≤ n) (n1 : n ≤ c) (h : k.To M N (ρ ++ [.b true]) Q) : (T.sub (T.ite (.lt e (.N 0)) (.ret [.B false]) (.ret [.not (.lt (.N c) e)])) 1 k).To M N ρ Q := by
  refine To.sub (To.no (by simp only [X.den, X.dens, X.denss, D.int_i, D.boo_b, D.str_s, D.rows_l, List.getD_cons_zero, List.getD_cons_succ, List.cons_append, List.nil_append, List.append_nil, List.length_cons, List.length_nil, hn]; exact decide_eq_false (by omega)) (To.ret ⟨rfl, ?_⟩))
  simp only [X.den, X.dens, X.denss, D.int_i, D.boo_b, D.str_s, D.rows_l, List.getD_cons_zero, List.getD_cons_succ, List.cons_append, List.nil_append, List.append_nil, List.length_cons, List.length_nil, hn]
  rw [decide_eq_false (show ¬ c < n by omega)]
  exact h
noncomputable def wtM : Models := Models.on wCheck_K.f (wCheck_T.run wcM 0) (Models.on wLoad_K.f (wLoad_T.run wlM 0) noM)
theorem wTotal_ok : ConOk Try.prog wTotal_K (wTotal_T.run wtM 0) := con_run follows (one_con (wCheck_ok.to _) (one_con (wLoad_ok.to _) no_cons)) wTotal_t rfl 0
theorem wTotal_eq {h0 h1 h2 h3 h4 h5 h6 h7 h8 h9 h10 h11 h12 : D} {f1 v1 f2 v2 f3 v3 hd : Int} (hu : HullOk h0 h1 h2 h3 h4 h5 h6 h7 h8 h9 h10 h11 h12) (o1 : FlOk f1 v1) (o2 : FlOk f2 v2) (o3 : FlOk f3 v3) (k0 : 0 ≤ hd) (k1 : hd < 3600) :
    wTotal_T.run wtM 0 [h0, h1, h2, h3, h4, h5, h6, h7, h8, h9, h10, h11, h12, .i f1, .i v1, .i f2, .i v2, .i f3, .i v3, .i hd] = some [
      .i (ldV h0 ((f1 - hd) % 3600) v1 + ldV h3 ((f2 - hd) % 3600) v2 + ldV h6 ((f3 - hd) % 3600) v3),
      .i (ldV h1 ((f1 - hd) % 3600) v1 + ldV h4 ((f2 - hd) % 3600) v2 + ldV h7 ((f3 - hd) % 3600) v3),
      .i (ldV h2 ((f1 - hd) % 3600) v1 + ldV h5 ((f2 - hd) % 3600) v2 + ldV h8 ((f3 - hd) % 3600) v3), .i 0] := by
  suffices H : wTotal_T.To wtM 0 [h0, h1, h2, h3, h4, h5, h6, h7, h8, h9, h10, h11, h12, .i f1, .i v1, .i f2, .i v2, .i f3, .i v3, .i hd] (fun xs ρ' => X.dens ρ' xs = [
      .i (ldV h0 ((f1 - hd) % 3600) v1 + ldV h3 ((f2 - hd) % 3600) v2 + ldV h6 ((f3 - hd) % 3600) v3),
      .i (ldV h1 ((f1 - hd) % 3600) v1 + ldV h4 ((f2 - hd) % 3600) v2 + ldV h7 ((f3 - hd) % 3600) v3),
      .i (ldV h2 ((f1 - hd) % 3600) v1 + ldV h5 ((f2 - hd) % 3600) v2 + ldV h8 ((f3 - hd) % 3600) v3), .i 0]) by
    obtain ⟨l, q1, q2⟩ := run_to (R := fun l => l = _) H
    rw [q1, q2]
  obtain ⟨l, r1, e, rfl, he⟩ := wCheck_to h0 h1 h2 h3 h4 h5 h6 h7 h8 h9 h10 h11 h12
  obtain rfl : e = 0 := he.2 hu
  unfold FlOk at o1 o2 o3
  unfold wTotal_T
  refine To.call (l := [.i 0]) r1 rfl ?_
  simp only [List.cons_append, List.nil_append]
  refine To.yes rfl ?_
  refine To.join (fun l => l = [.b false]) ?_ ?_
  · refine To.join (fun l => l = [.b true]) ?_ ?_
    · refine To.join (fun l => l = [.b true]) ?_ ?_
      · refine To.rng (n := f1) rfl (by omega) (by omega) ?_
        simp only [List.cons_append, List.nil_append]
        refine To.yes rfl (To.rng (n := v1) rfl (by omega) (by omega) ?_)
        simp only [List.cons_append, List.nil_append]
        exact To.ret ⟨rfl, rfl⟩
      rintro l rfl
      simp only [List.cons_append, List.nil_append]
      refine To.yes rfl (To.join (fun l => l = [.b true]) ?_ ?_)
      · refine To.rng (n := f2) rfl (by omega) (by omega) ?_
        simp only [List.cons_append, List.nil_append]
        refine To.yes rfl (To.rng (n := v2) rfl (by omega) (by omega) ?_)
        simp only [List.cons_append, List.nil_append]
        exact To.ret ⟨rfl, rfl⟩
      rintro l rfl
      simp only [List.cons_append, List.nil_append]
      refine To.yes rfl (To.join (fun l => l = [.b true]) ?_ ?_)
      · refine To.rng (n := f3) rfl (by omega) (by omega) ?_
        simp only [List.cons_append, List.nil_append]
        refine To.yes rfl (To.rng (n := v3) rfl (by omega) (by omega) ?_)
        simp only [List.cons_append, List.nil_append]
        exact To.ret ⟨rfl, rfl⟩
      rintro l rfl
      simp only [List.cons_append, List.nil_append]
      exact To.ret ⟨rfl, rfl⟩
    rintro l rfl
    simp only [List.cons_append, List.nil_append]
    refine To.yes rfl (To.rng (n := hd) rfl (by omega) (by omega) ?_)
    simp only [List.cons_append, List.nil_append]
    exact To.ret ⟨rfl, rfl⟩
  rintro l rfl
  simp only [List.cons_append, List.nil_append]
  refine To.no rfl ?_
  obtain ⟨g0, g1, g2, g3, g4, g5, g6, g7, g8, _⟩ := hu
  refine To.call (l := _) (wLoad_eq g0 g1 g2 o1.1 o1.2.1 o1.2.2.1 o1.2.2.2 k0 k1) rfl ?_
  simp only [List.cons_append, List.nil_append]
  refine To.call (l := _) (wLoad_eq g3 g4 g5 o2.1 o2.2.1 o2.2.2.1 o2.2.2.2 k0 k1) rfl ?_
  simp only [List.cons_append, List.nil_append]
  refine To.call (l := _) (wLoad_eq g6 g7 g8 o3.1 o3.2.1 o3.2.2.1 o3.2.2.2 k0 k1) rfl ?_
  simp only [List.cons_append, List.nil_append]
  refine To.ret ?_
  have b0 := ldV_rng g0 (a := (f1 - hd) % 3600) (v := v1) (by omega) (by omega) (by omega) (by omega)
  have b1 := ldV_rng g1 (a := (f1 - hd) % 3600) (v := v1) (by omega) (by omega) (by omega) (by omega)
  have b2 := ldV_rng g2 (a := (f1 - hd) % 3600) (v := v1) (by omega) (by omega) (by omega) (by omega)
  have b3 := ldV_rng g3 (a := (f2 - hd) % 3600) (v := v2) (by omega) (by omega) (by omega) (by omega)
  have b4 := ldV_rng g4 (a := (f2 - hd) % 3600) (v := v2) (by omega) (by omega) (by omega) (by omega)
  have b5 := ldV_rng g5 (a := (f2 - hd) % 3600) (v := v2) (by omega) (by omega) (by omega) (by omega)
  have b6 := ldV_rng g6 (a := (f3 - hd) % 3600) (v := v3) (by omega) (by omega) (by omega) (by omega)
  have b7 := ldV_rng g7 (a := (f3 - hd) % 3600) (v := v3) (by omega) (by omega) (by omega) (by omega)
  have b8 := ldV_rng g8 (a := (f3 - hd) % 3600) (v := v3) (by omega) (by omega) (by omega) (by omega)
  simp only [X.den, X.dens, X.denss, D.int_i, D.boo_b, D.str_s, D.rows_l, List.getD_cons_zero, List.getD_cons_succ, List.cons_append, List.nil_append, List.append_nil, List.length_cons, List.length_nil]
  have w : ∀ x y z : Int, -100000000000 ≤ x ∧ x ≤ 100000000000 → -100000000000 ≤ y ∧ y ≤ 100000000000 → -100000000000 ≤ z ∧ z ≤ 100000000000 → IntKind.i64.wrap (IntKind.i64.wrap (x + y) + z) = x + y + z := fun x y z hx hy hz => by
    rw [wr64 (z := x + y) (by omega) (by omega), wr64 (by omega) (by omega)]
  rw [w _ _ _ b0 b3 b6, w _ _ _ b1 b4 b7, w _ _ _ b2 b5 b8]
theorem srcFlow_ok : ConOk Try.prog srcFlow_K (srcFlow_T.run srcM 0) := con_run follows (one_con (srcN_ok.to _) no_cons) srcFlow_t rfl 0
theorem srcFlow_to {rows : List (List D)} {at_ : Int} (h : SrcOk rows at_) : ∃ l, srcFlow_T.run srcM 0 [.l rows, .i at_] = some l ∧ ∃ f v at', l = [.i f, .i v, .l rows, .i at'] ∧ FlOk f v ∧ SrcOk rows at' := by
  refine run_to ?_
  unfold srcFlow_T
  refine To.via (srcN_to h (by decide) (by decide)) ?_
  rintro l ⟨r1, a1, rfl, p1, q1, h⟩
  refine ⟨rfl, ?_⟩
  simp only [List.cons_append, List.nil_append]
  refine To.need (by simp only [X.den, X.dens, X.denss, D.int_i, D.boo_b, D.str_s, D.rows_l, List.getD_cons_zero, List.getD_cons_succ, List.cons_append, List.nil_append, List.append_nil, List.length_cons, List.length_nil, decide_eq_true_eq, decide_eq_false_iff_not, Bool.not_eq_true', Bool.not_eq_false', Bool.and_eq_true, Bool.and_eq_false_iff, Bool.true_eq_false, Bool.false_eq_true, Bool.not_true, Bool.not_false, eq_self]; omega) ?_
  refine To.via (srcN_to h (by decide) (by decide)) ?_
  rintro l ⟨r2, a2, rfl, p2, q2, h⟩
  refine ⟨rfl, ?_⟩
  simp only [List.cons_append, List.nil_append]
  refine To.need (by simp only [X.den, X.dens, X.denss, D.int_i, D.boo_b, D.str_s, D.rows_l, List.getD_cons_zero, List.getD_cons_succ, List.cons_append, List.nil_append, List.append_nil, List.length_cons, List.length_nil, decide_eq_true_eq, decide_eq_false_iff_not, Bool.not_eq_true', Bool.not_eq_false', Bool.and_eq_true, Bool.and_eq_false_iff, Bool.true_eq_false, Bool.false_eq_true, Bool.not_true, Bool.not_false, eq_self]; omega) ?_
  obtain ⟨m, hm, em⟩ := pick_cell (zs := [0, 1, 299, 300, 450, 900, 1800, 2701, 3599]) p1 q1
  have em : (D.l [[.i 0], [.i 1], [.i 299], [.i 300], [.i 450], [.i 900], [.i 1800], [.i 2701], [.i 3599]]).cell r1 0 = .i m := em
  obtain ⟨n, hn, en⟩ := pick_cell (zs := [0, 0, 50, 100, 200, 1000]) p2 q2
  have en : (D.l [[.i 0], [.i 0], [.i 50], [.i 100], [.i 200], [.i 1000]]).cell r2 0 = .i n := en
  simp only [List.mem_cons, List.not_mem_nil, or_false] at hm hn
  refine To.ret ?_
  simp only [X.den, X.dens, X.denss, D.int_i, D.boo_b, D.str_s, D.rows_l, List.getD_cons_zero, List.getD_cons_succ, List.cons_append, List.nil_append, List.append_nil, List.length_cons, List.length_nil, em, en]
  exact ⟨_, _, _, rfl, ⟨by omega, by omega, by omega, by omega⟩, h⟩
noncomputable def swM : Models := Models.on srcFlow_K.f (srcFlow_T.run srcM 0) noM
theorem srcWeather_ok : ConOk Try.prog srcWeather_K (srcWeather_T.run swM 0) := con_run follows (one_con (srcFlow_ok.to _) no_cons) srcWeather_t rfl 0
theorem srcWeather_to {rows : List (List D)} {at_ : Int} (h : SrcOk rows at_) : ∃ l, srcWeather_T.run swM 0 [.l rows, .i at_] = some l ∧ ∃ f1 v1 f2 v2 f3 v3 at', l = [.i f1, .i v1, .i f2, .i v2, .i f3, .i v3, .l rows, .i at'] ∧ FlOk f1 v1 ∧ FlOk f2 v2 ∧ FlOk f3 v3 ∧ SrcOk rows at' := by
  refine run_to ?_
  unfold srcWeather_T
  refine To.via (srcFlow_to h) ?_
  rintro l ⟨f1, v1, a1, rfl, o1, h⟩
  refine ⟨rfl, ?_⟩
  simp only [List.cons_append, List.nil_append]
  refine To.via (srcFlow_to h) ?_
  rintro l ⟨f2, v2, a2, rfl, o2, h⟩
  refine ⟨rfl, ?_⟩
  simp only [List.cons_append, List.nil_append]
  refine To.via (srcFlow_to h) ?_
  rintro l ⟨f3, v3, a3, rfl, o3, h⟩
  refine ⟨rfl, To.ret ?_⟩
  simp only [X.den, X.dens, X.denss, D.int_i, D.boo_b, D.str_s, D.rows_l, List.getD_cons_zero, List.getD_cons_succ, List.cons_append, List.nil_append, List.append_nil, List.length_cons, List.length_nil]
  exact ⟨_, _, _, _, _, _, _, rfl, o1, o2, o3, h⟩
def z22 : D := .l [[.i 0], [.i 0], [.i 0], [.i 0], [.i 0], [.i 0], [.i 0], [.i 0], [.i 0], [.i 0], [.i 0], [.i 0]]
def e22 : D := .l [[.i 0], [.i 300], [.i 0], [.i 0], [.i 0], [.i 0], [.i 0], [.i 0], [.i 0], [.i 0], [.i 0], [.i 0]]
theorem z22_ok : FacOk z22 := ⟨rfl, by decide⟩
theorem e22_ok : FacOk e22 := ⟨rfl, by decide⟩
noncomputable def s22M : Models := Models.on wFactor_K.f (wFactor_T.run wfM 0) (Models.on wLoad_K.f (wLoad_T.run wlM 0) noM)
theorem sane22_ok : ConOk Try.prog sane22_K fun _ => some [.b true] :=
  con_of follows (M := s22M) (one_con (wFactor_ok.to _) (one_con (wLoad_ok.to _) no_cons)) sane22_t fun ds outs hl h => by
    injection h with h
    subst h
    obtain rfl : ds = [] := List.length_eq_zero_iff.1 hl
    refine ⟨fun i l h k => by simp [sane22_K] at k, 0, ?_⟩
    unfold sane22_T
    have x1 : wFactor_T.run wfM 0 [e22, .i 150] = some [.i 150] := by
      rw [wFactor_eq e22_ok (by decide) (by decide)]; rfl
    have x2 : wFactor_T.run wfM 0 [e22, .i 450] = some [.i 150] := by
      rw [wFactor_eq e22_ok (by decide) (by decide)]; rfl
    have x3 : wLoad_T.run wlM 0 [e22, z22, z22, .i 150, .i 1000, .i 0] = some [.i 150, .i 0, .i 0] := by
      rw [wLoad_eq e22_ok z22_ok z22_ok (by decide) (by decide) (by decide) (by decide) (by decide) (by decide)]; rfl
    have x4 : wLoad_T.run wlM 0 [e22, z22, z22, .i 0, .i 1000, .i 3300] = some [.i 300, .i 0, .i 0] := by
      rw [wLoad_eq e22_ok z22_ok z22_ok (by decide) (by decide) (by decide) (by decide) (by decide) (by decide)]; rfl
    refine To.join (fun l => l = [.b true]) ?_ ?_
    · refine To.call (l := _) x1 rfl ?_
      simp only [List.cons_append, List.nil_append]
      refine To.yes rfl (To.call (l := _) x2 rfl ?_)
      simp only [List.cons_append, List.nil_append]
      refine To.yes rfl (To.call (l := _) x3 rfl ?_)
      simp only [List.cons_append, List.nil_append]
      refine To.yes rfl (To.call (l := _) x4 rfl ?_)
      simp only [List.cons_append, List.nil_append]
      exact To.ret ⟨rfl, rfl⟩
    rintro l rfl
    exact To.ret rfl
noncomputable def law22M : Models := Models.on srcHull_K.f (srcHull_T.run srcHM 0) (Models.on srcWeather_K.f (srcWeather_T.run swM 0) (Models.on srcN_K.f (srcN_T.run noM 0) (Models.on srcList_K.f (srcList_T.run srcM 20) (Models.on wTotal_K.f (wTotal_T.run wtM 0) (Models.on wFactor_K.f (wFactor_T.run wfM 0) (Models.on wLoad_K.f (wLoad_T.run wlM 0) (Models.on sane22_K.f (fun _ => some [.b true]) noM)))))))
end Go.Proofs.Ytdkamfkpmplaoaa
