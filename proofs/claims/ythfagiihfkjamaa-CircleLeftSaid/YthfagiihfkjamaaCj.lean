/- The circle's functions, by their trees. -/
import Derived.Test.YthfagiihfkjamaaCi
set_option linter.unusedSimpArgs false
namespace Go.Proofs.Ythfagiihfkjamaa
open Go.ChangeShapes Go.WideShapes Go.ChangeAt Go.RowKit Sym
def farV (x y l r p q n s : Int) : Int := if r < l ∨ s = 0 then -1 else (max (p - x) (x - p) + n) * (max (p - x) (x - p) + n) + (max (q - y) (y - q) + n) * (max (q - y) (y - q) + n)
def closeV (x y l r p q n s : Int) : Int := if r < l ∨ s = 0 then -1 else max 0 (max (p - x) (x - p) - n) * max 0 (max (p - x) (x - p) - n) + max 0 (max (q - y) (y - q) - n) * max 0 (max (q - y) (y - q) - n)
def zoneV (l r z : Int) : Int := if z = -1 then 3 else if z ≤ l * l then 1 else if z ≤ r * r then 2 else 3
structure Small (x y l r p q n : Int) : Prop where
  x : -1000000 ≤ x ∧ x ≤ 1000000
  y : -1000000 ≤ y ∧ y ≤ 1000000
  l : 0 ≤ l ∧ l ≤ 1000000
  r : 0 ≤ r ∧ r ≤ 1000000
  p : -1000000 ≤ p ∧ p ≤ 1000000
  q : -1000000 ≤ q ∧ q ≤ 1000000
  n : 0 ≤ n ∧ n ≤ 1000000
abbrev circV (x y l r : Int) : Value := .agg #[.int .i64 x, .int .i64 y, .int .i64 l, .int .i64 r]
abbrev estV (p q n t s : Int) : Value := .agg #[.int .i64 p, .int .i64 q, .int .i64 n, .int .i64 t, .int .i64 s]
def far_Z : Beg := ⟨[], [], [.agg [.int .i64 (.v 0), .int .i64 (.v 1), .int .i64 (.v 2), .int .i64 (.v 3)], .agg [.int .i64 (.v 4), .int .i64 (.v 5), .int .i64 (.v 6), .int .i64 (.v 7), .int .i64 (.v 8)]], 9, 0, 0, [some (-1000000, 1000000), some (-1000000, 1000000), some (0, 1000000), some (0, 1000000), some (-1000000, 1000000), some (-1000000, 1000000), some (0, 1000000), none, none], [], []⟩
def far_T : T SV :=
  T.ite (B.lt (E.v 3) (E.v 2)) (T.ret (SV.int IntKind.i64 (E.n (-1))))
  (T.ite (B.eq (E.v 8) (E.n 0)) (T.ret (SV.int IntKind.i64 (E.n (-1))))
    (T.ret
      (SV.int IntKind.i64
        (((E.n 0).add
              (((((E.v 4).sub (E.v 0)).mx ((E.v 0).sub (E.v 4))).add (E.v 6)).mul
                ((((E.v 4).sub (E.v 0)).mx ((E.v 0).sub (E.v 4))).add (E.v 6)))).add
          (((((E.v 5).sub (E.v 1)).mx ((E.v 1).sub (E.v 5))).add (E.v 6)).mul
            ((((E.v 5).sub (E.v 1)).mx ((E.v 1).sub (E.v 5))).add (E.v 6)))))))
set_option maxRecDepth 100000 in
theorem far_t : runS Go.Proofs.Try.prog far_Z 40 = far_T := by kernel_rfl
theorem far_calls {x y l r p q n t s : Int} (h : Small x y l r p q n) (w : World) :
    Calls Try.prog 40 #[circV x y l r, estV p q n t s] w fun e w' => e = .returned (.int .i64 (farV x y l r p q n s)) ∧ Below w.heap.size w w' :=
  fixed far_t ⟨[x, y, l, r, p, q, n, t, s], [], []⟩ rfl rfl rfl ⟨h.x, h.y, h.l, h.r, h.p, h.q, h.n, trivial⟩ (slNil _ _) (skNil _) w _ (by
    unfold far_T
    refine ⟨fun k => ?_, fun k => ⟨fun k' => ?_, fun k' => ?_⟩⟩ <;> simp only [T.holds, E.den, B.den, SV.den, SV.dens, List.getD_cons_zero, List.getD_cons_succ, List.cons_append, List.nil_append, List.append_nil, List.map_cons, List.map_nil, List.length_cons, List.length_nil, decide_eq_true_eq, decide_eq_false_iff_not] at *
    · rw [farV, if_pos (.inl k)]
    · rw [farV, if_pos (.inr k')]
    · rw [farV, if_neg (fun g => g.elim k k'), Int.zero_add])
def close_Z : Beg := ⟨[], [], [.agg [.int .i64 (.v 0), .int .i64 (.v 1), .int .i64 (.v 2), .int .i64 (.v 3)], .agg [.int .i64 (.v 4), .int .i64 (.v 5), .int .i64 (.v 6), .int .i64 (.v 7), .int .i64 (.v 8)]], 9, 0, 0, [some (-1000000, 1000000), some (-1000000, 1000000), some (0, 1000000), some (0, 1000000), some (-1000000, 1000000), some (-1000000, 1000000), some (0, 1000000), none, none], [], []⟩
def close_T : T SV :=
  T.ite (B.lt (E.v 3) (E.v 2)) (T.ret (SV.int IntKind.i64 (E.n (-1))))
  (T.ite (B.eq (E.v 8) (E.n 0)) (T.ret (SV.int IntKind.i64 (E.n (-1))))
    (T.ret
      (SV.int IntKind.i64
        (((E.n 0).add
              (((E.n 0).mx ((((E.v 4).sub (E.v 0)).mx ((E.v 0).sub (E.v 4))).sub (E.v 6))).mul
                ((E.n 0).mx ((((E.v 4).sub (E.v 0)).mx ((E.v 0).sub (E.v 4))).sub (E.v 6))))).add
          (((E.n 0).mx ((((E.v 5).sub (E.v 1)).mx ((E.v 1).sub (E.v 5))).sub (E.v 6))).mul
            ((E.n 0).mx ((((E.v 5).sub (E.v 1)).mx ((E.v 1).sub (E.v 5))).sub (E.v 6))))))))
set_option maxRecDepth 100000 in
theorem close_t : runS Go.Proofs.Try.prog close_Z 42 = close_T := by kernel_rfl
theorem close_calls {x y l r p q n t s : Int} (h : Small x y l r p q n) (w : World) :
    Calls Try.prog 42 #[circV x y l r, estV p q n t s] w fun e w' => e = .returned (.int .i64 (closeV x y l r p q n s)) ∧ Below w.heap.size w w' :=
  fixed close_t ⟨[x, y, l, r, p, q, n, t, s], [], []⟩ rfl rfl rfl ⟨h.x, h.y, h.l, h.r, h.p, h.q, h.n, trivial⟩ (slNil _ _) (skNil _) w _ (by
    unfold close_T
    refine ⟨fun k => ?_, fun k => ⟨fun k' => ?_, fun k' => ?_⟩⟩ <;> simp only [T.holds, E.den, B.den, SV.den, SV.dens, List.getD_cons_zero, List.getD_cons_succ, List.cons_append, List.nil_append, List.append_nil, List.map_cons, List.map_nil, List.length_cons, List.length_nil, decide_eq_true_eq, decide_eq_false_iff_not] at *
    · rw [closeV, if_pos (.inl k)]
    · rw [closeV, if_pos (.inr k')]
    · rw [closeV, if_neg (fun g => g.elim k k'), Int.zero_add])
def worst_Z : Beg := ⟨[⟨40, true, .int .i64 (.v 0), ⟨1, 0, 0, 0, [none], [], []⟩⟩], [], [.agg [.int .i64 (.v 0), .int .i64 (.v 1), .int .i64 (.v 2), .int .i64 (.v 3)], .agg [.int .i64 (.v 4), .int .i64 (.v 5), .int .i64 (.v 6), .int .i64 (.v 7), .int .i64 (.v 8)]], 9, 0, 0, [some (-1000000, 1000000), some (-1000000, 1000000), some (0, 1000000), some (0, 1000000), some (-1000000, 1000000), some (-1000000, 1000000), some (0, 1000000), none, none], [], []⟩
def worst_T : T SV :=
  T.call true 40
  [SV.agg
      [SV.int IntKind.i64 (E.v 0), SV.int IntKind.i64 (E.v 1), SV.int IntKind.i64 (E.v 2), SV.int IntKind.i64 (E.v 3)],
    SV.agg
      [SV.int IntKind.i64 (E.v 4), SV.int IntKind.i64 (E.v 5), SV.int IntKind.i64 (E.v 6), SV.int IntKind.i64 (E.v 7),
        SV.int IntKind.i64 (E.v 8)]]
  [{
      cells :=
        [SV.int IntKind.i64 (E.v 0), SV.int IntKind.i64 (E.v 1), SV.int IntKind.i64 (E.v 2),
          SV.int IntKind.i64 (E.v 3)],
      wr := true },
    {
      cells :=
        [SV.int IntKind.i64 (E.v 4), SV.int IntKind.i64 (E.v 5), SV.int IntKind.i64 (E.v 6), SV.int IntKind.i64 (E.v 7),
          SV.int IntKind.i64 (E.v 8)],
      wr := true }]
  (SV.int IntKind.i64 (E.v 9)) { ni := 1, nb := 0, nv := 0, nj := 0, bd := [none], sl := [], sk := [] }
  (T.ite (B.eq (E.v 9) (E.n (-1))) (T.ret (SV.int IntKind.i64 (E.n 3)))
    (T.ite (B.lt ((E.n 0).add ((E.v 2).mul (E.v 2))) (E.v 9))
      (T.ite (B.lt ((E.n 0).add ((E.v 3).mul (E.v 3))) (E.v 9))
        (T.ret (SV.int IntKind.i64 (E.n 3))) (T.ret (SV.int IntKind.i64 (E.n 2))))
      (T.ret (SV.int IntKind.i64 (E.n 1)))))
set_option maxRecDepth 100000 in
theorem worst_t : runS Go.Proofs.Try.prog worst_Z 44 = worst_T := by kernel_rfl
def worstV (x y l r p q n s : Int) : Int := zoneV l r (farV x y l r p q n s)
def bestV (x y l r p q n s : Int) : Int := zoneV l r (closeV x y l r p q n s)
theorem zone_holds {l r z : Int} : (¬ z = -1 → ¬ 0 + l * l < z → zoneV l r z = 1) ∧ (¬ z = -1 → 0 + l * l < z → ¬ 0 + r * r < z → zoneV l r z = 2) ∧ (¬ z = -1 → 0 + l * l < z → 0 + r * r < z → zoneV l r z = 3) ∧ (z = -1 → zoneV l r z = 3) := by
  unfold zoneV
  refine ⟨fun a b => ?_, fun a b c => ?_, fun a b c => ?_, fun a => ?_⟩
  · rw [if_neg a, if_pos (by omega)]
  · rw [if_neg a, if_neg (by omega), if_pos (by omega)]
  · rw [if_neg a, if_neg (by omega), if_neg (by omega)]
  · rw [if_pos a]
theorem worst_calls {x y l r p q n t s : Int} (h : Small x y l r p q n) (w : World) :
    Calls Try.prog 44 #[circV x y l r, estV p q n t s] w fun e w' => e = .returned (.int .i64 (worstV x y l r p q n s)) ∧ Below w.heap.size w w' :=
  fixed worst_t ⟨[x, y, l, r, p, q, n, t, s], [], []⟩ rfl rfl rfl ⟨h.x, h.y, h.l, h.r, h.p, h.q, h.n, trivial⟩ (slNil _ _) (skNil _) w _ (by
    unfold worst_T
    refine fixInt keeps_below rfl (farV x y l r p q n s) trivial (fun u => far_calls h u) (fun _ => rfl) ?_
    obtain ⟨z1, z2, z3, z4⟩ := zone_holds (l := l) (r := r) (z := farV x y l r p q n s)
    refine ⟨fun k => ?_, fun k => ⟨fun k' => ⟨fun k2 => ?_, fun k2 => ?_⟩, fun k' => ?_⟩⟩ <;> simp only [T.holds, E.den, B.den, SV.den, SV.dens, List.getD_cons_zero, List.getD_cons_succ, List.cons_append, List.nil_append, List.append_nil, List.map_cons, List.map_nil, List.length_cons, List.length_nil, decide_eq_true_eq, decide_eq_false_iff_not, worstV] at *
    · rw [z4 k]
    · rw [z3 k k' k2]
    · rw [z2 k k' k2]
    · rw [z1 k k'])
def best_Z : Beg := ⟨[⟨42, true, .int .i64 (.v 0), ⟨1, 0, 0, 0, [none], [], []⟩⟩], [], [.agg [.int .i64 (.v 0), .int .i64 (.v 1), .int .i64 (.v 2), .int .i64 (.v 3)], .agg [.int .i64 (.v 4), .int .i64 (.v 5), .int .i64 (.v 6), .int .i64 (.v 7), .int .i64 (.v 8)]], 9, 0, 0, [some (-1000000, 1000000), some (-1000000, 1000000), some (0, 1000000), some (0, 1000000), some (-1000000, 1000000), some (-1000000, 1000000), some (0, 1000000), none, none], [], []⟩
def best_T : T SV :=
  T.call true 42
  [SV.agg
      [SV.int IntKind.i64 (E.v 0), SV.int IntKind.i64 (E.v 1), SV.int IntKind.i64 (E.v 2), SV.int IntKind.i64 (E.v 3)],
    SV.agg
      [SV.int IntKind.i64 (E.v 4), SV.int IntKind.i64 (E.v 5), SV.int IntKind.i64 (E.v 6), SV.int IntKind.i64 (E.v 7),
        SV.int IntKind.i64 (E.v 8)]]
  [{
      cells :=
        [SV.int IntKind.i64 (E.v 0), SV.int IntKind.i64 (E.v 1), SV.int IntKind.i64 (E.v 2),
          SV.int IntKind.i64 (E.v 3)],
      wr := true },
    {
      cells :=
        [SV.int IntKind.i64 (E.v 4), SV.int IntKind.i64 (E.v 5), SV.int IntKind.i64 (E.v 6), SV.int IntKind.i64 (E.v 7),
          SV.int IntKind.i64 (E.v 8)],
      wr := true }]
  (SV.int IntKind.i64 (E.v 9)) { ni := 1, nb := 0, nv := 0, nj := 0, bd := [none], sl := [], sk := [] }
  (T.ite (B.eq (E.v 9) (E.n (-1))) (T.ret (SV.int IntKind.i64 (E.n 3)))
    (T.ite (B.lt ((E.n 0).add ((E.v 2).mul (E.v 2))) (E.v 9))
      (T.ite (B.lt ((E.n 0).add ((E.v 3).mul (E.v 3))) (E.v 9))
        (T.ret (SV.int IntKind.i64 (E.n 3))) (T.ret (SV.int IntKind.i64 (E.n 2))))
      (T.ret (SV.int IntKind.i64 (E.n 1)))))
set_option maxRecDepth 100000 in
theorem best_t : runS Go.Proofs.Try.prog best_Z 46 = best_T := by kernel_rfl
theorem best_calls {x y l r p q n t s : Int} (h : Small x y l r p q n) (w : World) :
    Calls Try.prog 46 #[circV x y l r, estV p q n t s] w fun e w' => e = .returned (.int .i64 (bestV x y l r p q n s)) ∧ Below w.heap.size w w' :=
  fixed best_t ⟨[x, y, l, r, p, q, n, t, s], [], []⟩ rfl rfl rfl ⟨h.x, h.y, h.l, h.r, h.p, h.q, h.n, trivial⟩ (slNil _ _) (skNil _) w _ (by
    unfold best_T
    refine fixInt keeps_below rfl (closeV x y l r p q n s) trivial (fun u => close_calls h u) (fun _ => rfl) ?_
    obtain ⟨z1, z2, z3, z4⟩ := zone_holds (l := l) (r := r) (z := closeV x y l r p q n s)
    refine ⟨fun k => ?_, fun k => ⟨fun k' => ⟨fun k2 => ?_, fun k2 => ?_⟩, fun k' => ?_⟩⟩ <;> simp only [T.holds, E.den, B.den, SV.den, SV.dens, List.getD_cons_zero, List.getD_cons_succ, List.cons_append, List.nil_append, List.append_nil, List.map_cons, List.map_nil, List.length_cons, List.length_nil, decide_eq_true_eq, decide_eq_false_iff_not, bestV] at *
    · rw [z4 k]
    · rw [z3 k k' k2]
    · rw [z2 k k' k2]
    · rw [z1 k k'])
theorem zone_rng (l r z : Int) : 1 ≤ zoneV l r z ∧ zoneV l r z ≤ 3 := by
  unfold zoneV
  split
  · omega
  · split
    · omega
    · split <;> omega
def KnownB (x y n s : Int) : Prop := (-5000 ≤ x ∧ x ≤ 5000) ∧ (-5000 ≤ y ∧ y ≤ 5000) ∧ (0 ≤ n ∧ n ≤ 900) ∧ 1 ≤ s ∧ s ≤ 2
def known_Z : Beg := ⟨[⟨32, false, .int .i64 (.v 0), ⟨1, 0, 0, 0, [some (-1000000000000, 1000000000000)], [], []⟩⟩, ⟨39, false, .agg [.int .i64 (.v 0), .int .i64 (.v 1), .int .i64 (.v 2), .int .i64 (.v 3), .int .i64 (.v 4)], ⟨5, 0, 0, 0, [some (-5000, 5000), some (-5000, 5000), some (0, 900), none, some (0, 2)], [], []⟩⟩], [], [.var 0], 0, 0, 1, [], [], [0]⟩
def known_T : T SV :=
  T.call false 39 [SV.var 0, SV.int IntKind.i64 (E.n 0)]
  [{
      cells :=
        [SV.int IntKind.i64 (E.n 0), SV.int IntKind.i64 (E.n 0),
          SV.int IntKind.i64 (E.n 0), SV.int IntKind.i64 (E.n 0),
          SV.int IntKind.i64 (E.n 0)],
      wr := true }]
  (SV.agg
    [SV.int IntKind.i64 (E.v 0), SV.int IntKind.i64 (E.v 1), SV.int IntKind.i64 (E.v 2), SV.int IntKind.i64 (E.v 3),
      SV.int IntKind.i64 (E.v 4)])
  { ni := 5, nb := 0, nv := 0, nj := 0,
    bd :=
      [some ((-5000), 5000), some ((-5000), 5000),
        some (0, 900), none, some (0, 2)],
    sl := [], sk := [] }
  (T.call false 32 [SV.var 0, SV.int IntKind.i64 (E.n 1), SV.int IntKind.i64 (E.n 2)]
    [{
        cells :=
          [SV.int IntKind.i64 (E.n 0), SV.int IntKind.i64 (E.n 0),
            SV.int IntKind.i64 (E.n 0), SV.int IntKind.i64 (E.n 0),
            SV.int IntKind.i64 (E.n 0)],
        wr := true },
      {
        cells :=
          [SV.int IntKind.i64 (E.v 0), SV.int IntKind.i64 (E.v 1), SV.int IntKind.i64 (E.v 2),
            SV.int IntKind.i64 (E.v 3), SV.int IntKind.i64 (E.v 4)],
        wr := true }]
    (SV.int IntKind.i64 (E.v 5))
    { ni := 1, nb := 0, nv := 0, nj := 0, bd := [some ((-1000000000000), 1000000000000)], sl := [],
      sk := [] }
    (T.ret
      (SV.agg
        [SV.int IntKind.i64 (E.v 0), SV.int IntKind.i64 (E.v 1), SV.int IntKind.i64 (E.v 2), SV.int IntKind.i64 (E.v 3),
          SV.int IntKind.i64 (E.v 5)])))
set_option maxRecDepth 100000 in
theorem known_t : runS Go.Proofs.Try.prog known_Z 51 = known_T := by kernel_rfl
theorem known_calls (m b : Nat) (w : World) (h : SrcM m w b) :
    Calls Try.prog 51 #[.pointer (some ⟨b, 0, none⟩)] w (GaveM m b w fun v => ∃ x y c s, KnownB x y c s ∧ v = .agg #[.int .i64 x, .int .i64 y, .int .i64 c, .int .i64 0, .int .i64 s]) :=
  srcRun known_t ⟨[], [], [.pointer (some ⟨b, 0, none⟩)]⟩ rfl rfl rfl trivial (slNil _ _) (sk1 rfl) h (by
    have hm : m ≤ w.heap.size := by have := h.lt; have := h.le; omega
    unfold known_T
    refine estiNode hm ⟨rfl, rfl, rfl, rfl, rfl⟩ rfl (fun x y l r k => ⟨k.1, k.2.1, k.2.2.1, k.2.2.2, trivial⟩) fun e0 e1 e2 e3 he => ?_
    refine rangeNode hm rfl rfl (by simp only [E.den, B.den, SV.den, SV.dens, List.getD_cons_zero, List.getD_cons_succ, List.cons_append, List.nil_append, List.append_nil, List.map_cons, List.map_nil, List.length_cons, List.length_nil]; omega) (by simp only [E.den, B.den, SV.den, SV.dens, List.getD_cons_zero, List.getD_cons_succ, List.cons_append, List.nil_append, List.append_nil, List.map_cons, List.map_nil, List.length_cons, List.length_nil]; omega) (by simp only [E.den, B.den, SV.den, SV.dens, List.getD_cons_zero, List.getD_cons_succ, List.cons_append, List.nil_append, List.append_nil, List.map_cons, List.map_nil, List.length_cons, List.length_nil]; omega) fun z hz => ?_
    exact ⟨e0, e1, e2, z, ⟨he.1, he.2.1, he.2.2.1, hz⟩, rfl⟩)
section
variable {w0 : World} {m b : Nat} {A : Inva} {ρ : Env} {Q : SV → Env → Sp → Prop} {hp : List Blk} {x : T SV}
theorem knownNode {j k k1 k2 k3 k4 : Nat} {bd : Bds} (hm : m ≤ w0.heap.size) (hk : k = ρ.is.length ∧ k1 = ρ.is.length + 1 ∧ k2 = ρ.is.length + 2 ∧ k3 = ρ.is.length + 3 ∧ k4 = ρ.is.length + 4) (hj : ρ.vs.getD j undef = .pointer (some ⟨b, 0, none⟩))
    (hbd : ∀ x y c s, KnownB x y c s → BdL [x, y, c, 0, s] bd) (rest : ∀ e0 e1 e2 e3, KnownB e0 e1 e2 e3 → x.holds Try.prog w0.heap.size (spSrc w0 m b) ⟨ρ.is ++ [e0, e1, e2, 0, e3], ρ.bs ++ [], ρ.vs ++ []⟩ A Q) :
    (T.call false 51 [.var j] hp (.agg [.int .i64 (.v k), .int .i64 (.v k1), .int .i64 (.v k2), .int .i64 (.v k3), .int .i64 (.v k4)]) ⟨5, 0, 0, 0, bd, [], []⟩ x).holds Try.prog w0.heap.size (spSrc w0 m b) ρ A Q := by
  obtain ⟨rfl, rfl, rfl, rfl, rfl⟩ := hk
  refine srcNode hm (fun is => ∃ x y c s, is = [x, y, c, 0, s] ∧ KnownB x y c s) (fun is ⟨x, y, l, r, e, h⟩ => by subst e; exact ⟨rfl, hbd _ _ _ _ h⟩) (fun β w hH => ?_) (fun is ⟨x, y, l, r, e, h⟩ => by subst e; exact rest _ _ _ _ h)
  have ea : (SV.dens ρ β [.var j]).toArray = #[.pointer (some ⟨b, 0, none⟩)] := by simp only [SV.dens, SV.den, hj]
  rw [ea]
  refine (known_calls m b w hH.inv.2).mono fun e w' ⟨v, he, ⟨x, y, l, r, hc, hv⟩, hs⟩ => ⟨v, he, ⟨[x, y, l, 0, r], ⟨x, y, l, r, rfl, hc⟩, ?_⟩, hs⟩
  rw [hv]
  simp [SV.den, SV.dens, E.den]
theorem worstNode {s : Sp} {n0 k : Nat} {args : List SV} {c0 c1 c2 c3 e0 e1 e2 e3 e4 : Int} (hs : Keeps s) (hk : k = ρ.is.length) (h : Small c0 c1 c2 c3 e0 e1 e2) (ha : ∀ β, SV.dens ρ β args = [circV c0 c1 c2 c3, estV e0 e1 e2 e3 e4])
    (rest : x.holds Try.prog n0 s ⟨ρ.is ++ [worstV c0 c1 c2 c3 e0 e1 e2 e4], ρ.bs ++ [], ρ.vs ++ []⟩ A Q) :
    (T.call true 44 args hp (.int .i64 (.v k)) ⟨1, 0, 0, 0, [some (1, 3)], [], []⟩ x).holds Try.prog n0 s ρ A Q :=
  fixInt hs hk _ ⟨zone_rng _ _ _, trivial⟩ (fun u => by rw [ha]; exact worst_calls h u) (fun β => by rw [ha, ha]) rest
theorem bestNode {s : Sp} {n0 k : Nat} {args : List SV} {c0 c1 c2 c3 e0 e1 e2 e3 e4 : Int} (hs : Keeps s) (hk : k = ρ.is.length) (h : Small c0 c1 c2 c3 e0 e1 e2) (ha : ∀ β, SV.dens ρ β args = [circV c0 c1 c2 c3, estV e0 e1 e2 e3 e4])
    (rest : x.holds Try.prog n0 s ⟨ρ.is ++ [bestV c0 c1 c2 c3 e0 e1 e2 e4], ρ.bs ++ [], ρ.vs ++ []⟩ A Q) :
    (T.call true 46 args hp (.int .i64 (.v k)) ⟨1, 0, 0, 0, [some (1, 3)], [], []⟩ x).holds Try.prog n0 s ρ A Q :=
  fixInt hs hk _ ⟨zone_rng _ _ _, trivial⟩ (fun u => by rw [ha]; exact best_calls h u) (fun β => by rw [ha, ha]) rest
end
end Go.Proofs.Ythfagiihfkjamaa
