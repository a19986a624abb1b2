/- circle.Left by its loop's invariant, and the walk of CircleLeft. -/
import Derived.Test.YthfagiihfkjamaaWCovers
set_option linter.unusedSimpArgs false
namespace Go.Proofs.Ythfagiihfkjamaa
open Go.ChangeShapes Go.WideShapes Go.ChangeAt Go.RowKit Sym
def left_Z : Beg := ⟨[⟨44, true, .int .i64 (.v 0), ⟨1, 0, 0, 0, [some (1, 3)], [], []⟩⟩], [(76, [(0, [some (0, 400), some (0, 400)])])], [.agg [.int .i64 (.v 0), .int .i64 (.v 1), .int .i64 (.v 2), .int .i64 (.v 3)], .agg [.int .i64 (.v 4), .int .i64 (.v 5), .int .i64 (.v 6), .int .i64 (.v 7), .int .i64 (.v 8)], .int .i64 (.v 9)], 10, 0, 0, [some (-1000, 1000), some (-1000, 1000), some (0, 5000), some (0, 5000), some (-5000, 5000), some (-5000, 5000), some (0, 900), none, some (1, 2), some (0, 1000)], [], []⟩
def left_T : T SV :=
  T.call true 44
  [SV.agg
      [SV.int IntKind.i64 (E.v 0), SV.int IntKind.i64 (E.v 1), SV.int IntKind.i64 (E.v 2), SV.int IntKind.i64 (E.v 3)],
    SV.agg
      [SV.int IntKind.i64 (E.v 4), SV.int IntKind.i64 (E.v 5), SV.int IntKind.i64 (E.v 6), SV.int IntKind.i64 (E.v 7),
        SV.int IntKind.i64 (E.v 8)]]
  [{
      cells :=
        [SV.int IntKind.i64 (E.v 0), SV.int IntKind.i64 (E.v 1), SV.int IntKind.i64 (E.v 2),
          SV.int IntKind.i64 (E.v 3)],
      wr := true },
    {
      cells :=
        [SV.int IntKind.i64 (E.v 4), SV.int IntKind.i64 (E.v 5), SV.int IntKind.i64 (E.v 6), SV.int IntKind.i64 (E.v 7),
          SV.int IntKind.i64 (E.v 8)],
      wr := true },
    { cells := [SV.int IntKind.i64 (E.v 9)], wr := true }]
  (SV.int IntKind.i64 (E.v 10))
  { ni := 1, nb := 0, nv := 0, nj := 0, bd := [some (1, 3)], sl := [], sk := [] }
  (T.ite (B.eq (E.v 10) (E.n 3)) (T.ret (SV.int IntKind.i64 (E.n (-1))))
    (T.loop 0
      [E.n 0, E.n 400, E.v 0, E.v 1, E.v 2, E.v 3, E.v 4, E.v 5, E.v 6, E.v 7, E.v 8, E.v 9] []
      []
      { ni := 12, nb := 0, nv := 0, nj := 17,
        bd :=
          [some (0, 400), some (0, 400), none, none, none, none, none, none,
            none, none, none, none],
        sl := [], sk := [] }
      (T.ite (B.lt (E.v 11) (E.v 12))
        (T.call true 44
          [SV.agg
              [SV.int IntKind.i64 (E.v 13), SV.int IntKind.i64 (E.v 14), SV.int IntKind.i64 (E.v 15),
                SV.int IntKind.i64 (E.v 16)],
            SV.agg
              [SV.int IntKind.i64 (E.v 17), SV.int IntKind.i64 (E.v 18),
                SV.int IntKind.i64
                  (E.wr IntKind.i64
                    ((E.v 19).add
                      (E.wr IntKind.i64
                        (((((E.v 11).add (E.v 12)).quo (E.n 2)).add (E.n 1)).mul (E.v 22))))),
                SV.int IntKind.i64 (E.v 20), SV.int IntKind.i64 (E.v 21)]]
          [{
              cells :=
                [SV.int IntKind.i64 (E.v 13), SV.int IntKind.i64 (E.v 14), SV.int IntKind.i64 (E.v 15),
                  SV.int IntKind.i64 (E.v 16)],
              wr := true },
            {
              cells :=
                [SV.int IntKind.i64 (E.v 17), SV.int IntKind.i64 (E.v 18), SV.int IntKind.i64 (E.v 19),
                  SV.int IntKind.i64 (E.v 20), SV.int IntKind.i64 (E.v 21)],
              wr := true },
            { cells := [SV.int IntKind.i64 (E.v 22)], wr := true },
            {
              cells :=
                [SV.int IntKind.i64 (E.v 17), SV.int IntKind.i64 (E.v 18),
                  SV.int IntKind.i64
                    (E.wr IntKind.i64
                      ((E.v 19).add
                        (E.wr IntKind.i64
                          (((((E.v 11).add (E.v 12)).quo (E.n 2)).add (E.n 1)).mul (E.v 22))))),
                  SV.int IntKind.i64 (E.v 20), SV.int IntKind.i64 (E.v 21)],
              wr := true }]
          (SV.int IntKind.i64 (E.v 23))
          { ni := 1, nb := 0, nv := 0, nj := 0, bd := [some (1, 3)], sl := [], sk := [] }
          (T.ite (B.eq (E.v 23) (E.n 3))
            (T.again 0
              [E.v 11, ((E.v 11).add (E.v 12)).quo (E.n 2), E.v 13, E.v 14, E.v 15, E.v 16, E.v 17, E.v 18,
                E.v 19, E.v 20, E.v 21, E.v 22]
              [] [])
            (T.again 0
              [(((E.v 11).add (E.v 12)).quo (E.n 2)).add (E.n 1), E.v 12, E.v 13, E.v 14,
                E.v 15, E.v 16, E.v 17, E.v 18, E.v 19, E.v 20, E.v 21, E.v 22]
              [] [])))
        (T.ret (SV.int IntKind.i64 (E.v 11))))))
set_option maxRecDepth 100000 in
theorem left_t : runS Go.Proofs.Try.prog left_Z 49 = left_T := by kernel_rfl
/-- what the ticks that are left mean -/
def LeftR (x y l r p q n s v k : Int) : Prop := (k = -1 ∧ worstV x y l r p q n s = 3) ∨ (0 ≤ k ∧ k ≤ 400 ∧ worstV x y l r p q (n + k * v) s ≠ 3 ∧ (k = 400 ∨ worstV x y l r p q (n + (k + 1) * v) s = 3))
structure Near (x y l r p q n s v : Int) : Prop where
  x : -1000 ≤ x ∧ x ≤ 1000
  y : -1000 ≤ y ∧ y ≤ 1000
  l : 0 ≤ l ∧ l ≤ 5000
  r : 0 ≤ r ∧ r ≤ 5000
  p : -5000 ≤ p ∧ p ≤ 5000
  q : -5000 ≤ q ∧ q ≤ 5000
  n : 0 ≤ n ∧ n ≤ 900
  s : 1 ≤ s ∧ s ≤ 2
  v : 0 ≤ v ∧ v ≤ 1000
theorem Near.small {x y l r p q n s v : Int} (h : Near x y l r p q n s v) {k : Int} (h0 : 0 ≤ k) (h1 : k ≤ 401) : (0 ≤ k * v ∧ k * v ≤ 401000) ∧ Small x y l r p q (n + k * v) := by
  obtain ⟨hx, hy, hl, hr, hp, hq, hn, hs, hv⟩ := h
  have a : 0 ≤ k * v := Int.mul_nonneg h0 hv.1
  have b : k * v ≤ 401 * 1000 := Int.mul_le_mul h1 hv.2 hv.1 (by omega)
  exact ⟨⟨a, by omega⟩, ⟨by omega, by omega, by omega, by omega, by omega, by omega, by omega⟩⟩
theorem left_calls {x y l r p q n t s v : Int} (h : Near x y l r p q n s v) (w : World) :
    Calls Try.prog 49 #[circV x y l r, estV p q n t s, .int .i64 v] w fun e w' => ∃ k, e = .returned (.int .i64 k) ∧ LeftR x y l r p q n s v k ∧ Below w.heap.size w w' := by
  have h0 := (h.small (k := 0) (by omega) (by omega)).2
  rw [Int.zero_mul, Int.add_zero] at h0
  refine calls left_t ⟨[x, y, l, r, p, q, n, t, s, v], [], []⟩ rfl rfl rfl ⟨h.x, h.y, h.l, h.r, h.p, h.q, h.n, h.s, h.v, trivial⟩ (slNil _ _) (skNil _) (inv_below w) (Below.refl _ _) (holds_mono (Q := fun sv ρ' _ => ∃ k, sv.den ρ' [] = .int .i64 k ∧ LeftR x y l r p q n s v k) (fun _ _ _ ⟨k, h1, h2⟩ w' hw _ => ⟨k, by rw [h1], h2, hw⟩) ?_)
  unfold left_T
  refine worstNode keeps_below rfl h0 (fun _ => by simp only [E.den, B.den, SV.den, SV.dens, List.getD_cons_zero, List.getD_cons_succ, List.cons_append, List.nil_append, List.append_nil, List.map_cons, List.map_nil, List.length_cons, List.length_nil]; rfl) ?_
  simp only [List.cons_append, List.nil_append, List.append_nil]
  refine ⟨fun k => ?_, fun k => ?_⟩
  · simp only [E.den, B.den, SV.den, SV.dens, List.getD_cons_zero, List.getD_cons_succ, List.cons_append, List.nil_append, List.append_nil, List.map_cons, List.map_nil, List.length_cons, List.length_nil, decide_eq_true_eq] at k
    exact ⟨-1, rfl, .inl ⟨rfl, k⟩⟩
  simp only [E.den, B.den, SV.den, SV.dens, List.getD_cons_zero, List.getD_cons_succ, List.cons_append, List.nil_append, List.append_nil, List.map_cons, List.map_nil, List.length_cons, List.length_nil, decide_eq_false_iff_not] at k
  refine ⟨fun is _ _ s' => s' = spB w ∧ ∃ i j, is = [i, j, x, y, l, r, p, q, n, t, s, v] ∧ 0 ≤ i ∧ i ≤ j ∧ j ≤ 400 ∧ worstV x y l r p q (n + i * v) s ≠ 3 ∧ (j = 400 ∨ worstV x y l r p q (n + (j + 1) * v) s = 3), fun is _ _ => (is.getD 1 0 - is.getD 0 0).toNat, ?_, ?_, ?_⟩
  · exact ⟨rfl, 0, 400, rfl, by omega, by omega, by omega, by rw [Int.zero_mul, Int.add_zero]; exact k, .inl rfl⟩
  · rintro is bs vs s' ⟨rfl, i, j, rfl, i1, i2, i3, _⟩
    exact ⟨BdL.ok ⟨⟨i1, by omega⟩, ⟨by omega, i3⟩, trivial⟩, Sp.le_refl _⟩
  · rintro is bs vs js s' hn hj F ⟨rfl, i, j, rfl, i1, i2, i3, i4, i5⟩
    have e1 : bs = [] := List.length_eq_zero_iff.1 hn.nb
    have e2 : vs = [] := List.length_eq_zero_iff.1 hn.nv
    subst e1 e2
    simp only [Env.ext, List.cons_append, List.nil_append, List.append_nil]
    refine ⟨fun c => ?_, fun c => ?_⟩
    · simp only [E.den, B.den, SV.den, SV.dens, List.getD_cons_zero, List.getD_cons_succ, List.cons_append, List.nil_append, List.append_nil, List.map_cons, List.map_nil, List.length_cons, List.length_nil, decide_eq_true_eq] at c
      have eq : (i + j).tdiv 2 = (i + j) / 2 := Int.tdiv_eq_ediv_of_nonneg (by omega)
      obtain ⟨⟨b1, b2⟩, sm⟩ := h.small (k := (i + j) / 2 + 1) (by omega) (by omega)
      have hn := h.n
      refine worstNode (c0 := x) (c1 := y) (c2 := l) (c3 := r) (e0 := p) (e1 := q) (e2 := n + ((i + j) / 2 + 1) * v) (e3 := t) (e4 := s) keeps_below (by simp only [E.den, B.den, SV.den, SV.dens, List.getD_cons_zero, List.getD_cons_succ, List.cons_append, List.nil_append, List.append_nil, List.map_cons, List.map_nil, List.length_cons, List.length_nil]) sm (fun _ => by
        simp only [E.den, B.den, SV.den, SV.dens, List.getD_cons_zero, List.getD_cons_succ, List.cons_append, List.nil_append, List.append_nil, List.map_cons, List.map_nil, List.length_cons, List.length_nil, eq]
        rw [wr64 (z := ((i + j) / 2 + 1) * v) (by omega) (by omega), wr64 (z := n + ((i + j) / 2 + 1) * v) (by omega) (by omega)]) ?_
      simp only [List.cons_append, List.nil_append, List.append_nil]
      refine ⟨fun k2 => ?_, fun k2 => ?_⟩
      · simp only [E.den, B.den, SV.den, SV.dens, List.getD_cons_zero, List.getD_cons_succ, List.cons_append, List.nil_append, List.append_nil, List.map_cons, List.map_nil, List.length_cons, List.length_nil, decide_eq_true_eq] at k2
        simp only [T.holds, Inva.upd, if_true, E.den, B.den, SV.den, SV.dens, List.getD_cons_zero, List.getD_cons_succ, List.cons_append, List.nil_append, List.append_nil, List.map_cons, List.map_nil, List.length_cons, List.length_nil, eq]
        exact ⟨⟨trivial, i, (i + j) / 2, rfl, i1, by omega, by omega, i4, .inr k2⟩, by omega⟩
      · simp only [E.den, B.den, SV.den, SV.dens, List.getD_cons_zero, List.getD_cons_succ, List.cons_append, List.nil_append, List.append_nil, List.map_cons, List.map_nil, List.length_cons, List.length_nil, decide_eq_false_iff_not] at k2
        simp only [T.holds, Inva.upd, if_true, E.den, B.den, SV.den, SV.dens, List.getD_cons_zero, List.getD_cons_succ, List.cons_append, List.nil_append, List.append_nil, List.map_cons, List.map_nil, List.length_cons, List.length_nil, eq]
        exact ⟨⟨trivial, (i + j) / 2 + 1, j, rfl, by omega, by omega, by omega, k2, i5⟩, by omega⟩
    · simp only [E.den, B.den, SV.den, SV.dens, List.getD_cons_zero, List.getD_cons_succ, List.cons_append, List.nil_append, List.append_nil, List.map_cons, List.map_nil, List.length_cons, List.length_nil, decide_eq_false_iff_not] at c
      have : i = j := by omega
      subst this
      exact ⟨i, rfl, .inr ⟨i1, i3, i4, i5⟩⟩
end Go.Proofs.Ythfagiihfkjamaa
