/- The walk of AngleTurns. -/
import Derived.Test.YtjmmkphdomiohaaAnSane
namespace Go.Proofs.Ytjmmkphdomiohaa
open Go.RowKit
theorem turns_facts (a k : Int) : ∃ p s c : Int, An.norm a = p ∧ 0 ≤ p ∧ p < 3600 ∧ An.norm (p + k * 3600) = p ∧ An.sin p = s ∧ An.sin (p + k * 3600) = s ∧ An.cos p = c ∧ An.cos (p + k * 3600) = c ∧
    An.sin (p + 1800) = -s ∧ An.cos (p + 1800) = -c ∧ An.diff p (p + k * 3600) = 0 ∧ -10000 ≤ s ∧ s ≤ 10000 ∧ -10000 ≤ c ∧ c ≤ 10000 := by
  have n := An.norm_range a
  have e := An.at_each a
  simp only [An.each, Bool.and_eq_true, beq_iff_eq] at e
  have h : An.norm (An.norm a + k * 3600) = An.norm a := by unfold An.norm; omega
  have h' : An.norm (An.norm a + k * 3600) = An.norm (An.norm a) := by rw [h, An.norm_norm]
  refine ⟨_, _, _, rfl, n.1, n.2, h, rfl, An.sin_of h', rfl, An.cos_of h', e.1.1.1.1.1.1.1, e.1.1.1.1.1.1.2, ?_, (An.sin_range _).1, (An.sin_range _).2, (An.cos_range _).1, (An.cos_range _).2⟩
  unfold An.diff
  rw [h, An.norm_norm, Int.sub_self]
  decide
set_option maxHeartbeats 1000000 in
set_option maxRecDepth 100000 in
theorem AngleTurns_walk (w : World) (a : Int) (_ : (Lit.int .i64 a).wf = true) (k : Int) (wk : (Lit.int .i8 k).wf = true) :
    Calls Try.prog 3 #[.int .i64 a, .int .i8 k] w fun e w' => e = .returned (.bool true) ∧ Below w.heap.size w w' := by
  have e1 : IntKind.i8.min = -128 := rfl
  have e2 : IntKind.i8.max = 127 := rfl
  simp only [Lit.wf, e1, e2, Bool.and_eq_true, decide_eq_true_eq] at wk
  clear e1 e2
  obtain ⟨k1, k2⟩ := wk
  obtain ⟨p, s, c, f1, g1, g2, f2, f3, f4, f5, f6, f7, f8, f9, g3, g4, g5, g6⟩ := turns_facts a k
  have F1 := Lib.hid f1
  have F2 := Lib.hid f2
  have F3 := Lib.hid f3
  have F4 := Lib.hid f4
  have F5 := Lib.hid f5
  have F6 := Lib.hid f6
  have F7 := Lib.hid f7
  have F8 := Lib.hid f8
  have F9 := Lib.hid f9
  clear f1 f2 f3 f4 f5 f6 f7 f8 f9
  go_enter Try.func3, Try.ntmps3
  go_wp2_with (fail)
  refine (norm_eq _ p _ F1.out).mono ?_
  rintro e w' ⟨rfl, rfl⟩
  go_wp2_with (fail)
  refine (norm_eq _ p _ F2.out).mono ?_
  rintro e w' ⟨rfl, rfl⟩
  go_wp2_with (fail)
  refine (sin_eq _ s _ F4.out).mono ?_
  rintro e w1 ⟨rfl, hb1⟩
  go_wp2_with (fail)
  refine (sin_eq _ s _ F3.out).mono ?_
  rintro e w2 ⟨rfl, hb2⟩
  go_wp2_with (fail)
  refine (cos_eq _ c _ F6.out).mono ?_
  rintro e w3 ⟨rfl, hb3⟩
  go_wp2_with (fail)
  refine (cos_eq _ c _ F5.out).mono ?_
  rintro e w4 ⟨rfl, hb4⟩
  go_wp2_with (fail)
  refine (sin_eq _ (-s) _ F7.out).mono ?_
  rintro e w5 ⟨rfl, hb5⟩
  go_wp2_with (fail)
  refine (sin_eq _ s _ F3.out).mono ?_
  rintro e w6 ⟨rfl, hb6⟩
  go_wp2_with (fail)
  refine (cos_eq _ (-c) _ F8.out).mono ?_
  rintro e w7 ⟨rfl, hb7⟩
  go_wp2_with (fail)
  refine (cos_eq _ c _ F5.out).mono ?_
  rintro e w8 ⟨rfl, hb8⟩
  go_wp2_with (fail)
  refine (diff_eq _ _ 0 _ F9.out).mono ?_
  rintro e w' ⟨rfl, rfl⟩
  go_wp2_with (fail)
  refine (sane02 _).mono ?_
  rintro e w9 ⟨rfl, hb9⟩
  go_wp2_with (fail)
  go_ret
  exact ⟨rfl, below_step hb1 (below_step hb2 (below_step hb3 (below_step hb4 (below_step hb5 (below_step hb6 (below_step hb7 (below_step hb8 hb9)))))))⟩
end Go.Proofs.Ytjmmkphdomiohaa
