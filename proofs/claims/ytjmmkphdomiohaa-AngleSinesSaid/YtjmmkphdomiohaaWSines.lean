/- The walk of AngleSines. -/
import Derived.Test.YtjmmkphdomiohaaAnSane
namespace Go.Proofs.Ytjmmkphdomiohaa
open Go.RowKit
theorem sq_range {s : Int} (h0 : -10000 ≤ s) (h1 : s ≤ 10000) : 0 ≤ s * s ∧ s * s ≤ 100000000 := by
  constructor
  · rcases (by omega : 0 ≤ s ∨ s ≤ 0) with h | h
    · exact Int.mul_nonneg h h
    · exact Int.mul_nonneg_of_nonpos_of_nonpos h h
  · have e : (10000 - s) * (10000 + s) = 100000000 - s * s := by rw [Int.sub_mul, Int.mul_add, Int.mul_add]; omega
    have : 0 ≤ (10000 - s) * (10000 + s) := Int.mul_nonneg (by omega) (by omega)
    omega
theorem sines_facts (a : Int) : ∃ p s c u v : Int, An.norm a = p ∧ 0 ≤ p ∧ p < 3600 ∧ An.sin p = s ∧ An.cos p = c ∧ An.sin (-p) = -s ∧ An.sin (1800 - p) = s ∧ An.cos (-p) = c ∧ An.sin (p + 3600) = s ∧
    An.sin (p + 1) = u ∧ An.cos (p + 1) = v ∧ (p < 900 → s ≤ u ∧ v ≤ c) ∧ -10000 ≤ s ∧ s ≤ 10000 ∧ -10000 ≤ c ∧ c ≤ 10000 ∧ s * s + c * c - 100000000 ≤ 500000 ∧ -500000 ≤ s * s + c * c - 100000000 := by
  have n := An.norm_range a
  have e := An.at_each a
  simp only [An.each, Bool.and_eq_true, Bool.or_eq_true, beq_iff_eq, decide_eq_true_eq] at e
  obtain ⟨⟨⟨⟨⟨⟨⟨e1, e2⟩, e3⟩, e4⟩, e5⟩, e6⟩, e7⟩, e8⟩ := e
  refine ⟨_, _, _, _, _, rfl, n.1, n.2, rfl, rfl, e3, e4, e5, An.sin_of (by unfold An.norm; omega), rfl, rfl, fun h => e8.resolve_left (by omega), (An.sin_range _).1, (An.sin_range _).2, (An.cos_range _).1, (An.cos_range _).2, e6, e7⟩
set_option maxHeartbeats 1000000 in
set_option maxRecDepth 100000 in
theorem AngleSines_walk (w : World) (a : Int) (_ : (Lit.int .i64 a).wf = true) :
    Calls Try.prog 6 #[.int .i64 a] w fun e w' => e = .returned (.bool true) ∧ Below w.heap.size w w' := by
  obtain ⟨p, s, c, u, v, f1, g1, g2, f2, f3, f4, f5, f6, f7, f8, f9, g3, g4, g5, g6, g7, g8, g9⟩ := sines_facts a
  obtain ⟨q1, q2⟩ := sq_range g4 g5
  obtain ⟨q3, q4⟩ := sq_range g6 g7
  have F1 := Lib.hid f1
  have F2 := Lib.hid f2
  have F3 := Lib.hid f3
  have F4 := Lib.hid f4
  have F5 := Lib.hid f5
  have F6 := Lib.hid f6
  have F7 := Lib.hid f7
  have F8 := Lib.hid f8
  have F9 := Lib.hid f9
  clear f1 f2 f3 f4 f5 f6 f7 f8 f9
  by_cases hp : p < 900
  · obtain ⟨h1, h2⟩ := g3 hp
    clear g3
    go_enter Try.func6, Try.ntmps6
    go_wp2_with (fail)
    refine (norm_eq _ p _ F1.out).mono ?_
    rintro e w' ⟨rfl, rfl⟩
    go_wp2_with (fail)
    refine (sin_eq _ s _ F2.out).mono ?_
    rintro e w1 ⟨rfl, hb1⟩
    go_wp2_with (fail)
    refine (cos_eq _ c _ F3.out).mono ?_
    rintro e w2 ⟨rfl, hb2⟩
    go_wp2_with (fail)
    refine (sin_eq _ (-s) _ F4.out).mono ?_
    rintro e w3 ⟨rfl, hb3⟩
    go_wp2_with (fail)
    refine (sin_eq _ s _ F5.out).mono ?_
    rintro e w4 ⟨rfl, hb4⟩
    go_wp2_with (fail)
    refine (cos_eq _ c _ F6.out).mono ?_
    rintro e w5 ⟨rfl, hb5⟩
    go_wp2_with (fail)
    refine (sin_eq _ s _ F7.out).mono ?_
    rintro e w6 ⟨rfl, hb6⟩
    go_wp2_with (fail)
    refine (sin_eq _ u _ F8.out).mono ?_
    rintro e w8 ⟨rfl, hb8⟩
    go_wp2_with (fail)
    refine (cos_eq _ v _ F9.out).mono ?_
    rintro e w9 ⟨rfl, hb9⟩
    go_wp2_with (fail)
    refine (sane02 _).mono ?_
    rintro e w7 ⟨rfl, hb7⟩
    go_wp2_with (fail)
    go_ret
    exact ⟨rfl, below_step hb1 (below_step hb2 (below_step hb3 (below_step hb4 (below_step hb5 (below_step hb6 (below_step hb8 (below_step hb9 hb7)))))))⟩
  · clear g3
    go_enter Try.func6, Try.ntmps6
    go_wp2_with (fail)
    refine (norm_eq _ p _ F1.out).mono ?_
    rintro e w' ⟨rfl, rfl⟩
    go_wp2_with (fail)
    refine (sin_eq _ s _ F2.out).mono ?_
    rintro e w1 ⟨rfl, hb1⟩
    go_wp2_with (fail)
    refine (cos_eq _ c _ F3.out).mono ?_
    rintro e w2 ⟨rfl, hb2⟩
    go_wp2_with (fail)
    refine (sin_eq _ (-s) _ F4.out).mono ?_
    rintro e w3 ⟨rfl, hb3⟩
    go_wp2_with (fail)
    refine (sin_eq _ s _ F5.out).mono ?_
    rintro e w4 ⟨rfl, hb4⟩
    go_wp2_with (fail)
    refine (cos_eq _ c _ F6.out).mono ?_
    rintro e w5 ⟨rfl, hb5⟩
    go_wp2_with (fail)
    refine (sin_eq _ s _ F7.out).mono ?_
    rintro e w6 ⟨rfl, hb6⟩
    go_wp2_with (fail)
    refine (sane02 _).mono ?_
    rintro e w7 ⟨rfl, hb7⟩
    go_wp2_with (fail)
    go_ret
    exact ⟨rfl, below_step hb1 (below_step hb2 (below_step hb3 (below_step hb4 (below_step hb5 (below_step hb6 hb7)))))⟩
end Go.Proofs.Ytjmmkphdomiohaa
