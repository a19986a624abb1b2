/- The walk of AngleDiffs. -/
import Derived.Test.YtjmmkphdomiohaaAnSane
namespace Go.Proofs.Ytjmmkphdomiohaa
open Go.RowKit
theorem diffs_facts (a b c : Int) : ∃ x y z p q : Int, An.diff a b = x ∧ An.diff b c = y ∧ An.diff c a = z ∧ An.norm a = p ∧ An.norm b = q ∧
    -1800 < x ∧ x ≤ 1800 ∧ -1800 < y ∧ y ≤ 1800 ∧ -1800 < z ∧ z ≤ 1800 ∧ 0 ≤ p ∧ p < 3600 ∧ An.norm (p + x) = q ∧ (x ≠ 1800 → An.diff b a = -x) ∧ An.norm (x + y + z) = 0 ∧ An.diff a a = 0 := by
  refine ⟨_, _, _, _, _, rfl, rfl, rfl, rfl, rfl, ?_⟩
  unfold An.diff An.norm
  refine ⟨?_, ?_, ?_, ?_, ?_, ?_, ?_, ?_, ?_, ?_, ?_, ?_⟩ <;> omega
set_option maxHeartbeats 1000000 in
set_option maxRecDepth 100000 in
theorem AngleDiffs_walk (w : World) (a : Int) (_ : (Lit.int .i64 a).wf = true) (b : Int) (_ : (Lit.int .i64 b).wf = true) (c : Int) (_ : (Lit.int .i64 c).wf = true) :
    Calls Try.prog 7 #[.int .i64 a, .int .i64 b, .int .i64 c] w fun e w' => e = .returned (.bool true) ∧ Below w.heap.size w w' := by
  obtain ⟨x, y, z, p, q, f1, f2, f3, f4, f5, g1, g2, g3, g4, g5, g6, g7, g8, f6, f7, f8, f9⟩ := diffs_facts a b c
  have F1 := Lib.hid f1
  have F2 := Lib.hid f2
  have F3 := Lib.hid f3
  have F4 := Lib.hid f4
  have F5 := Lib.hid f5
  have F6 := Lib.hid f6
  have F7 := Lib.hid f7
  have F8 := Lib.hid f8
  have F9 := Lib.hid f9
  clear f1 f2 f3 f4 f5 f6 f7 f8 f9
  by_cases hx : x = 1800
  · subst hx
    go_enter Try.func7, Try.ntmps7
    go_wp2_with (fail)
    refine (diff_eq _ _ 1800 _ F1.out).mono ?_
    rintro e w' ⟨rfl, rfl⟩
    go_wp2_with (fail)
    refine (diff_eq _ _ y _ F2.out).mono ?_
    rintro e w' ⟨rfl, rfl⟩
    go_wp2_with (fail)
    refine (diff_eq _ _ z _ F3.out).mono ?_
    rintro e w' ⟨rfl, rfl⟩
    go_wp2_with (fail)
    refine (norm_eq _ p _ F4.out).mono ?_
    rintro e w' ⟨rfl, rfl⟩
    go_wp2_with (fail)
    refine (norm_eq _ q _ F5.out).mono ?_
    rintro e w' ⟨rfl, rfl⟩
    go_wp2_with (fail)
    refine (norm_eq _ q _ F6.out).mono ?_
    rintro e w' ⟨rfl, rfl⟩
    go_wp2_with (fail)
    refine (norm_eq _ 0 _ F8.out).mono ?_
    rintro e w' ⟨rfl, rfl⟩
    go_wp2_with (fail)
    refine (diff_eq _ _ 0 _ F9.out).mono ?_
    rintro e w' ⟨rfl, rfl⟩
    go_wp2_with (fail)
    refine (sane02 _).mono ?_
    rintro e w1 ⟨rfl, hb⟩
    go_wp2_with (fail)
    go_ret
    exact ⟨rfl, hb⟩
  · have hx1 : (x == (1800 : Int)) = false := by simp; omega
    have G := Lib.hid (F7.out hx)
    clear hx F7
    go_enter Try.func7, Try.ntmps7
    go_wp2_with (fail)
    refine (diff_eq _ _ x _ F1.out).mono ?_
    rintro e w' ⟨rfl, rfl⟩
    go_wp2_with (fail)
    refine (diff_eq _ _ y _ F2.out).mono ?_
    rintro e w' ⟨rfl, rfl⟩
    go_wp2_with (fail)
    refine (diff_eq _ _ z _ F3.out).mono ?_
    rintro e w' ⟨rfl, rfl⟩
    go_wp2_with (fail)
    refine (norm_eq _ p _ F4.out).mono ?_
    rintro e w' ⟨rfl, rfl⟩
    go_wp2_with (fail)
    refine (norm_eq _ q _ F5.out).mono ?_
    rintro e w' ⟨rfl, rfl⟩
    go_wp2_with (fail)
    refine (norm_eq _ q _ F6.out).mono ?_
    rintro e w' ⟨rfl, rfl⟩
    go_wp2_with (fail)
    refine (diff_eq _ _ (-x) _ G.out).mono ?_
    rintro e w' ⟨rfl, rfl⟩
    go_wp2_with (fail)
    refine (norm_eq _ 0 _ F8.out).mono ?_
    rintro e w' ⟨rfl, rfl⟩
    go_wp2_with (fail)
    refine (diff_eq _ _ 0 _ F9.out).mono ?_
    rintro e w' ⟨rfl, rfl⟩
    go_wp2_with (fail)
    refine (sane02 _).mono ?_
    rintro e w1 ⟨rfl, hb⟩
    go_wp2_with (fail)
    go_ret
    exact ⟨rfl, hb⟩
end Go.Proofs.Ytjmmkphdomiohaa
