/- Norm, Sin, Cos and Diff of package angle, and of its reference: what each call returns. -/
import Derived.Test.YtjmmkphdomiohaaAnMath
import Derived.Test.YtjmmkphdomiohaaAHalf
import Derived.Test.YtjmmkphdomiohaaRHalf
namespace Go.Proofs.Ytjmmkphdomiohaa
open Go.RowKit
theorem norm_neg {a : Int} (h : a.tmod 3600 < 0) : An.norm a = a.tmod 3600 + 3600 := by
  have e := Int.tdiv_mul_add_tmod a 3600
  have k := Int.lt_tmod_of_pos a (by omega : (0 : Int) < 3600)
  exact (Ar.div_of (n := a) (d := 3600) (q := a.tdiv 3600 - 1) (r := a.tmod 3600 + 3600) (by omega) (by omega) (by omega) (by omega)).2
theorem norm_pos {a : Int} (h : 0 ≤ a.tmod 3600) : An.norm a = a.tmod 3600 := by
  have e := Int.tdiv_mul_add_tmod a 3600
  have k := Int.tmod_lt_of_pos a (by omega : (0 : Int) < 3600)
  exact (Ar.div_of (n := a) (d := 3600) (q := a.tdiv 3600) (r := a.tmod 3600) (by omega) (by omega) (by omega) (by omega)).2
set_option maxHeartbeats 400000 in
theorem norm_calls (a : Int) (w : World) :
    Calls Try.prog 15 #[.int .i64 a] w fun e w' => e = .returned (.int .i64 (An.norm a)) ∧ w = w' := by
  have t1 := Int.lt_tmod_of_pos a (by omega : (0 : Int) < 3600)
  by_cases h : a.tmod 3600 < 0
  · have H := Lib.hid (norm_neg h)
    go_enter Try.func15, Try.ntmps15
    go_wp2
    go_ret
    exact ⟨ret1 H.out.symm, rfl⟩
  · have H := Lib.hid (norm_pos (by omega : 0 ≤ a.tmod 3600))
    go_enter Try.func15, Try.ntmps15
    go_wp2
    go_ret
    exact ⟨ret1 H.out.symm, rfl⟩
theorem norm_eq (a q : Int) (w : World) (h : An.norm a = q) : Calls Try.prog 15 #[.int .i64 a] w fun e w' => e = .returned (.int .i64 q) ∧ w = w' := by
  subst h; exact norm_calls a w
set_option maxHeartbeats 400000 in
theorem arch_calls (a : Int) (w : World) (h0 : 0 ≤ a) (h1 : a ≤ 1800) :
    Calls Try.prog 60 #[.int .i64 a] w fun e w' => e = .returned (.int .i64 (An.arch a)) ∧ Below w.heap.size w w' := by
  obtain ⟨p0, p1⟩ := An.prod_range a h0 h1
  go_enter Try.func60, Try.ntmps60
  go_wp2_with (fail)
  refine (half_calls _ _ _).mono ?_
  rintro e w1 ⟨rfl, hb⟩
  go_wp2_with (fail)
  go_ret
  exact ⟨rfl, hb⟩
set_option maxHeartbeats 400000 in
theorem sin_calls (a : Int) (w : World) :
    Calls Try.prog 16 #[.int .i64 a] w fun e w' => e = .returned (.int .i64 (An.sin a)) ∧ Below w.heap.size w w' := by
  obtain ⟨n0, n1⟩ := An.norm_range a
  by_cases h : 1800 < An.norm a
  · have r := An.arch_range (An.norm a - 1800) (by omega) (by omega)
    obtain ⟨r0, r1⟩ := r
    have H : Hid (An.sin a = _) := Lib.hid (show An.sin a = -An.arch (An.norm a - 1800) by unfold An.sin; rw [if_pos h])
    go_enter Try.func16, Try.ntmps16
    go_wp2_with (fail)
    refine (norm_calls _ _).mono ?_
    rintro e w' ⟨rfl, rfl⟩
    go_wp2_with (fail)
    refine (arch_calls _ _ (by omega) (by omega)).mono ?_
    rintro e w1 ⟨rfl, hb⟩
    go_wp2_with (fail)
    go_ret
    exact ⟨ret1 H.out.symm, hb⟩
  · have H : Hid (An.sin a = _) := Lib.hid (show An.sin a = An.arch (An.norm a) by unfold An.sin; rw [if_neg h])
    go_enter Try.func16, Try.ntmps16
    go_wp2_with (fail)
    refine (norm_calls _ _).mono ?_
    rintro e w' ⟨rfl, rfl⟩
    go_wp2_with (fail)
    refine (arch_calls _ _ (by omega) (by omega)).mono ?_
    rintro e w1 ⟨rfl, hb⟩
    go_wp2_with (fail)
    go_ret
    exact ⟨ret1 H.out.symm, hb⟩
theorem sin_eq (a q : Int) (w : World) (h : An.sin a = q) : Calls Try.prog 16 #[.int .i64 a] w fun e w' => e = .returned (.int .i64 q) ∧ Below w.heap.size w w' := by
  subst h; exact sin_calls a w
set_option maxHeartbeats 400000 in
theorem cos_calls (a : Int) (w : World) :
    Calls Try.prog 17 #[.int .i64 a] w fun e w' => e = .returned (.int .i64 (An.cos a)) ∧ Below w.heap.size w w' := by
  obtain ⟨n0, n1⟩ := An.norm_range a
  go_enter Try.func17, Try.ntmps17
  go_wp2_with (fail)
  refine (norm_calls _ _).mono ?_
  rintro e w' ⟨rfl, rfl⟩
  go_wp2_with (fail)
  refine (sin_calls _ _).mono ?_
  rintro e w1 ⟨rfl, hb⟩
  go_wp2_with (fail)
  go_ret
  exact ⟨rfl, hb⟩
theorem cos_eq (a q : Int) (w : World) (h : An.cos a = q) : Calls Try.prog 17 #[.int .i64 a] w fun e w' => e = .returned (.int .i64 q) ∧ Below w.heap.size w w' := by
  subst h; exact cos_calls a w
set_option maxHeartbeats 400000 in
theorem diff_calls (a b : Int) (w : World) :
    Calls Try.prog 18 #[.int .i64 a, .int .i64 b] w fun e w' => e = .returned (.int .i64 (An.diff a b)) ∧ w = w' := by
  obtain ⟨n0, n1⟩ := An.norm_range a
  obtain ⟨m0, m1⟩ := An.norm_range b
  obtain ⟨k0, k1⟩ := An.norm_range (An.norm b - An.norm a)
  by_cases h : 1800 < An.norm (An.norm b - An.norm a)
  · have H : Hid (An.diff a b = _) := Lib.hid (show An.diff a b = An.norm (An.norm b - An.norm a) - 3600 by unfold An.diff; rw [if_pos h])
    go_enter Try.func18, Try.ntmps18
    go_wp2_with (go_at_call 15; refine (norm_calls _ _).mono ?_; rintro e w' ⟨rfl, rfl⟩)
    all_goals (go_ret; exact ⟨ret1 H.out.symm, rfl⟩)
  · have H : Hid (An.diff a b = _) := Lib.hid (show An.diff a b = An.norm (An.norm b - An.norm a) by unfold An.diff; rw [if_neg h])
    go_enter Try.func18, Try.ntmps18
    go_wp2_with (go_at_call 15; refine (norm_calls _ _).mono ?_; rintro e w' ⟨rfl, rfl⟩)
    all_goals (go_ret; exact ⟨ret1 H.out.symm, rfl⟩)
theorem diff_eq (a b q : Int) (w : World) (h : An.diff a b = q) : Calls Try.prog 18 #[.int .i64 a, .int .i64 b] w fun e w' => e = .returned (.int .i64 q) ∧ w = w' := by
  subst h; exact diff_calls a b w
end Go.Proofs.Ytjmmkphdomiohaa
