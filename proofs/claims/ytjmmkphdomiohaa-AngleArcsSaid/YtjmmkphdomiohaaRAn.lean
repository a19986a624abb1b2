/- The reference of layer 2: what each call returns. -/
import Derived.Test.YtjmmkphdomiohaaAnIn
namespace Go.Proofs.Ytjmmkphdomiohaa
open Go.RowKit
set_option maxHeartbeats 400000 in
theorem rnorm_calls (a : Int) (w : World) :
    Calls Try.prog 26 #[.int .i64 a] w fun e w' => e = .returned (.int .i64 (An.norm a)) ∧ w = w' := by
  have t1 := Int.lt_tmod_of_pos a (by omega : (0 : Int) < 3600)
  have t2 := Int.tmod_lt_of_pos a (by omega : (0 : Int) < 3600)
  have H : Hid (An.norm a = _) := Lib.hid (show An.norm a = (a.tmod 3600 + 3600) % 3600 by
    have e := Int.tdiv_mul_add_tmod a 3600
    unfold An.norm; omega)
  go_enter Try.func26, Try.ntmps26
  go_wp2
  go_ret
  exact ⟨ret1 H.out.symm, rfl⟩
theorem rhalf_eq (n d q r : Int) (w : World) (hq : Ar.half n d = q) (hr : Ar.err n d = r) :
    Calls Try.prog 65 #[.int .i64 n, .int .i64 d] w fun e w' => e = .returned (.tuple #[.int .i64 q, .int .i64 r]) ∧ w = w' := by
  subst hq; subst hr; exact rhalf_calls n d w
set_option maxHeartbeats 400000 in
theorem rsin_low (a : Int) (w : World) (h0 : 0 ≤ a) (h1 : a ≤ 1800) :
    Calls Try.prog 27 #[.int .i64 a] w fun e w' => e = .returned (.int .i64 (An.arch a)) ∧ w = w' := by
  obtain ⟨p0, p1⟩ := An.prod_range a h0 h1
  have H : Hid (An.norm a = a) := Lib.hid (An.norm_self h0 (by omega))
  go_enter Try.func27, Try.ntmps27
  go_wp2_with (fail)
  refine (rnorm_calls _ _).mono ?_
  rw [H.out]
  rintro e w' ⟨rfl, rfl⟩
  go_wp2_with (fail)
  refine (rhalf_calls _ _ _).mono ?_
  rintro e w' ⟨rfl, rfl⟩
  go_wp2_with (fail)
  go_ret
  exact ⟨rfl, rfl⟩
set_option maxHeartbeats 400000 in
theorem rsin_calls (a : Int) (w : World) :
    Calls Try.prog 27 #[.int .i64 a] w fun e w' => e = .returned (.int .i64 (An.sin a)) ∧ w = w' := by
  obtain ⟨n0, n1⟩ := An.norm_range a
  by_cases h : 1800 < An.norm a
  · obtain ⟨r0, r1⟩ := An.arch_range (An.norm a - 1800) (by omega) (by omega)
    have H : Hid (An.sin a = _) := Lib.hid (show An.sin a = -An.arch (An.norm a - 1800) by unfold An.sin; rw [if_pos h])
    go_enter Try.func27, Try.ntmps27
    go_wp2_with (fail)
    refine (rnorm_calls _ _).mono ?_
    rintro e w' ⟨rfl, rfl⟩
    go_wp2_with (fail)
    refine (rsin_low _ _ (by omega) (by omega)).mono ?_
    rintro e w' ⟨rfl, rfl⟩
    go_wp2_with (fail)
    go_ret
    exact ⟨ret1 H.out.symm, rfl⟩
  · obtain ⟨p0, p1⟩ := An.prod_range (An.norm a) (by omega) (by omega)
    have H : Hid (An.sin a = _) := Lib.hid (show An.sin a = An.arch (An.norm a) by unfold An.sin; rw [if_neg h])
    go_enter Try.func27, Try.ntmps27
    go_wp2_with (fail)
    refine (rnorm_calls _ _).mono ?_
    rintro e w' ⟨rfl, rfl⟩
    go_wp2_with (fail)
    refine (rhalf_calls _ _ _).mono ?_
    rintro e w' ⟨rfl, rfl⟩
    go_wp2_with (fail)
    go_ret
    exact ⟨ret1 H.out.symm, rfl⟩
set_option maxHeartbeats 400000 in
theorem rcos_calls (a : Int) (w : World) :
    Calls Try.prog 28 #[.int .i64 a] w fun e w' => e = .returned (.int .i64 (An.cos a)) ∧ w = w' := by
  obtain ⟨n0, n1⟩ := An.norm_range a
  go_enter Try.func28, Try.ntmps28
  go_wp2_with (fail)
  refine (rnorm_calls _ _).mono ?_
  rintro e w' ⟨rfl, rfl⟩
  go_wp2_with (fail)
  refine (rsin_calls _ _).mono ?_
  rintro e w' ⟨rfl, rfl⟩
  go_wp2_with (fail)
  go_ret
  exact ⟨rfl, rfl⟩
set_option maxHeartbeats 400000 in
theorem rdiff_calls (a b : Int) (w : World) :
    Calls Try.prog 29 #[.int .i64 a, .int .i64 b] w fun e w' => e = .returned (.int .i64 (An.diff a b)) ∧ w = w' := by
  obtain ⟨n0, n1⟩ := An.norm_range a
  obtain ⟨m0, m1⟩ := An.norm_range b
  obtain ⟨k0, k1⟩ := An.norm_range (An.norm b - An.norm a)
  by_cases h : 1800 < An.norm (An.norm b - An.norm a)
  · have H : Hid (An.diff a b = _) := Lib.hid (show An.diff a b = An.norm (An.norm b - An.norm a) - 3600 by unfold An.diff; rw [if_pos h])
    go_enter Try.func29, Try.ntmps29
    go_wp2_with (go_at_call 26; refine (rnorm_calls _ _).mono ?_; rintro e w' ⟨rfl, rfl⟩)
    all_goals (go_ret; exact ⟨ret1 H.out.symm, rfl⟩)
  · have H : Hid (An.diff a b = _) := Lib.hid (show An.diff a b = An.norm (An.norm b - An.norm a) by unfold An.diff; rw [if_neg h])
    go_enter Try.func29, Try.ntmps29
    go_wp2_with (go_at_call 26; refine (rnorm_calls _ _).mono ?_; rintro e w' ⟨rfl, rfl⟩)
    all_goals (go_ret; exact ⟨ret1 H.out.symm, rfl⟩)
end Go.Proofs.Ytjmmkphdomiohaa
