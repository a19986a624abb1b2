/- Clamp, Near and Root of package arith, and the functions of its reference: what each call returns. -/
import Derived.Test.YtkoagefpnbgkiaaArA
namespace Go.Proofs.Ytkoagefpnbgkiaa
open Go.RowKit
set_option maxHeartbeats 400000 in
theorem clamp_calls (x low high : Int) (w : World) :
    Calls Try.prog 9 #[.int .i64 x, .int .i64 low, .int .i64 high] w fun e w' => e = .returned (.int .i64 (Ar.clamp x low high)) ∧ w = w' := by
  go_enter Try.func9, Try.ntmps9
  go_wp2
  all_goals
    go_ret
    exact ⟨ret1 (by unfold Ar.clamp; omega), rfl⟩
set_option maxHeartbeats 400000 in
theorem rclamp_calls (x low high : Int) (w : World) :
    Calls Try.prog 24 #[.int .i64 x, .int .i64 low, .int .i64 high] w fun e w' => e = .returned (.int .i64 (Ar.clamp x low high)) ∧ w = w' := by
  go_enter Try.func24, Try.ntmps24
  go_wp2
  all_goals
    go_ret
    exact ⟨ret1 (by unfold Ar.clamp; omega), rfl⟩
theorem far_cases (x t s : Int) : Ar.Far x t s ∨ (1 ≤ s ∧ s ≤ 1000000000 ∧ -1000000000 ≤ x ∧ x ≤ 1000000000 ∧ -1000000000 ≤ t ∧ t ≤ 1000000000) := by unfold Ar.Far; omega
set_option maxHeartbeats 400000 in
theorem near_calls (x t s : Int) (w : World) :
    Calls Try.prog 25 #[.int .i64 x, .int .i64 t, .int .i64 s] w fun e w' => e = .returned (.int .i64 (Ar.near x t s)) ∧ w = w' := by
  rcases far_cases x t s with hb | hg
  · have H := Lib.hid hb
    unfold Ar.Far at hb
    go_enter Try.func25, Try.ntmps25
    go_wp2
    all_goals first | omega | (simp at *; omega) | (go_ret; exact ⟨ret1 (by rw [Ar.near, if_pos H.out]), rfl⟩)
  · have H0 : ¬ Ar.Far x t s := by unfold Ar.Far; omega
    have H := Lib.hid H0
    clear H0
    obtain ⟨h1, h2, h3, h4, h5, h6⟩ := hg
    go_enter Try.func25, Try.ntmps25
    go_wp2_with (first | (go_at_call 9; refine (clamp_calls _ _ _ _).mono ?_; rintro e w' ⟨rfl, rfl⟩) | go_in)
    all_goals first | (go_ret; exact ⟨ret1 (by rw [Ar.near, if_neg H.out]), rfl⟩) | omega
set_option maxHeartbeats 400000 in
theorem rnear_calls (x t s : Int) (w : World) :
    Calls Try.prog 26 #[.int .i64 x, .int .i64 t, .int .i64 s] w fun e w' => e = .returned (.int .i64 (Ar.near x t s)) ∧ w = w' := by
  rcases far_cases x t s with hb | hg
  · have H := Lib.hid hb
    unfold Ar.Far at hb
    go_enter Try.func26, Try.ntmps26
    go_wp2
    all_goals first | omega | (simp at *; omega) | (go_ret; exact ⟨ret1 (by rw [Ar.near, if_pos H.out]), rfl⟩)
  · have H0 : ¬ Ar.Far x t s := by unfold Ar.Far; omega
    have H := Lib.hid H0
    clear H0
    obtain ⟨h1, h2, h3, h4, h5, h6⟩ := hg
    go_enter Try.func26, Try.ntmps26
    go_wp2_with (first | (go_at_call 24; refine (rclamp_calls _ _ _ _).mono ?_; rintro e w' ⟨rfl, rfl⟩) | go_in)
    all_goals first | (go_ret; exact ⟨ret1 (by rw [Ar.near, if_neg H.out]), rfl⟩) | omega
set_option maxHeartbeats 400000 in
theorem root_calls (n : Int) (w : World) :
    Calls Try.prog 18 #[.int .i64 n] w fun e w' => e = .returned (.tuple #[.int .i64 (Ar.root n), .int .i64 (Ar.rerr n)]) ∧ w = w' := by
  by_cases hb : Ar.RBad n
  · have H := Lib.hid (Ar.root_bad hb)
    unfold Ar.RBad at hb
    go_enter Try.func18, Try.ntmps18
    go_wp2
    all_goals first | (go_ret2; exact ⟨ret2 H.out.1.symm H.out.2.symm, rfl⟩) | omega
  · have h0 : 0 ≤ n := by unfold Ar.RBad at hb; omega
    have h1 : n ≤ 1000000000000000000 := by unfold Ar.RBad at hb; omega
    clear hb
    go_enter Try.func18, Try.ntmps18
    go_wp2
    go_loop [4, 5] (fun a b => ∃ l u : Int, 0 ≤ l ∧ l < u ∧ u ≤ 1000000001 ∧ l * l ≤ n ∧ n < u * u ∧ a = .int .i64 l ∧ b = .int .i64 u) (fun a b => (intOf b - intOf a).toNat)
    case atStart => exact ⟨0, 1000000001, by omega, by omega, by omega, by omega, by omega, rfl, rfl⟩
    case round =>
      obtain ⟨l, u, k0, k1, k2, k3, k4, rfl, rfl⟩ := hrel
      by_cases hc : 1 < u - l
      · have m0 : 0 ≤ (l + u) / 2 := by omega
        have m1 : l < (l + u) / 2 := by omega
        have m2 : (l + u) / 2 < u := by omega
        have m3 : 0 ≤ (l + u) / 2 * ((l + u) / 2) := Int.mul_nonneg m0 m0
        have m4 : (l + u) / 2 * ((l + u) / 2) ≤ 1000000000 * 1000000000 := Ar.sq_le m0 (by omega)
        have K3 := Lib.hid k3
        have K4 := Lib.hid k4
        clear k3 k4
        by_cases hm : (l + u) / 2 * ((l + u) / 2) ≤ n
        · go_wp2
          go_round
          case rel => exact ⟨(l + u) / 2, u, m0, m2, k2, hm, K4.out, rfl, rfl⟩
          case measure => simp [intOf]; omega
        · go_wp2
          go_round
          case rel => exact ⟨l, (l + u) / 2, k0, m1, by omega, K3.out, by omega, rfl, rfl⟩
          case measure => simp [intOf]; omega
      · obtain rfl : u = l + 1 := by omega
        have H := Lib.hid (Ar.root_good h0 h1 ⟨k0, k3, k4⟩)
        clear k3 k4
        go_wp2
        go_ret2
        exact ⟨ret2 H.out.1.symm H.out.2.symm, rfl⟩
end Go.Proofs.Ytkoagefpnbgkiaa
