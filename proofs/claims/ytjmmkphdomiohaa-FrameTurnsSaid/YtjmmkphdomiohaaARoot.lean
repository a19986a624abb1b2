/- arith.Root: what a call returns. -/
import Derived.Test.YtjmmkphdomiohaaKit
namespace Go.Proofs.Ytjmmkphdomiohaa
open Go.ChangeShapes Go.WideShapes Go.ChangeAt Go.RowKit
set_option maxHeartbeats 400000 in
theorem root_calls (n : Int) (w : World) :
    Calls Try.prog 71 #[.int .i64 n] w fun e w' => e = .returned (.tuple #[.int .i64 (Ar.root n), .int .i64 (Ar.rerr n)]) ∧ w = w' := by
  by_cases hb : Ar.RBad n
  · have H := Lib.hid (Ar.root_bad hb)
    unfold Ar.RBad at hb
    go_enter Try.func71, Try.ntmps71
    go_wp2
    all_goals first | (go_ret2; exact ⟨ret2 H.out.1.symm H.out.2.symm, rfl⟩) | omega
  · have h0 : 0 ≤ n := by unfold Ar.RBad at hb; omega
    have h1 : n ≤ 1000000000000000000 := by unfold Ar.RBad at hb; omega
    clear hb
    go_enter Try.func71, Try.ntmps71
    go_wp2
    go_loop [4, 5] (fun a b => ∃ l u : Int, 0 ≤ l ∧ l < u ∧ u ≤ 1000000001 ∧ l * l ≤ n ∧ n < u * u ∧ a = .int .i64 l ∧ b = .int .i64 u) (fun a b => (intOf b - intOf a).toNat)
    case atStart => exact ⟨0, 1000000001, by omega, by omega, by omega, by omega, by omega, rfl, rfl⟩
    case round =>
      obtain ⟨l, u, k0, k1, k2, k3, k4, rfl, rfl⟩ := hrel
      by_cases hc : 1 < u - l
      · have m0 : 0 ≤ (l + u) / 2 := by omega
        have m1 : l < (l + u) / 2 := by omega
        have m2 : (l + u) / 2 < u := by omega
        have m3 : 0 ≤ (l + u) / 2 * ((l + u) / 2) := Int.mul_nonneg m0 m0
        have m4 : (l + u) / 2 * ((l + u) / 2) ≤ 1000000000 * 1000000000 := Ar.sq_le m0 (by omega)
        have K3 := Lib.hid k3
        have K4 := Lib.hid k4
        clear k3 k4
        by_cases hm : (l + u) / 2 * ((l + u) / 2) ≤ n
        · go_wp2
          go_round
          case rel => exact ⟨(l + u) / 2, u, m0, m2, k2, hm, K4.out, rfl, rfl⟩
          case measure => simp [intOf]; omega
        · go_wp2
          go_round
          case rel => exact ⟨l, (l + u) / 2, k0, m1, by omega, K3.out, by omega, rfl, rfl⟩
          case measure => simp [intOf]; omega
      · obtain rfl : u = l + 1 := by omega
        have H := Lib.hid (Ar.root_good h0 h1 ⟨k0, k3, k4⟩)
        clear k3 k4
        go_wp2
        go_ret2
        exact ⟨ret2 H.out.1.symm H.out.2.symm, rfl⟩
theorem root_eq (n r : Int) (w : World) (h0 : 0 ≤ n) (h1 : n ≤ 1000000000000000000) (h : Ar.IsRoot n r) :
    Calls Try.prog 71 #[.int .i64 n] w fun e w' => e = .returned (.tuple #[.int .i64 r, .int .i64 0]) ∧ w = w' := by
  obtain ⟨a, b⟩ := Ar.root_good h0 h1 h
  have k := root_calls n w
  rw [a, b] at k
  exact k
end Go.Proofs.Ytjmmkphdomiohaa
