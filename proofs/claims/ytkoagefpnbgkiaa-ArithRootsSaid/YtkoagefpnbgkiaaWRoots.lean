/- The walk of ArithRoots. -/
import Derived.Test.YtkoagefpnbgkiaaArSane
import Derived.Deep.DeepCutAuto
namespace Go.Proofs.Ytkoagefpnbgkiaa
open Go.RowKit
set_option maxHeartbeats 400000 in
theorem ArithRoots_walk (n : Int) (_ : (Lit.int .i64 n).wf = true) (w : World) :
    Calls Try.prog 7 #[.int .i64 n] w fun e w' => e = .returned (.bool true) ∧ Below w.heap.size w w' := by
  have b1 : -1000000000 < n.tmod 1000000000 := Int.lt_tmod_of_pos n (by omega)
  have b2 : n.tmod 1000000000 < 1000000000 := Int.tmod_lt_of_pos n (by omega)
  go_enter Try.func7, Try.ntmps7
  go_upto_if 11 with (fail)
  go_cut [3] (fun s wr => ∃ k : Int, 0 ≤ k ∧ k < 1000000000 ∧ s = .int .i64 k ∧ wr = w)
  case first =>
    go_wp2_with (fail)
    all_goals (go_meet; exact ⟨_, by omega, by omega, rfl, rfl⟩)
  case rest =>
    obtain ⟨k, k0, k1, rfl, rfl⟩ := hcut
    clear b1 b2
    have m0 : 0 ≤ k % 1000 := Int.emod_nonneg _ (by omega)
    have m1 : k % 1000 < 1000 := Int.emod_lt_of_pos _ (by omega)
    have p0 : 0 ≤ k * (k % 1000 + 1) := Int.mul_nonneg k0 (by omega)
    have p1 : k * (k % 1000 + 1) ≤ 1000000000 * 1000 := Int.mul_le_mul (by omega) (by omega) (by omega) (by omega)
    have q0 : 0 ≤ k * k := Int.mul_nonneg k0 k0
    have q1 : k * k ≤ 1000000000 * 1000000000 := Ar.sq_le k0 (by omega)
    have q2 : k * k < (k + 1) * (k + 1) := by rw [Int.add_mul, Int.mul_add]; omega
    obtain ⟨r, hr⟩ : ∃ r, Ar.IsRoot (k * (k % 1000 + 1)) r := ⟨_, Ar.isqrt_is p0⟩
    have HR := Lib.hid hr
    obtain ⟨r0, r1, r2⟩ := hr
    have r3 : r < 1000000000 := by
      rcases (by omega : r < 1000000000 ∨ 1000000000 ≤ r) with h | h
      · exact h
      · have := Ar.sq_le (a := 1000000000) (b := r) (by omega) h; omega
    have r4 : 0 ≤ r * r := Int.mul_nonneg r0 r0
    have r5 : (r + 1) * (r + 1) ≤ 1000000000 * 1000000000 := Ar.sq_le (by omega) (by omega)
    go_wp2_with (fail)
    refine (root_eq _ r _ p0 (by omega) HR.out).mono ?_
    rintro e w' ⟨rfl, rfl⟩
    go_wp2_with (fail)
    refine (root_eq _ k _ q0 (by omega) ⟨k0, Int.le_refl _, q2⟩).mono ?_
    rintro e w' ⟨rfl, rfl⟩
    go_wp2_with (go_at_call 10; refine (sane01 _).mono ?_; rintro e w' ⟨rfl, hb⟩)
    all_goals first | (go_ret; exact ⟨rfl, hb⟩) | (exfalso; omega) | (exfalso; simp at *; omega)
end Go.Proofs.Ytkoagefpnbgkiaa
