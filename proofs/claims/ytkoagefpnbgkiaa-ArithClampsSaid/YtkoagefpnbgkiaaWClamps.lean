/- The walk of ArithClamps. -/
import Derived.Test.YtkoagefpnbgkiaaArSane
namespace Go.Proofs.Ytkoagefpnbgkiaa
open Go.RowKit
theorem clamp_twice (x l h : Int) : Ar.clamp (Ar.clamp x l h) l h = Ar.clamp x l h := by unfold Ar.clamp; omega
set_option maxHeartbeats 400000 in
theorem ArithClamps_walk (x : Int) (_ : (Lit.int .i64 x).wf = true) (l : Int) (_ : (Lit.int .i64 l).wf = true) (h : Int) (_ : (Lit.int .i64 h).wf = true) (w : World) :
    Calls Try.prog 3 #[.int .i64 x, .int .i64 l, .int .i64 h] w fun e w' => e = .returned (.bool true) ∧ Below w.heap.size w w' := by
  skip
  have H1 := Lib.hid (clamp_twice x l h)
  obtain ⟨y, hy⟩ : ∃ y, Ar.clamp x l h = y := ⟨_, rfl⟩
  rw [hy] at H1
  have b1 : h < l → y = l := by unfold Ar.clamp at hy; omega
  have b2 : l ≤ h → l ≤ y := by unfold Ar.clamp at hy; omega
  have b3 : l ≤ h → y ≤ h := by unfold Ar.clamp at hy; omega
  have b4 : l ≤ h → x < l → y = l := by unfold Ar.clamp at hy; omega
  have b5 : l ≤ h → h < x → y = h := by unfold Ar.clamp at hy; omega
  have b6 : l ≤ h → l ≤ x → x ≤ h → y = x := by unfold Ar.clamp at hy; omega
  have HY := Lib.hid hy
  clear hy
  go_enter Try.func3, Try.ntmps3
  go_wp2_with fail
  refine (clamp_eq _ _ _ y _ HY.out).mono ?_
  rintro e w' ⟨rfl, rfl⟩
  go_wp2_with fail
  refine (clamp_eq _ _ _ y _ H1.out).mono ?_
  rintro e w' ⟨rfl, rfl⟩
  go_wp2_with (go_at_call 10; refine (sane01 _).mono ?_; rintro e w' ⟨rfl, hb⟩)
  all_goals
    go_ret
    exact ⟨rfl, hb⟩
end Go.Proofs.Ytkoagefpnbgkiaa
