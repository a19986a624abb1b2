/- The examples of chapter 1 hold. -/
import Derived.Test.YtkoagefpnbgkiaaArB
import Derived.Handy
namespace Go.Proofs.Ytkoagefpnbgkiaa
open Go.RowKit
theorem half_eq (n d q r : Int) (w : World) (hq : Ar.half n d = q) (hr : Ar.err n d = r) :
    Calls Try.prog 11 #[.int .i64 n, .int .i64 d] w fun e w' => e = .returned (.tuple #[.int .i64 q, .int .i64 r]) ∧ Below w.heap.size w w' := by
  subst hq; subst hr; exact half_calls n d w
theorem floor_eq (n d q r : Int) (w : World) (hq : Ar.floor n d = q) (hr : Ar.err n d = r) :
    Calls Try.prog 13 #[.int .i64 n, .int .i64 d] w fun e w' => e = .returned (.tuple #[.int .i64 q, .int .i64 r]) ∧ Below w.heap.size w w' := by
  subst hq; subst hr; exact floor_calls n d w
theorem up_eq (n d q r : Int) (w : World) (hq : Ar.up n d = q) (hr : Ar.err n d = r) :
    Calls Try.prog 12 #[.int .i64 n, .int .i64 d] w fun e w' => e = .returned (.tuple #[.int .i64 q, .int .i64 r]) ∧ Below w.heap.size w w' := by
  subst hq; subst hr; exact up_calls n d w
theorem mod_eq (n d q r : Int) (w : World) (hq : Ar.mod n d = q) (hr : Ar.err n d = r) :
    Calls Try.prog 14 #[.int .i64 n, .int .i64 d] w fun e w' => e = .returned (.tuple #[.int .i64 q, .int .i64 r]) ∧ Below w.heap.size w w' := by
  subst hq; subst hr; exact mod_calls n d w
theorem root_eq (n r : Int) (w : World) (h0 : 0 ≤ n) (h1 : n ≤ 1000000000000000000) (h : Ar.IsRoot n r) :
    Calls Try.prog 18 #[.int .i64 n] w fun e w' => e = .returned (.tuple #[.int .i64 r, .int .i64 0]) ∧ w = w' := by
  obtain ⟨a, b⟩ := Ar.root_good h0 h1 h
  have k := root_calls n w
  rw [a, b] at k
  exact k
theorem near_eq (x t s q : Int) (w : World) (hq : Ar.near x t s = q) :
    Calls Try.prog 25 #[.int .i64 x, .int .i64 t, .int .i64 s] w fun e w' => e = .returned (.int .i64 q) ∧ w = w' := by
  subst hq; exact near_calls x t s w
theorem clamp_eq (x l h q : Int) (w : World) (hq : Ar.clamp x l h = q) :
    Calls Try.prog 9 #[.int .i64 x, .int .i64 l, .int .i64 h] w fun e w' => e = .returned (.int .i64 q) ∧ w = w' := by
  subst hq; exact clamp_calls x l h w
set_option maxHeartbeats 400000 in
theorem sane01 (w : World) :
    Calls Try.prog 10 #[] w fun e w' => e = .returned (.bool true) ∧ Below w.heap.size w w' := by
  go_enter Try.func10, Try.ntmps10
  go_wp2_with fail
  refine (half_eq _ _ (-1) 0 _ (by decide) (by decide)).mono ?_
  rintro e w1 ⟨rfl, hb1⟩
  go_wp2_with fail
  refine (half_eq _ _ 2 0 _ (by decide) (by decide)).mono ?_
  rintro e w2 ⟨rfl, hb2⟩
  go_wp2_with fail
  refine (root_eq _ 3 _ (by decide) (by decide) (by unfold Ar.IsRoot; decide)).mono ?_
  rintro e w' ⟨rfl, rfl⟩
  go_wp2_with fail
  refine (near_eq _ _ _ 14 _ (by decide)).mono ?_
  rintro e w' ⟨rfl, rfl⟩
  go_wp2_with fail
  refine (clamp_eq _ _ _ 7 _ (by decide)).mono ?_
  rintro e w' ⟨rfl, rfl⟩
  go_wp2_with fail
  go_ret
  exact ⟨rfl, hb1.trans (hb2.mono hb1.size)⟩
end Go.Proofs.Ytkoagefpnbgkiaa
