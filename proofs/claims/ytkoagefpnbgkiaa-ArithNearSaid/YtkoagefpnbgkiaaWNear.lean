/- The walk of ArithNear. -/
import Derived.Test.YtkoagefpnbgkiaaArSane
namespace Go.Proofs.Ytkoagefpnbgkiaa
open Go.RowKit
theorem near_facts (x t s : Int) (h1 : -32768 ≤ x) (h2 : x ≤ 32767) (h3 : -32768 ≤ t) (h4 : t ≤ 32767) (h5 : 0 ≤ s) (h6 : s ≤ 255) :
    (x ≤ t → Ar.near x t s ≤ t ∧ x ≤ Ar.near x t s ∧ Ar.near x t s - x ≤ s ∧ (Ar.near x t s = t ↔ t - x ≤ s)) ∧ (t ≤ x → t ≤ Ar.near x t s ∧ Ar.near x t s ≤ x ∧ x - Ar.near x t s ≤ s ∧ (Ar.near x t s = t ↔ x - t ≤ s)) := by
  by_cases c : Ar.Far x t s
  · have e : Ar.near x t s = x := by rw [Ar.near, if_pos c]
    unfold Ar.Far at c
    rw [e]; omega
  · have e : Ar.near x t s = Ar.clamp t (x - s) (x + s) := by rw [Ar.near, if_neg c]
    unfold Ar.Far at c
    rw [e]; unfold Ar.clamp; omega
set_option maxHeartbeats 400000 in
theorem ArithNear_walk (x : Int) (wx : (Lit.int .i16 x).wf = true) (t : Int) (wt : (Lit.int .i16 t).wf = true) (s : Int) (ws : (Lit.int .u8 s).wf = true) (w : World) :
    Calls Try.prog 8 #[.int .i16 x, .int .i16 t, .int .u8 s] w fun e w' => e = .returned (.bool true) ∧ Below w.heap.size w w' := by
  have e1 : IntKind.i16.min = -32768 := rfl
  have e2 : IntKind.i16.max = 32767 := rfl
  have e3 : IntKind.u8.min = 0 := rfl
  have e4 : IntKind.u8.max = 255 := rfl
  simp only [Lit.wf, e1, e2, e3, e4, Bool.and_eq_true, decide_eq_true_eq] at wx wt ws
  clear e1 e2 e3 e4
  obtain ⟨h1, h2⟩ := wx
  obtain ⟨h3, h4⟩ := wt
  obtain ⟨h5, h6⟩ := ws
  have F := near_facts x t s h1 h2 h3 h4 h5 h6
  obtain ⟨y, hy⟩ : ∃ y, Ar.near x t s = y := ⟨_, rfl⟩
  rw [hy] at F
  have HY := Lib.hid hy
  clear hy
  obtain ⟨F1, F2⟩ := F
  by_cases c : t < x
  · obtain ⟨a, b, d, i⟩ := F2 (by omega)
    clear F1 F2
    by_cases k : x - t ≤ s
    · obtain rfl : y = t := i.2 k
      clear i
      go_enter Try.func8, Try.ntmps8
      go_wp2_with fail
      refine (near_eq _ _ _ y _ HY.out).mono ?_
      rintro e w' ⟨rfl, rfl⟩
      go_wp2_with (go_at_call 10; refine (sane01 _).mono ?_; rintro e w' ⟨rfl, hb⟩)
      all_goals first | (go_ret; exact ⟨rfl, hb⟩) | (exfalso; omega) | (exfalso; simp at *; omega)
    · have n : ¬ y = t := fun h => k (i.1 h)
      clear i
      have T1 : (-(t - y) == (0 : Int)) = false := by simp; omega
      have T2 : decide (-(t - x) ≤ s) = false := by simp; omega
      go_enter Try.func8, Try.ntmps8
      go_wp2_with fail
      refine (near_eq _ _ _ y _ HY.out).mono ?_
      rintro e w' ⟨rfl, rfl⟩
      go_wp2_with (go_at_call 10; refine (sane01 _).mono ?_; rintro e w' ⟨rfl, hb⟩)
      all_goals first | (go_ret; exact ⟨rfl, hb⟩) | (exfalso; omega) | (exfalso; simp at *; omega)
  · obtain ⟨a, b, d, i⟩ := F1 (by omega)
    clear F1 F2
    by_cases k : t - x ≤ s
    · obtain rfl : y = t := i.2 k
      clear i
      go_enter Try.func8, Try.ntmps8
      go_wp2_with fail
      refine (near_eq _ _ _ y _ HY.out).mono ?_
      rintro e w' ⟨rfl, rfl⟩
      go_wp2_with (go_at_call 10; refine (sane01 _).mono ?_; rintro e w' ⟨rfl, hb⟩)
      all_goals first | (go_ret; exact ⟨rfl, hb⟩) | (exfalso; omega) | (exfalso; simp at *; omega)
    · have n : ¬ y = t := fun h => k (i.1 h)
      clear i
      have T1 : (t - y == (0 : Int)) = false := by simp; omega
      have T2 : decide (t - x ≤ s) = false := by simp; omega
      go_enter Try.func8, Try.ntmps8
      go_wp2_with fail
      refine (near_eq _ _ _ y _ HY.out).mono ?_
      rintro e w' ⟨rfl, rfl⟩
      go_wp2_with (go_at_call 10; refine (sane01 _).mono ?_; rintro e w' ⟨rfl, hb⟩)
      all_goals first | (go_ret; exact ⟨rfl, hb⟩) | (exfalso; omega) | (exfalso; simp at *; omega)
end Go.Proofs.Ytkoagefpnbgkiaa
