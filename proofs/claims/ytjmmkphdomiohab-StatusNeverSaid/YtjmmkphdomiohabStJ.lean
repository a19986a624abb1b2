/- Package status: the level that is judged; whether a class has a level. -/
import Derived.Test.YtjmmkphdomiohabKit2
namespace Go.Proofs.Ytjmmkphdomiohab
open Go.RowKit
namespace St
def judge (h s : Bool) (st n : Int) : Int := if h = true ∧ st = 1 then (if s = true ∧ 2 ≤ n then 3 else 2) else 1
end St
theorem judge_i (w : World) : (Instr.index 59 (.agg #[.func (.func 30) #[] #[], .func (.func 31) #[] #[]]) (.int .i64 0)).run Try.prog w = .ok (.func (.func 30) #[] #[]) w := by kernel_rfl
theorem judge_j (w : World) : (Instr.index 59 (.agg #[.func (.func 30) #[] #[], .func (.func 31) #[] #[]]) (.int .i64 1)).run Try.prog w = .ok (.func (.func 31) #[] #[]) w := by kernel_rfl
set_option maxHeartbeats 1600000 in
theorem judge_calls (h s : Bool) (x y b t st n : Int) (w : World) :
    Calls Try.prog 24 #[.bool h, .bool s, .agg #[.int .i64 x, .int .i64 y, .int .i64 b, .int .i64 t, .int .i64 st], .int .i64 n] w fun e w' => e = .returned (.int .i64 (St.judge h s st n)) ∧ Below w.heap.size w w' := by
  by_cases k : h = true ∧ st = 1
  · obtain ⟨rfl, rfl⟩ := k
    by_cases k2 : s = true ∧ 2 ≤ n
    · obtain ⟨rfl, k3⟩ := k2
      have E : Hid (St.judge true true 1 n = 3) := Lib.hid (by simp [St.judge, k3])
      rw [E.out]
      clear E
      have i0 := judge_i
      have i1 := judge_j
      go_enter Try.func24, Try.ntmps24
      go_wp2_with (fail)
      go_rounds 3
      all_goals first | (exfalso; omega) | (go_ret; exact ⟨rfl, (by repeat (first | exact Below.refl _ _ | apply below_drewN | apply Below.drew | refine Below.alloc ?_ (by first | exact Nat.le_refl _ | (simp; done) | (simp; omega)) _))⟩) | (exfalso; simp at *; omega)
    · have E : Hid (St.judge true s 1 n = 2) := Lib.hid (by simp [St.judge]; simpa using k2)
      rw [E.out]
      clear E
      cases s
      · clear k2
        have i0 := judge_i
        have i1 := judge_j
        go_enter Try.func24, Try.ntmps24
        go_wp2_with (fail)
        go_rounds 3
        all_goals first | (exfalso; omega) | (go_ret; exact ⟨rfl, (by repeat (first | exact Below.refl _ _ | apply below_drewN | apply Below.drew | refine Below.alloc ?_ (by first | exact Nat.le_refl _ | (simp; done) | (simp; omega)) _))⟩) | (exfalso; simp at *; omega)
      · have k3 : ¬ 2 ≤ n := fun h => k2 ⟨rfl, h⟩
        have kb : decide (2 ≤ n) = false := decide_eq_false k3
        clear k2
        have i0 := judge_i
        have i1 := judge_j
        go_enter Try.func24, Try.ntmps24
        go_wp2_with (fail)
        go_rounds 3
        all_goals first | (exfalso; omega) | (go_ret; exact ⟨rfl, (by repeat (first | exact Below.refl _ _ | apply below_drewN | apply Below.drew | refine Below.alloc ?_ (by first | exact Nat.le_refl _ | (simp; done) | (simp; omega)) _))⟩) | (exfalso; simp at *; omega)
  · have E : Hid (St.judge h s st n = 1) := Lib.hid (by unfold St.judge; rw [if_neg k])
    rw [E.out]
    clear E
    cases h
    · clear k
      have i0 := judge_i
      have i1 := judge_j
      go_enter Try.func24, Try.ntmps24
      go_wp2_with (fail)
      go_rounds 3
      all_goals first | (exfalso; omega) | (go_ret; exact ⟨rfl, (by repeat (first | exact Below.refl _ _ | apply below_drewN | apply Below.drew | refine Below.alloc ?_ (by first | exact Nat.le_refl _ | (simp; done) | (simp; omega)) _))⟩) | (exfalso; simp at *; omega)
    · have k3 : (st == 1) = false := by simpa using k
      clear k
      have i0 := judge_i
      have i1 := judge_j
      go_enter Try.func24, Try.ntmps24
      go_wp2_with (fail)
      go_rounds 3
      all_goals first | (exfalso; omega) | (go_ret; exact ⟨rfl, (by repeat (first | exact Below.refl _ _ | apply below_drewN | apply Below.drew | refine Below.alloc ?_ (by first | exact Nat.le_refl _ | (simp; done) | (simp; omega)) _))⟩) | (exfalso; simp at *; omega)
set_option maxHeartbeats 400000 in
theorem enough_calls (l b n : Int) (w : World) :
    Calls Try.prog 17 #[.agg #[.int .i64 l, .int .i64 b], .int .i64 n] w fun e w' => e = .returned (.bool (decide (n ≤ l))) ∧ Below w.heap.size w w' := by
  go_enter Try.func17, Try.ntmps17
  go_wp2_with (fail)
  go_ret
  exact ⟨rfl, (by repeat (first | exact Below.refl _ _ | apply below_drewN | apply Below.drew | refine Below.alloc ?_ (by first | exact Nat.le_refl _ | (simp; done) | (simp; omega)) _))⟩
end Go.Proofs.Ytjmmkphdomiohab
