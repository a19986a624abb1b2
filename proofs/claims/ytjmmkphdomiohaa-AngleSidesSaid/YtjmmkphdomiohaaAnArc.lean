/- Arcs of package angle: what each call returns. -/
import Derived.Test.YtjmmkphdomiohaaAn
namespace Go.Proofs.Ytjmmkphdomiohaa
open Go.RowKit
theorem width_wrap {f t : Int} (h0 : 0 ≤ f) (h1 : f < 3600) (h2 : 0 ≤ t) (h3 : t < 3600) : wrap64 (t - f) = t - f := IntWalk.wrap64_in _ ⟨by omega, by omega⟩
set_option maxHeartbeats 400000 in
theorem width_calls (f t : Int) (w : World) :
    Calls Try.prog 34 #[.agg #[.int .i64 f, .int .i64 t]] w fun e w' => e = .returned (.int .i64 (An.norm (wrap64 (t - f)))) ∧ Below w.heap.size w w' := by
  go_enter Try.func34, Try.ntmps34
  go_wp2_with (fail)
  refine (norm_calls _ _).mono ?_
  rintro e w' ⟨rfl, rfl⟩
  go_wp2_with (fail)
  go_ret
  exact ⟨rfl, (by repeat (first | exact Below.refl _ _ | apply below_drewN | apply Below.drew | refine Below.alloc ?_ (by first | exact Nat.le_refl _ | (simp; done) | (simp; omega)) _))⟩
set_option maxHeartbeats 400000 in
theorem valid_calls (f t : Int) (w : World) :
    Calls Try.prog 32 #[.agg #[.int .i64 f, .int .i64 t]] w fun e w' => e = .returned (.bool (An.valid f t)) ∧ Below w.heap.size w w' := by
  by_cases h : 0 ≤ f ∧ f < 3600 ∧ 0 ≤ t ∧ t < 3600
  · have E : Hid (wrap64 (t - f) = t - f) := Lib.hid (width_wrap h.1 h.2.1 h.2.2.1 h.2.2.2)
    obtain ⟨h0, h1, h2, h3⟩ := h
    go_enter Try.func32, Try.ntmps32
    go_wp2_with (fail)
    refine (width_calls _ _ _).mono ?_
    rw [E.out]
    rintro e w1 ⟨rfl, hb⟩
    go_wp2_with (fail)
    go_ret
    refine ⟨retb ?_, (Below.alloc (Below.refl _ _) (Nat.le_refl _) _).trans (hb.mono (by simp))⟩
    simp [An.valid, *]
  · have hv : An.valid f t = false := by simp only [An.valid, decide_eq_false_iff_not]; omega
    have HV := Lib.hid hv
    clear hv
    go_enter Try.func32, Try.ntmps32
    go_wp2_with (fail)
    all_goals first | omega | (go_ret; exact ⟨retb HV.out.symm, (by repeat (first | exact Below.refl _ _ | apply below_drewN | apply Below.drew | refine Below.alloc ?_ (by first | exact Nat.le_refl _ | (simp; done) | (simp; omega)) _))⟩)
end Go.Proofs.Ytjmmkphdomiohaa
