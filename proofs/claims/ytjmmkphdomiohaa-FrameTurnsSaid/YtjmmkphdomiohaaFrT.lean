/- Turn, Earth and Body of package frame: what each call returns. -/
import Derived.Test.YtjmmkphdomiohaaFrA
import Derived.Test.YtjmmkphdomiohaaAn
namespace Go.Proofs.Ytjmmkphdomiohaa
open Go.RowKit
theorem turn_prod {x y a : Int} (hx : Fr.Ok x) (hy : Fr.Ok y) : -1000000000000 ≤ x * An.cos a ∧ x * An.cos a ≤ 1000000000000 ∧ -1000000000000 ≤ y * An.sin a ∧ y * An.sin a ≤ 1000000000000 ∧ -1000000000000 ≤ x * An.sin a ∧ x * An.sin a ≤ 1000000000000 ∧ -1000000000000 ≤ y * An.cos a ∧ y * An.cos a ≤ 1000000000000 := by
  have m : ∀ s z : Int, -10000 ≤ s ∧ s ≤ 10000 → Fr.Ok z → -1000000000000 ≤ z * s ∧ z * s ≤ 1000000000000 := by
    intro s z hs hz
    unfold Fr.Ok at hz
    have a1 : (10000 - s) * (100000000 - z) = 10000 * 100000000 - 10000 * z - s * 100000000 + s * z := by rw [Int.sub_mul, Int.mul_sub, Int.mul_sub]; omega
    have a2 : (10000 + s) * (100000000 + z) = 10000 * 100000000 + 10000 * z + s * 100000000 + s * z := by rw [Int.add_mul, Int.mul_add, Int.mul_add]; omega
    have a3 : (10000 - s) * (100000000 + z) = 10000 * 100000000 + 10000 * z - s * 100000000 - s * z := by rw [Int.sub_mul, Int.mul_add, Int.mul_add]; omega
    have a4 : (10000 + s) * (100000000 - z) = 10000 * 100000000 - 10000 * z + s * 100000000 - s * z := by rw [Int.add_mul, Int.mul_sub, Int.mul_sub]; omega
    have b1 : 0 ≤ (10000 - s) * (100000000 - z) := Int.mul_nonneg (by omega) (by omega)
    have b2 : 0 ≤ (10000 + s) * (100000000 + z) := Int.mul_nonneg (by omega) (by omega)
    have b3 : 0 ≤ (10000 - s) * (100000000 + z) := Int.mul_nonneg (by omega) (by omega)
    have b4 : 0 ≤ (10000 + s) * (100000000 - z) := Int.mul_nonneg (by omega) (by omega)
    rw [Int.mul_comm z s]
    omega
  have c1 := m _ _ (An.cos_range a) hx
  have c2 := m _ _ (An.sin_range a) hy
  have c3 := m _ _ (An.sin_range a) hx
  have c4 := m _ _ (An.cos_range a) hy
  omega
/-- what a call that returns two numbers and an error has returned -/
def GaveT (w : World) (x y r : Int) (e : Ending) (w' : World) : Prop := e = .returned (.tuple #[.int .i64 x, .int .i64 y, .int .i64 r]) ∧ Below w.heap.size w w'
set_option maxHeartbeats 800000 in
theorem turn_calls (x y a : Int) (w : World) :
    Calls Try.prog 51 #[.int .i64 x, .int .i64 y, .int .i64 a] w (GaveT w (Fr.turnx x y a) (Fr.turny x y a) (Fr.err (Fr.Ok x ∧ Fr.Ok y))) := by
  have hB : Below w.heap.size w (w.alloc (Obj.cells #[Value.int .i64 x, Value.int .i64 y] 3)) := (Below.refl _ _).alloc (Nat.le_refl _) _
  by_cases k : Fr.Ok x ∧ Fr.Ok y
  · have H : Hid (Fr.turnx x y a = Ar.half (x * An.cos a - y * An.sin a) 10000 ∧ Fr.turny x y a = Ar.half (x * An.sin a + y * An.cos a) 10000 ∧ Fr.err (Fr.Ok x ∧ Fr.Ok y) = 0) :=
      Lib.hid ⟨by unfold Fr.turnx; rw [if_pos k], by unfold Fr.turny; rw [if_pos k], by unfold Fr.err; rw [if_pos k]⟩
    have HV : Hid (Fr.valid x y = true) := Lib.hid (decide_eq_true k)
    obtain ⟨p1, p2, p3, p4, p5, p6, p7, p8⟩ := turn_prod (a := a) k.1 k.2
    clear k
    go_enter Try.func51, Try.ntmps51
    go_wp2_with (fail)
    refine (near_in _ x y true _ (by go_simp) (by go_simp) HV.out).mono ?_
    rintro e w' ⟨rfl, rfl⟩
    go_wp2_with (fail)
    refine (sin_calls _ _).mono ?_
    rintro e w1 ⟨rfl, hb1⟩
    go_wp2_with (fail)
    refine (cos_calls _ _).mono ?_
    rintro e w2 ⟨rfl, hb2⟩
    go_wp2_with (fail)
    refine (half_calls _ _ _).mono ?_
    rintro e w3 ⟨rfl, hb3⟩
    go_wp2_with (fail)
    refine (half_calls _ _ _).mono ?_
    rintro e w4 ⟨rfl, hb4⟩
    go_wp2_with (fail)
    go_ret3
    have hb := below_step hb1 (below_step hb2 (below_step hb3 hb4))
    exact ⟨ret3 H.out.1.symm H.out.2.1.symm H.out.2.2.symm, hB.trans (hb.mono hB.size)⟩
  · have H : Hid (Fr.turnx x y a = 0 ∧ Fr.turny x y a = 0 ∧ Fr.err (Fr.Ok x ∧ Fr.Ok y) = 1) :=
      Lib.hid ⟨by unfold Fr.turnx; rw [if_neg k], by unfold Fr.turny; rw [if_neg k], by unfold Fr.err; rw [if_neg k]⟩
    have HV : Hid (Fr.valid x y = false) := Lib.hid (decide_eq_false k)
    clear k
    go_enter Try.func51, Try.ntmps51
    go_wp2_with (fail)
    refine (near_in _ x y false _ (by go_simp) (by go_simp) HV.out).mono ?_
    rintro e w' ⟨rfl, rfl⟩
    go_wp2_with (fail)
    go_ret3
    exact ⟨ret3 H.out.1.symm H.out.2.1.symm H.out.2.2.symm, hB⟩
set_option maxHeartbeats 800000 in
theorem earth_calls (x y a : Int) (w : World) :
    Calls Try.prog 53 #[.int .i64 x, .int .i64 y, .int .i64 a] w (GaveT w (Fr.turnx x y a) (Fr.turny x y a) (Fr.err (Fr.Ok x ∧ Fr.Ok y))) := by
  go_enter Try.func53, Try.ntmps53
  go_wp2_with (fail)
  refine (turn_calls _ _ _ _).mono ?_
  rintro e w1 ⟨rfl, hb⟩
  go_wp2_with (fail)
  go_ret3
  exact ⟨rfl, hb⟩
set_option maxHeartbeats 800000 in
theorem body_calls (x y a : Int) (w : World) :
    Calls Try.prog 55 #[.int .i64 x, .int .i64 y, .int .i64 a] w (GaveT w (Fr.turnx x y (-An.norm a)) (Fr.turny x y (-An.norm a)) (Fr.err (Fr.Ok x ∧ Fr.Ok y))) := by
  obtain ⟨n0, n1⟩ := An.norm_range a
  go_enter Try.func55, Try.ntmps55
  go_wp2_with (fail)
  refine (norm_calls _ _).mono ?_
  rintro e w' ⟨rfl, rfl⟩
  go_wp2_with (fail)
  refine (turn_calls _ _ _ _).mono ?_
  rintro e w1 ⟨rfl, hb⟩
  go_wp2_with (fail)
  go_ret3
  exact ⟨rfl, hb⟩
end Go.Proofs.Ytjmmkphdomiohaa
