/- Box and Distance of package frame: what each call returns. -/
import Derived.Test.YtjmmkphdomiohaaFrA
namespace Go.Proofs.Ytjmmkphdomiohaa
open Go.RowKit
theorem four_cases (a b c d : Int) : Fr.Four a b c d ∨ ¬ Fr.Four a b c d := Decidable.em _
set_option maxHeartbeats 800000 in
theorem sizes_good (a b c d u v : Int) (w : World) (h : Fr.Four a b c d) (hu : Fr.abs (a - c) = u) (hv : Fr.abs (b - d) = v) :
    Calls Try.prog 68 #[.agg #[.int .i64 a, .int .i64 b], .agg #[.int .i64 c, .int .i64 d]] w fun e w' => e = .returned (.tuple #[.int .i64 u, .int .i64 v, .int .i64 0]) ∧ Below w.heap.size w w' := by
  have st : ∃ W, ((w.alloc (Obj.cells #[Value.int .i64 a, Value.int .i64 b] 51)).alloc (Obj.cells #[Value.int .i64 c, Value.int .i64 d] 51)) = W ∧ W.cell? ⟨w.heap.size, 0, none⟩ = some (.int .i64 a) ∧ W.cell? ⟨w.heap.size, 1, none⟩ = some (.int .i64 b) ∧
      W.cell? ⟨w.heap.size + 1, 0, none⟩ = some (.int .i64 c) ∧ W.cell? ⟨w.heap.size + 1, 1, none⟩ = some (.int .i64 d) ∧ Below w.heap.size w W :=
    ⟨_, rfl, by go_simp, by go_simp, by go_simp, by go_simp, ((Below.refl _ _).alloc (Nat.le_refl _) _).alloc (by simp) _⟩
  have HV : Hid (Fr.valid a b = true) := Lib.hid (decide_eq_true h.1)
  have HV2 : Hid (Fr.valid c d = true) := Lib.hid (decide_eq_true h.2)
  obtain ⟨⟨⟨a0, a1⟩, b0, b1⟩, ⟨c0, c1⟩, d0, d1⟩ := h
  unfold Fr.abs at hu hv
  have HU := Lib.hid hu
  have HW := Lib.hid hv
  clear hu hv
  have W1 : IntKind.i64.wrap (a - c) = a - c := IntWalk.i64_in _ (by omega)
  have W2 : IntKind.i64.wrap (c - a) = c - a := IntWalk.i64_in _ (by omega)
  have W3 : IntKind.i64.wrap (b - d) = b - d := IntWalk.i64_in _ (by omega)
  have W4 : IntKind.i64.wrap (d - b) = d - b := IntWalk.i64_in _ (by omega)
  by_cases k1 : a - c < c - a <;> by_cases k2 : b - d < d - b
  all_goals
    go_enter Try.func68, Try.ntmps68
    go_wp2_with (fail)
    obtain ⟨W, hW, s0, s1, s2, s3, sB⟩ := st
    rw [hW]
    clear hW
    refine (fvalid_eq _ _ true _ HV.out).mono ?_
    rintro e w1 ⟨rfl, hb⟩
    replace s0 := cellB hb s0
    replace s1 := cellB hb s1
    replace s2 := cellB hb s2
    replace s3 := cellB hb s3
    replace sB := below_step sB hb
    clear hb
    go_wp2_with (fail)
    refine (fvalid_eq _ _ true _ HV2.out).mono ?_
    rintro e w2 ⟨rfl, hb⟩
    replace s0 := cellB hb s0
    replace s1 := cellB hb s1
    replace s2 := cellB hb s2
    replace s3 := cellB hb s3
    replace sB := below_step sB hb
    clear hb
    go_wp2_with (fail)
    refine region_steady (fun w' => w'.cell? ⟨w.heap.size, 0, none⟩ = some (.int .i64 a) ∧ w'.cell? ⟨w.heap.size, 1, none⟩ = some (.int .i64 b) ∧ w'.cell? ⟨w.heap.size + 1, 0, none⟩ = some (.int .i64 c) ∧ w'.cell? ⟨w.heap.size + 1, 1, none⟩ = some (.int .i64 d) ∧ Below w.heap.size w w') (by kernel_rfl) (by kernel_rfl) (fun _ _ _ _ _ h => h) ⟨s0, s1, s2, s3, sB.drew⟩ ?_
    repeat
      first
        | refine wpSteady_skip (by rfl) ?_
        | (apply wpSteady_step
           · rfl
           · rintro w' ⟨t0, t1, t2, t3, t4⟩
             go_simp
             first
               | exact steadyR_value rfl ⟨t0, t1, t2, t3, t4⟩)
      (try simp only [Act.put, List.setIfInBounds_toArray, List.set_cons_zero, List.set_cons_succ])
    refine wpSteady_nil ?_
    rintro wq ⟨t0, t1, t2, t3, t4⟩
    go_wp2_with (fail)
    go_ret3
    refine ⟨ret3 ?_ ?_ rfl, t4⟩
    · have := HU.out; split at this <;> omega
    · have := HW.out; split at this <;> omega
set_option maxHeartbeats 800000 in
theorem sizes_bad (a b c d : Int) (w : World) (h : ¬ Fr.Four a b c d) :
    Calls Try.prog 68 #[.agg #[.int .i64 a, .int .i64 b], .agg #[.int .i64 c, .int .i64 d]] w fun e w' => e = .returned (.tuple #[.int .i64 0, .int .i64 0, .int .i64 1]) ∧ Below w.heap.size w w' := by
  have st : ∃ W, ((w.alloc (Obj.cells #[Value.int .i64 a, Value.int .i64 b] 51)).alloc (Obj.cells #[Value.int .i64 c, Value.int .i64 d] 51)) = W ∧
      W.cell? ⟨w.heap.size + 1, 0, none⟩ = some (.int .i64 c) ∧ W.cell? ⟨w.heap.size + 1, 1, none⟩ = some (.int .i64 d) ∧ Below w.heap.size w W :=
    ⟨_, rfl, by go_simp, by go_simp, ((Below.refl _ _).alloc (Nat.le_refl _) _).alloc (by simp) _⟩
  by_cases k : Fr.Ok a ∧ Fr.Ok b
  · have HV : Hid (Fr.valid a b = true) := Lib.hid (decide_eq_true k)
    have HV2 : Hid (Fr.valid c d = false) := Lib.hid (decide_eq_false fun k2 => h ⟨k, k2⟩)
    clear h k
    go_enter Try.func68, Try.ntmps68
    go_wp2_with (fail)
    obtain ⟨W, hW, s2, s3, sB⟩ := st
    rw [hW]
    clear hW
    refine (fvalid_eq _ _ true _ HV.out).mono ?_
    rintro e w1 ⟨rfl, hb⟩
    replace s2 := cellB hb s2
    replace s3 := cellB hb s3
    replace sB := below_step sB hb
    clear hb
    go_wp2_with (fail)
    refine (fvalid_eq _ _ false _ HV2.out).mono ?_
    rintro e w2 ⟨rfl, hb⟩
    replace sB := below_step sB hb
    clear hb
    go_wp2_with (fail)
    go_ret3
    exact ⟨rfl, sB⟩
  · have HV : Hid (Fr.valid a b = false) := Lib.hid (decide_eq_false k)
    clear h k
    go_enter Try.func68, Try.ntmps68
    go_wp2_with (fail)
    obtain ⟨W, hW, s2, s3, sB⟩ := st
    rw [hW]
    clear hW
    refine (fvalid_eq _ _ false _ HV.out).mono ?_
    rintro e w1 ⟨rfl, hb⟩
    replace sB := below_step sB hb
    clear hb
    go_wp2_with (fail)
    go_ret3
    exact ⟨rfl, sB⟩
theorem abs_bd {x : Int} (h0 : -200000000 ≤ x) (h1 : x ≤ 200000000) : 0 ≤ Fr.abs x ∧ Fr.abs x ≤ 200000000 ∧ Fr.abs x * Fr.abs x = x * x := by
  unfold Fr.abs
  split
  · exact ⟨by omega, by omega, by rw [Int.neg_mul_neg]⟩
  · exact ⟨by omega, by omega, rfl⟩
set_option maxHeartbeats 800000 in
theorem box_calls (a b c d : Int) (w : World) :
    Calls Try.prog 41 #[.agg #[.int .i64 a, .int .i64 b], .agg #[.int .i64 c, .int .i64 d]] w fun e w' => e = .returned (.tuple #[.int .i64 (Fr.box a b c d), .int .i64 (Fr.err (Fr.Four a b c d))]) ∧ Below w.heap.size w w' := by
  have hB : Below w.heap.size w ((w.alloc (Obj.cells #[Value.int .i64 a, Value.int .i64 b] 51)).alloc (Obj.cells #[Value.int .i64 c, Value.int .i64 d] 51)) := ((Below.refl _ _).alloc (Nat.le_refl _) _).alloc (by simp) _
  rcases four_cases a b c d with h | h
  · have H : Hid (Fr.box a b c d = max (Fr.abs (a - c)) (Fr.abs (b - d)) ∧ Fr.err (Fr.Four a b c d) = 0) := Lib.hid ⟨by unfold Fr.box; rw [if_pos h], by unfold Fr.err; rw [if_pos h]⟩
    obtain ⟨u, hu⟩ : ∃ u, Fr.abs (a - c) = u := ⟨_, rfl⟩
    obtain ⟨v, hv⟩ : ∃ v, Fr.abs (b - d) = v := ⟨_, rfl⟩
    rw [hu, hv] at H
    have HS : Hid (∀ w, _) := Lib.hid (fun w => sizes_good a b c d u v w h hu hv)
    clear h hu hv
    by_cases k : u < v
    all_goals
      go_enter Try.func41, Try.ntmps41
      go_wp2_with (fail)
      refine (HS.out _).mono ?_
      rintro e w1 ⟨rfl, hb⟩
      go_wp2_with (fail)
      go_ret2
      exact ⟨ret2 (by rw [H.out.1]; omega) H.out.2.symm, hB.trans (hb.mono hB.size)⟩
  · have H : Hid (Fr.box a b c d = 0 ∧ Fr.err (Fr.Four a b c d) = 1) := Lib.hid ⟨by unfold Fr.box; rw [if_neg h], by unfold Fr.err; rw [if_neg h]⟩
    have HN := Lib.hid h
    clear h
    go_enter Try.func41, Try.ntmps41
    go_wp2_with (fail)
    refine (sizes_bad _ _ _ _ _ HN.out).mono ?_
    rintro e w1 ⟨rfl, hb⟩
    go_wp2_with (fail)
    go_ret2
    exact ⟨ret2 H.out.1.symm H.out.2.symm, hB.trans (hb.mono hB.size)⟩
set_option maxHeartbeats 800000 in
theorem dist_calls (a b c d : Int) (w : World) :
    Calls Try.prog 49 #[.agg #[.int .i64 a, .int .i64 b], .agg #[.int .i64 c, .int .i64 d]] w fun e w' => e = .returned (.tuple #[.int .i64 (Fr.dist a b c d), .int .i64 (Fr.err (Fr.Four a b c d))]) ∧ Below w.heap.size w w' := by
  have hB : Below w.heap.size w ((w.alloc (Obj.cells #[Value.int .i64 a, Value.int .i64 b] 51)).alloc (Obj.cells #[Value.int .i64 c, Value.int .i64 d] 51)) := ((Below.refl _ _).alloc (Nat.le_refl _) _).alloc (by simp) _
  rcases four_cases a b c d with h | h
  · have E : Hid (Fr.err (Fr.Four a b c d) = 0) := Lib.hid (by unfold Fr.err; rw [if_pos h])
    have q := Fr.sq_range h
    have hD : Fr.dist a b c d = Fr.uproot (Fr.sq a b c d) := by unfold Fr.dist; rw [if_pos h]
    obtain ⟨n, hn⟩ : ∃ n, Fr.sq a b c d = n := ⟨_, rfl⟩
    have n0 : 0 ≤ n := by unfold Fr.sq at hn; omega
    have n1 : n ≤ 80000000000000000 := by unfold Fr.sq at hn; omega
    have hr := Ar.isqrt_is n0
    rw [hn] at hD
    unfold Fr.uproot at hD
    obtain ⟨u, hu⟩ : ∃ u, Fr.abs (a - c) = u := ⟨_, rfl⟩
    obtain ⟨v, hv⟩ : ∃ v, Fr.abs (b - d) = v := ⟨_, rfl⟩
    have HS : Hid (∀ w, _) := Lib.hid (fun w => sizes_good a b c d u v w h hu hv)
    have hf : Fr.Four a b c d := h
    unfold Fr.Four Fr.Ok at h
    have a1 := abs_bd (x := a - c) (by omega) (by omega)
    have a2 := abs_bd (x := b - d) (by omega) (by omega)
    rw [hu] at a1
    rw [hv] at a2
    clear h hf
    obtain ⟨u0, u1, u2⟩ := a1
    obtain ⟨v0, v1, v2⟩ := a2
    have hs : u * u + v * v = n := by unfold Fr.sq at hn; omega
    have u3 : 0 ≤ u * u := Int.mul_nonneg u0 u0
    have v3 : 0 ≤ v * v := Int.mul_nonneg v0 v0
    have u4 : u * u ≤ 80000000000000000 := by omega
    have v4 : v * v ≤ 80000000000000000 := by omega
    have HN := Lib.hid hs
    generalize Ar.isqrt n = r at *
    have HR := Lib.hid hr
    obtain ⟨r0, r1, r2⟩ := hr
    have r3 : r ≤ 300000000 := by
      rcases (by omega : r ≤ 300000000 ∨ 300000000 ≤ r) with k | k
      · exact k
      · have := Ar.sq_le (a := 300000000) (b := r) (by omega) k; omega
    have r4 : 0 ≤ r * r := Int.mul_nonneg r0 r0
    have HD := Lib.hid hD
    clear hD hs u2 v2 q hn hu hv r2
    by_cases k : r * r < n
    all_goals
      go_enter Try.func49, Try.ntmps49
      go_wp2_with (fail)
      refine (HS.out _).mono ?_
      rintro e w1 ⟨rfl, hb⟩
      go_wp2_with (fail)
      rw [HN.out]
      refine (root_eq _ r _ n0 (by omega) HR.out).mono ?_
      rintro e w' ⟨rfl, rfl⟩
      go_wp2_with (fail)
      go_ret2
      exact ⟨ret2 (by rw [HD.out]; split <;> omega) E.out.symm, hB.trans (hb.mono hB.size)⟩
  · have H : Hid (Fr.dist a b c d = 0 ∧ Fr.err (Fr.Four a b c d) = 1) := Lib.hid ⟨by unfold Fr.dist; rw [if_neg h], by unfold Fr.err; rw [if_neg h]⟩
    have HN := Lib.hid h
    clear h
    go_enter Try.func49, Try.ntmps49
    go_wp2_with (fail)
    refine (sizes_bad _ _ _ _ _ HN.out).mono ?_
    rintro e w1 ⟨rfl, hb⟩
    go_wp2_with (fail)
    go_ret2
    exact ⟨ret2 H.out.1.symm H.out.2.symm, hB.trans (hb.mono hB.size)⟩
end Go.Proofs.Ytjmmkphdomiohaa
