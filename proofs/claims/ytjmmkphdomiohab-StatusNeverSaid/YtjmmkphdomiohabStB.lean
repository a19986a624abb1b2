/- Package status: the class at the next time, of valid classes (1). -/
import Derived.Test.YtjmmkphdomiohabStA
namespace Go.Proofs.Ytjmmkphdomiohab
open Go.RowKit
set_option maxHeartbeats 1600000 in
theorem stNext_A (l b t j d : Int) (w : World) (hv : St.Ok l b t) (hj : St.Lev j) (t0 : 0 ≤ t) (t1 : t ≤ 2147483648) (d0 : 0 ≤ d) (d1 : d ≤ 600) (c1 : j ≤ l) :
    Calls Try.prog 15 #[.agg #[.int .i64 l, .int .i64 b], .int .i64 t, .int .i64 j, .int .i64 d] w (GaveC w (j) (-1) 0) := by
  have HV := Lib.hid hv
  have HJ : Hid (decide (St.Lev j) = true) := Lib.hid (decide_eq_true hj)
  obtain ⟨⟨a1, a2⟩, a3, a4, a5⟩ := hv
  obtain ⟨j1, j2⟩ := hj
  have st : ∃ W, ((w.alloc (Obj.cells #[Value.int .i64 l, Value.int .i64 b] 24)).alloc (Obj.cells #[Value.int .i64 0, Value.int .i64 0] 24)) = W ∧ W.cell? ⟨w.heap.size, 0, none⟩ = some (.int .i64 l) ∧ W.cell? ⟨w.heap.size, 1, none⟩ = some (.int .i64 b) ∧
      W.cell? ⟨w.heap.size + 1, 0, none⟩ = some (.int .i64 0) ∧ W.cell? ⟨w.heap.size + 1, 1, none⟩ = some (.int .i64 0) ∧ W.frozen? ⟨w.heap.size, 0, none⟩ = false ∧ W.frozen? ⟨w.heap.size, 1, none⟩ = false ∧ W.frozen? ⟨w.heap.size + 1, 0, none⟩ = false ∧ W.frozen? ⟨w.heap.size + 1, 1, none⟩ = false ∧ Below w.heap.size w W ∧ w.heap.size + 1 < W.heap.size :=
    ⟨_, rfl, by go_simp, by go_simp, by go_simp, by go_simp, by go_simp, by go_simp, by go_simp, by go_simp, ((Below.refl _ _).alloc (Nat.le_refl _) _).alloc (by simp) _, by simp⟩
  clear a5
  go_enter Try.func15, Try.ntmps15
  go_wp2_with (fail)
  obtain ⟨W, hW, s0, s1, s2, s3, z0, z1, z2, z3, sB, sz⟩ := st
  rw [hW]
  clear hW
  refine (stValid_t _ _ _ _ HV.out).mono ?_
  rintro e w1 ⟨rfl, hb⟩
  have sz' := ltB hb sz
  replace z0 := frozenB hb (Nat.lt_trans (Nat.lt_succ_self _) sz) z0
  replace z1 := frozenB hb (Nat.lt_trans (Nat.lt_succ_self _) sz) z1
  replace s0 := cellB hb s0
  replace s1 := cellB hb s1
  replace s2 := cellB hb s2
  replace s3 := cellB hb s3
  replace sB := below_step sB hb
  replace z2 := frozenB hb sz z2
  replace z3 := frozenB hb sz z3
  clear hb
  clear sz W
  go_wp2_with (fail)
  refine (isLevel_eq _ true _ HJ.out).mono ?_
  rintro e w2 ⟨rfl, rfl⟩
  go_wp2_with (fail)
  refine bodyPost_ret (v := .tuple #[.agg #[.int .i64 (j), .int .i64 (-1)], .int .i64 0]) ?_ rfl ⟨rfl, ?_⟩
  · simp [results, Try.results15, go_sem]
    go_simp
  · repeat refine Below.setCell ?_ (by simp) _
    exact sB
set_option maxHeartbeats 1600000 in
theorem stNext_B (l t j d : Int) (w : World) (hv : St.Ok l (-1) t) (hj : St.Lev j) (t0 : 0 ≤ t) (t1 : t ≤ 2147483648) (d0 : 0 ≤ d) (d1 : d ≤ 600) (c1 : ¬ j ≤ l) (c2 : 0 < d) :
    Calls Try.prog 15 #[.agg #[.int .i64 l, .int .i64 (-1)], .int .i64 t, .int .i64 j, .int .i64 d] w (GaveC w (l) (t) 0) := by
  have HV := Lib.hid hv
  have HJ : Hid (decide (St.Lev j) = true) := Lib.hid (decide_eq_true hj)
  obtain ⟨⟨a1, a2⟩, a3, a4, a5⟩ := hv
  obtain ⟨j1, j2⟩ := hj
  have st : ∃ W, ((w.alloc (Obj.cells #[Value.int .i64 l, Value.int .i64 (-1)] 24)).alloc (Obj.cells #[Value.int .i64 0, Value.int .i64 0] 24)) = W ∧ W.cell? ⟨w.heap.size, 0, none⟩ = some (.int .i64 l) ∧ W.cell? ⟨w.heap.size, 1, none⟩ = some (.int .i64 (-1)) ∧
      W.cell? ⟨w.heap.size + 1, 0, none⟩ = some (.int .i64 0) ∧ W.cell? ⟨w.heap.size + 1, 1, none⟩ = some (.int .i64 0) ∧ W.frozen? ⟨w.heap.size, 0, none⟩ = false ∧ W.frozen? ⟨w.heap.size, 1, none⟩ = false ∧ W.frozen? ⟨w.heap.size + 1, 0, none⟩ = false ∧ W.frozen? ⟨w.heap.size + 1, 1, none⟩ = false ∧ Below w.heap.size w W ∧ w.heap.size + 1 < W.heap.size :=
    ⟨_, rfl, by go_simp, by go_simp, by go_simp, by go_simp, by go_simp, by go_simp, by go_simp, by go_simp, ((Below.refl _ _).alloc (Nat.le_refl _) _).alloc (by simp) _, by simp⟩
  clear a5
  go_enter Try.func15, Try.ntmps15
  go_wp2_with (fail)
  obtain ⟨W, hW, s0, s1, s2, s3, z0, z1, z2, z3, sB, sz⟩ := st
  rw [hW]
  clear hW
  refine (stValid_t _ _ _ _ HV.out).mono ?_
  rintro e w1 ⟨rfl, hb⟩
  have sz' := ltB hb sz
  replace z0 := frozenB hb (Nat.lt_trans (Nat.lt_succ_self _) sz) z0
  replace z1 := frozenB hb (Nat.lt_trans (Nat.lt_succ_self _) sz) z1
  replace s0 := cellB hb s0
  replace s1 := cellB hb s1
  replace s2 := cellB hb s2
  replace s3 := cellB hb s3
  replace sB := below_step sB hb
  replace z2 := frozenB hb sz z2
  replace z3 := frozenB hb sz z3
  clear hb
  clear sz W
  go_wp2_with (fail)
  refine (isLevel_eq _ true _ HJ.out).mono ?_
  rintro e w2 ⟨rfl, rfl⟩
  go_wp2_with (fail)
  refine bodyPost_ret (v := .tuple #[.agg #[.int .i64 (l), .int .i64 (t)], .int .i64 0]) ?_ rfl ⟨rfl, ?_⟩
  · simp [results, Try.results15, go_sem]
    go_simp
  · repeat refine Below.setCell ?_ (by simp) _
    exact sB
set_option maxHeartbeats 1600000 in
theorem stNext_C (l t j d : Int) (w : World) (hv : St.Ok l (-1) t) (hj : St.Lev j) (t0 : 0 ≤ t) (t1 : t ≤ 2147483648) (d0 : 0 ≤ d) (d1 : d ≤ 600) (c2 : ¬ 0 < d) (c3 : j = l + 1) :
    Calls Try.prog 15 #[.agg #[.int .i64 l, .int .i64 (-1)], .int .i64 t, .int .i64 j, .int .i64 d] w (GaveC w (l + 1) (-1) 0) := by
  have c1 : ¬ j ≤ l := by omega
  have c4 : (j == l + 1) = true := by simpa using c3
  clear c3
  have HV := Lib.hid hv
  have HJ : Hid (decide (St.Lev j) = true) := Lib.hid (decide_eq_true hj)
  obtain ⟨⟨a1, a2⟩, a3, a4, a5⟩ := hv
  obtain ⟨j1, j2⟩ := hj
  have st : ∃ W, ((w.alloc (Obj.cells #[Value.int .i64 l, Value.int .i64 (-1)] 24)).alloc (Obj.cells #[Value.int .i64 0, Value.int .i64 0] 24)) = W ∧ W.cell? ⟨w.heap.size, 0, none⟩ = some (.int .i64 l) ∧ W.cell? ⟨w.heap.size, 1, none⟩ = some (.int .i64 (-1)) ∧
      W.cell? ⟨w.heap.size + 1, 0, none⟩ = some (.int .i64 0) ∧ W.cell? ⟨w.heap.size + 1, 1, none⟩ = some (.int .i64 0) ∧ W.frozen? ⟨w.heap.size, 0, none⟩ = false ∧ W.frozen? ⟨w.heap.size, 1, none⟩ = false ∧ W.frozen? ⟨w.heap.size + 1, 0, none⟩ = false ∧ W.frozen? ⟨w.heap.size + 1, 1, none⟩ = false ∧ Below w.heap.size w W ∧ w.heap.size + 1 < W.heap.size :=
    ⟨_, rfl, by go_simp, by go_simp, by go_simp, by go_simp, by go_simp, by go_simp, by go_simp, by go_simp, ((Below.refl _ _).alloc (Nat.le_refl _) _).alloc (by simp) _, by simp⟩
  clear a5
  go_enter Try.func15, Try.ntmps15
  go_wp2_with (fail)
  obtain ⟨W, hW, s0, s1, s2, s3, z0, z1, z2, z3, sB, sz⟩ := st
  rw [hW]
  clear hW
  refine (stValid_t _ _ _ _ HV.out).mono ?_
  rintro e w1 ⟨rfl, hb⟩
  have sz' := ltB hb sz
  replace z0 := frozenB hb (Nat.lt_trans (Nat.lt_succ_self _) sz) z0
  replace z1 := frozenB hb (Nat.lt_trans (Nat.lt_succ_self _) sz) z1
  replace s0 := cellB hb s0
  replace s1 := cellB hb s1
  replace s2 := cellB hb s2
  replace s3 := cellB hb s3
  replace sB := below_step sB hb
  replace z2 := frozenB hb sz z2
  replace z3 := frozenB hb sz z3
  clear hb
  clear sz W
  have f1 : ((((w1.setCell ⟨w.heap.size, 1, none⟩ (.int .i64 t)).setCell ⟨w.heap.size, 0, none⟩ (.int .i64 (l + 1))).setCell ⟨w.heap.size, 1, none⟩ (.int .i64 t)).setCell ⟨w.heap.size, 1, none⟩ (.int .i64 (-1))).cell? ⟨w.heap.size, 1, none⟩ = some (.int .i64 (-1)) := World.cell?_setCell_same _ _ _ (World.cell?_setCell_same _ _ _ (setO _ (World.cell?_setCell_same _ _ _ s1) (by decide)))
  go_wp2_with (fail)
  refine (isLevel_eq _ true _ HJ.out).mono ?_
  rintro e w2 ⟨rfl, rfl⟩
  go_wp2_with (fail)
  refine bodyPost_ret (v := .tuple #[.agg #[.int .i64 (l + 1), .int .i64 (-1)], .int .i64 0]) ?_ rfl ⟨rfl, ?_⟩
  · simp [results, Try.results15, go_sem]
    go_simp
  · repeat refine Below.setCell ?_ (by simp) _
    exact sB
set_option maxHeartbeats 1600000 in
theorem stNext_D (l t j d : Int) (w : World) (hv : St.Ok l (-1) t) (hj : St.Lev j) (t0 : 0 ≤ t) (t1 : t ≤ 2147483648) (d0 : 0 ≤ d) (d1 : d ≤ 600) (c1 : ¬ j ≤ l) (c2 : ¬ 0 < d) (c3 : ¬ j = l + 1) :
    Calls Try.prog 15 #[.agg #[.int .i64 l, .int .i64 (-1)], .int .i64 t, .int .i64 j, .int .i64 d] w (GaveC w (l + 1) (t) 0) := by
  have c4 : (j == l + 1) = false := by simpa using c3
  have HV := Lib.hid hv
  have HJ : Hid (decide (St.Lev j) = true) := Lib.hid (decide_eq_true hj)
  obtain ⟨⟨a1, a2⟩, a3, a4, a5⟩ := hv
  obtain ⟨j1, j2⟩ := hj
  have st : ∃ W, ((w.alloc (Obj.cells #[Value.int .i64 l, Value.int .i64 (-1)] 24)).alloc (Obj.cells #[Value.int .i64 0, Value.int .i64 0] 24)) = W ∧ W.cell? ⟨w.heap.size, 0, none⟩ = some (.int .i64 l) ∧ W.cell? ⟨w.heap.size, 1, none⟩ = some (.int .i64 (-1)) ∧
      W.cell? ⟨w.heap.size + 1, 0, none⟩ = some (.int .i64 0) ∧ W.cell? ⟨w.heap.size + 1, 1, none⟩ = some (.int .i64 0) ∧ W.frozen? ⟨w.heap.size, 0, none⟩ = false ∧ W.frozen? ⟨w.heap.size, 1, none⟩ = false ∧ W.frozen? ⟨w.heap.size + 1, 0, none⟩ = false ∧ W.frozen? ⟨w.heap.size + 1, 1, none⟩ = false ∧ Below w.heap.size w W ∧ w.heap.size + 1 < W.heap.size :=
    ⟨_, rfl, by go_simp, by go_simp, by go_simp, by go_simp, by go_simp, by go_simp, by go_simp, by go_simp, ((Below.refl _ _).alloc (Nat.le_refl _) _).alloc (by simp) _, by simp⟩
  clear a5
  go_enter Try.func15, Try.ntmps15
  go_wp2_with (fail)
  obtain ⟨W, hW, s0, s1, s2, s3, z0, z1, z2, z3, sB, sz⟩ := st
  rw [hW]
  clear hW
  refine (stValid_t _ _ _ _ HV.out).mono ?_
  rintro e w1 ⟨rfl, hb⟩
  have sz' := ltB hb sz
  replace z0 := frozenB hb (Nat.lt_trans (Nat.lt_succ_self _) sz) z0
  replace z1 := frozenB hb (Nat.lt_trans (Nat.lt_succ_self _) sz) z1
  replace s0 := cellB hb s0
  replace s1 := cellB hb s1
  replace s2 := cellB hb s2
  replace s3 := cellB hb s3
  replace sB := below_step sB hb
  replace z2 := frozenB hb sz z2
  replace z3 := frozenB hb sz z3
  clear hb
  clear sz W
  go_wp2_with (fail)
  refine (isLevel_eq _ true _ HJ.out).mono ?_
  rintro e w2 ⟨rfl, rfl⟩
  go_wp2_with (fail)
  refine bodyPost_ret (v := .tuple #[.agg #[.int .i64 (l + 1), .int .i64 (t)], .int .i64 0]) ?_ rfl ⟨rfl, ?_⟩
  · simp [results, Try.results15, go_sem]
    go_simp
  · repeat refine Below.setCell ?_ (by simp) _
    exact sB
end Go.Proofs.Ytjmmkphdomiohab
