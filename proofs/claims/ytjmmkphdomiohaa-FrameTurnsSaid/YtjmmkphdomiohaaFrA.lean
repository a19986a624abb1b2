/- Valid, Add, Sub, Box and Distance of package frame: what each call returns. -/
import Derived.Test.YtjmmkphdomiohaaFrMath
import Derived.Test.YtjmmkphdomiohaaKit2
import Derived.Test.YtjmmkphdomiohaaSteady
import Derived.Test.YtjmmkphdomiohaaARoot
namespace Go.Proofs.Ytjmmkphdomiohaa
open Go.RowKit
set_option maxHeartbeats 400000 in
theorem near_in (g : Nat) (x y : Int) (q : Bool) (w : World) (h0 : w.cell? ⟨g, 0, none⟩ = some (.int .i64 x)) (h1 : w.cell? ⟨g, 1, none⟩ = some (.int .i64 y)) (hq : Fr.valid x y = q) :
    Calls Try.prog 69 #[.slice (some ⟨g, 0, none⟩) 2 2] w fun e w' => e = .returned (.bool q) ∧ w = w' := by
  subst hq
  have H : Hid (Fr.valid x y = decide ((-100000000 ≤ x ∧ x ≤ 100000000) ∧ (-100000000 ≤ y ∧ y ≤ 100000000))) := Lib.hid rfl
  by_cases k : (-100000000 ≤ x ∧ x ≤ 100000000) ∧ (-100000000 ≤ y ∧ y ≤ 100000000)
  · have H1 : Hid (Fr.valid x y = true) := Lib.hid (by rw [H.out]; exact decide_eq_true k)
    obtain ⟨⟨a, b⟩, c, d⟩ := k
    clear H
    go_enter Try.func69, Try.ntmps69
    go_wp2_with (fail)
    go_rounds 3
    go_ret
    exact ⟨retb H1.out.symm, rfl⟩
  · have H1 : Hid (Fr.valid x y = false) := Lib.hid (by rw [H.out]; exact decide_eq_false k)
    clear H
    go_enter Try.func69, Try.ntmps69
    go_wp2_with (fail)
    go_rounds 3
    all_goals first | (exfalso; omega) | (go_ret; exact ⟨retb H1.out.symm, rfl⟩)
set_option maxHeartbeats 400000 in
theorem fvalid_eq (x y : Int) (q : Bool) (w : World) (hq : Fr.valid x y = q) :
    Calls Try.prog 43 #[.agg #[.int .i64 x, .int .i64 y]] w fun e w' => e = .returned (.bool q) ∧ Below w.heap.size w w' := by
  have H := Lib.hid hq
  clear hq
  go_enter Try.func43, Try.ntmps43
  go_wp2_with (fail)
  refine (near_in _ x y q _ ?_ ?_ H.out).mono ?_
  · go_simp
  · go_simp
  rintro e w' ⟨rfl, rfl⟩
  go_wp2_with (fail)
  go_ret
  exact ⟨rfl, ((Below.refl _ _).alloc (Nat.le_refl _) _).alloc (by simp) _⟩
/-- what a call that returns a point and an error has returned -/
def GaveP (w : World) (x y r : Int) (e : Ending) (w' : World) : Prop := e = .returned (.tuple #[.agg #[.int .i64 x, .int .i64 y], .int .i64 r]) ∧ Below w.heap.size w w'
set_option maxHeartbeats 400000 in
theorem checked_calls (x y : Int) (w : World) :
    Calls Try.prog 67 #[.agg #[.int .i64 x, .int .i64 y]] w (GaveP w (if Fr.Ok x ∧ Fr.Ok y then x else 0) (if Fr.Ok x ∧ Fr.Ok y then y else 0) (Fr.err (Fr.Ok x ∧ Fr.Ok y))) := by
  have st : ∃ W, ((w.alloc (Obj.cells #[Value.int .i64 x, Value.int .i64 y] 51)).alloc (Obj.cells #[Value.int .i64 0, Value.int .i64 0] 51)) = W ∧ W.cell? ⟨w.heap.size, 0, none⟩ = some (.int .i64 x) ∧ W.cell? ⟨w.heap.size, 1, none⟩ = some (.int .i64 y) ∧
      W.cell? ⟨w.heap.size + 1, 0, none⟩ = some (.int .i64 0) ∧ W.cell? ⟨w.heap.size + 1, 1, none⟩ = some (.int .i64 0) ∧ W.frozen? ⟨w.heap.size + 1, 0, none⟩ = false ∧ W.frozen? ⟨w.heap.size + 1, 1, none⟩ = false ∧ Below w.heap.size w W ∧ w.heap.size + 1 < W.heap.size :=
    ⟨_, rfl, by go_simp, by go_simp, by go_simp, by go_simp, by go_simp, by go_simp, ((Below.refl _ _).alloc (Nat.le_refl _) _).alloc (by simp) _, by simp⟩
  by_cases k : Fr.Ok x ∧ Fr.Ok y
  · skip
    have HV : Hid (Fr.valid x y = true) := Lib.hid (decide_eq_true k)
    have HE : Hid (Fr.err (Fr.Ok x ∧ Fr.Ok y) = 0) := Lib.hid (by unfold Fr.err; rw [if_pos k])
    rw [if_pos k, if_pos k, HE.out]
    clear k HE
    go_enter Try.func67, Try.ntmps67
    go_wp2_with (fail)
    obtain ⟨W, hW, s0, s1, s2, s3, z0, z1, sB, sz⟩ := st
    rw [hW]
    clear hW
    refine (fvalid_eq _ _ true _ HV.out).mono ?_
    rintro e w1 ⟨rfl, hb⟩
    have t0 := cellB hb s0
    have t1 := cellB hb s1
    have t2 := cellB hb s2
    have t3 := cellB hb s3
    have y0 := frozenB hb sz z0
    have y1 := frozenB hb sz z1
    have sB1 := below_step sB hb
    clear s0 s1 s2 s3 z0 z1 sB hb sz W
    go_wp2_with (fail)
    obtain ⟨e0, e1⟩ := set2 (.int .i64 x) (.int .i64 y) t2 t3
    exact bodyPost_ret (v := .tuple #[.agg #[.int .i64 x, .int .i64 y], .int .i64 0]) (by simp [results, Try.results67, go_sem, e0, e1]) rfl ⟨rfl, (sB1.setCell (by simp) _).setCell (by simp) _⟩
  · skip
    have HV : Hid (Fr.valid x y = false) := Lib.hid (decide_eq_false k)
    have HE : Hid (Fr.err (Fr.Ok x ∧ Fr.Ok y) = 1) := Lib.hid (by unfold Fr.err; rw [if_neg k])
    rw [if_neg k, if_neg k, HE.out]
    clear k HE
    go_enter Try.func67, Try.ntmps67
    go_wp2_with (fail)
    obtain ⟨W, hW, s0, s1, s2, s3, z0, z1, sB, sz⟩ := st
    rw [hW]
    clear hW
    refine (fvalid_eq _ _ false _ HV.out).mono ?_
    rintro e w1 ⟨rfl, hb⟩
    have t0 := cellB hb s0
    have t1 := cellB hb s1
    have t2 := cellB hb s2
    have t3 := cellB hb s3
    have y0 := frozenB hb sz z0
    have y1 := frozenB hb sz z1
    have sB1 := below_step sB hb
    clear s0 s1 s2 s3 z0 z1 sB hb sz W
    go_wp2_with (fail)
    obtain ⟨e0, e1⟩ := set2 (.int .i64 0) (.int .i64 0) t2 t3
    exact bodyPost_ret (v := .tuple #[.agg #[.int .i64 0, .int .i64 0], .int .i64 1]) (by simp [results, Try.results67, go_sem, e0, e1]) rfl ⟨rfl, (sB1.setCell (by simp) _).setCell (by simp) _⟩
set_option maxHeartbeats 800000 in
theorem add_calls (a b c d : Int) (w : World) :
    Calls Try.prog 40 #[.agg #[.int .i64 a, .int .i64 b], .agg #[.int .i64 c, .int .i64 d]] w (GaveP w (if Fr.Sum a b c d then a + c else 0) (if Fr.Sum a b c d then b + d else 0) (Fr.err (Fr.Sum a b c d))) := by
  have st : ∃ W, (((w.alloc (Obj.cells #[Value.int .i64 a, Value.int .i64 b] 51)).alloc (Obj.cells #[Value.int .i64 c, Value.int .i64 d] 51)).alloc (Obj.cells #[Value.int .i64 0, Value.int .i64 0] 51)) = W ∧ W.cell? ⟨w.heap.size, 0, none⟩ = some (.int .i64 a) ∧ W.cell? ⟨w.heap.size, 1, none⟩ = some (.int .i64 b) ∧
      W.cell? ⟨w.heap.size + 1, 0, none⟩ = some (.int .i64 c) ∧ W.cell? ⟨w.heap.size + 1, 1, none⟩ = some (.int .i64 d) ∧ W.cell? ⟨w.heap.size + 1 + 1, 0, none⟩ = some (.int .i64 0) ∧ W.cell? ⟨w.heap.size + 1 + 1, 1, none⟩ = some (.int .i64 0) ∧
      W.frozen? ⟨w.heap.size + 1 + 1, 0, none⟩ = false ∧ W.frozen? ⟨w.heap.size + 1 + 1, 1, none⟩ = false ∧ Below w.heap.size w W ∧ w.heap.size + 1 + 1 < W.heap.size :=
    ⟨_, rfl, by go_simp, by go_simp, by go_simp, by go_simp, by go_simp, by go_simp, by go_simp, by go_simp, (((Below.refl _ _).alloc (Nat.le_refl _) _).alloc (by simp) _).alloc (by simp; omega) _, by simp⟩
  by_cases k1 : Fr.Ok a ∧ Fr.Ok b
  · have HV : Hid (Fr.valid a b = true) := Lib.hid (decide_eq_true k1)
    by_cases k2 : Fr.Ok c ∧ Fr.Ok d
    · have HV2 : Hid (Fr.valid c d = true) := Lib.hid (decide_eq_true k2)
      have E : Hid (∀ u v : Int, (if Fr.Sum a b c d then u else v) = if Fr.Ok (a + c) ∧ Fr.Ok (b + d) then u else v) := Lib.hid (fun u v => by
        by_cases k : Fr.Ok (a + c) ∧ Fr.Ok (b + d)
        · rw [if_pos k, if_pos ⟨⟨k1, k2⟩, k⟩]
        · rw [if_neg k, if_neg (fun h => k h.2)])
      have X : Hid (Fr.err (Fr.Sum a b c d) = Fr.err (Fr.Ok (a + c) ∧ Fr.Ok (b + d))) := Lib.hid (by
        unfold Fr.err
        exact E.out 0 1)
      rw [E.out, E.out, X.out]
      have B : (-100000000 ≤ a ∧ a ≤ 100000000) ∧ (-100000000 ≤ b ∧ b ≤ 100000000) ∧ (-100000000 ≤ c ∧ c ≤ 100000000) ∧ (-100000000 ≤ d ∧ d ≤ 100000000) := ⟨k1.1, k1.2, k2.1, k2.2⟩
      obtain ⟨⟨a0, a1⟩, ⟨b0, b1⟩, ⟨c0, c1⟩, d0, d1⟩ := B
      have CK : ∀ w, Calls Try.prog 67 #[.agg #[.int .i64 (a + c), .int .i64 (b + d)]] w (GaveP w (if Fr.Ok (a + c) ∧ Fr.Ok (b + d) then a + c else 0) (if Fr.Ok (a + c) ∧ Fr.Ok (b + d) then b + d else 0) (Fr.err (Fr.Ok (a + c) ∧ Fr.Ok (b + d)))) := fun w => checked_calls _ _ w
      generalize (if Fr.Ok (a + c) ∧ Fr.Ok (b + d) then a + c else 0) = u at CK ⊢
      generalize (if Fr.Ok (a + c) ∧ Fr.Ok (b + d) then b + d else 0) = v at CK ⊢
      generalize (Fr.err (Fr.Ok (a + c) ∧ Fr.Ok (b + d))) = r at CK ⊢
      have HCK := Lib.hid CK
      clear CK
      clear k1 k2 E X
      go_enter Try.func40, Try.ntmps40
      go_wp2_with (fail)
      obtain ⟨W, hW, s0, s1, s2, s3, s4, s5, z0, z1, sB, sz⟩ := st
      rw [hW]
      clear hW
      refine (fvalid_eq _ _ true _ HV.out).mono ?_
      rintro e w1 ⟨rfl, hb⟩
      replace s0 := cellB hb s0
      replace s1 := cellB hb s1
      replace s2 := cellB hb s2
      replace s3 := cellB hb s3
      replace s4 := cellB hb s4
      replace s5 := cellB hb s5
      replace z0 := frozenB hb sz z0
      replace z1 := frozenB hb sz z1
      replace sB := below_step sB hb
      replace sz := ltB hb sz
      clear hb
      go_wp2_with (fail)
      refine (fvalid_eq _ _ true _ HV2.out).mono ?_
      rintro e w2 ⟨rfl, hb⟩
      replace s0 := cellB hb s0
      replace s1 := cellB hb s1
      replace s2 := cellB hb s2
      replace s3 := cellB hb s3
      replace s4 := cellB hb s4
      replace s5 := cellB hb s5
      replace z0 := frozenB hb sz z0
      replace z1 := frozenB hb sz z1
      replace sB := below_step sB hb
      replace sz := ltB hb sz
      clear hb
      go_wp2_with (fail)
      refine (HCK.out _).mono ?_
      rintro e w3 ⟨rfl, hb⟩
      replace s0 := cellB hb s0
      replace s1 := cellB hb s1
      replace s2 := cellB hb s2
      replace s3 := cellB hb s3
      replace s4 := cellB hb s4
      replace s5 := cellB hb s5
      replace z0 := frozenB hb sz z0
      replace z1 := frozenB hb sz z1
      replace sB := below_step sB hb
      replace sz := ltB hb sz
      clear hb
      go_wp2_with (fail)
      obtain ⟨e0, e1⟩ := set2 (.int .i64 u) (.int .i64 v) s4 s5
      exact bodyPost_ret (v := .tuple #[.agg #[.int .i64 u, .int .i64 v], .int .i64 r]) (by simp [results, Try.results40, go_sem, e0, e1]) rfl ⟨rfl, (sB.setCell (by simp; omega) _).setCell (by simp; omega) _⟩
    · have HV2 : Hid (Fr.valid c d = false) := Lib.hid (decide_eq_false k2)
      have k : ¬ Fr.Sum a b c d := fun h => k2 h.1.2
      have X : Hid (Fr.err (Fr.Sum a b c d) = 1) := Lib.hid (by unfold Fr.err; rw [if_neg k])
      rw [if_neg k, if_neg k, X.out]
      clear k1 k2 k X
      go_enter Try.func40, Try.ntmps40
      go_wp2_with (fail)
      obtain ⟨W, hW, s0, s1, s2, s3, s4, s5, z0, z1, sB, sz⟩ := st
      rw [hW]
      clear hW
      refine (fvalid_eq _ _ true _ HV.out).mono ?_
      rintro e w1 ⟨rfl, hb⟩
      replace s0 := cellB hb s0
      replace s1 := cellB hb s1
      replace s2 := cellB hb s2
      replace s3 := cellB hb s3
      replace s4 := cellB hb s4
      replace s5 := cellB hb s5
      replace z0 := frozenB hb sz z0
      replace z1 := frozenB hb sz z1
      replace sB := below_step sB hb
      replace sz := ltB hb sz
      clear hb
      go_wp2_with (fail)
      refine (fvalid_eq _ _ false _ HV2.out).mono ?_
      rintro e w2 ⟨rfl, hb⟩
      replace s0 := cellB hb s0
      replace s1 := cellB hb s1
      replace s2 := cellB hb s2
      replace s3 := cellB hb s3
      replace s4 := cellB hb s4
      replace s5 := cellB hb s5
      replace z0 := frozenB hb sz z0
      replace z1 := frozenB hb sz z1
      replace sB := below_step sB hb
      replace sz := ltB hb sz
      clear hb
      go_wp2_with (fail)
      obtain ⟨e0, e1⟩ := set2 (.int .i64 0) (.int .i64 0) s4 s5
      exact bodyPost_ret (v := .tuple #[.agg #[.int .i64 0, .int .i64 0], .int .i64 1]) (by simp [results, Try.results40, go_sem, e0, e1]) rfl ⟨rfl, (sB.setCell (by simp; omega) _).setCell (by simp; omega) _⟩
  · have HV : Hid (Fr.valid a b = false) := Lib.hid (decide_eq_false k1)
    have k : ¬ Fr.Sum a b c d := fun h => k1 h.1.1
    have X : Hid (Fr.err (Fr.Sum a b c d) = 1) := Lib.hid (by unfold Fr.err; rw [if_neg k])
    rw [if_neg k, if_neg k, X.out]
    clear k1 k X
    go_enter Try.func40, Try.ntmps40
    go_wp2_with (fail)
    obtain ⟨W, hW, s0, s1, s2, s3, s4, s5, z0, z1, sB, sz⟩ := st
    rw [hW]
    clear hW
    refine (fvalid_eq _ _ false _ HV.out).mono ?_
    rintro e w1 ⟨rfl, hb⟩
    replace s0 := cellB hb s0
    replace s1 := cellB hb s1
    replace s2 := cellB hb s2
    replace s3 := cellB hb s3
    replace s4 := cellB hb s4
    replace s5 := cellB hb s5
    replace z0 := frozenB hb sz z0
    replace z1 := frozenB hb sz z1
    replace sB := below_step sB hb
    replace sz := ltB hb sz
    clear hb
    go_wp2_with (fail)
    obtain ⟨e0, e1⟩ := set2 (.int .i64 0) (.int .i64 0) s4 s5
    exact bodyPost_ret (v := .tuple #[.agg #[.int .i64 0, .int .i64 0], .int .i64 1]) (by simp [results, Try.results40, go_sem, e0, e1]) rfl ⟨rfl, (sB.setCell (by simp; omega) _).setCell (by simp; omega) _⟩
set_option maxHeartbeats 800000 in
theorem sub_calls (a b c d : Int) (w : World) :
    Calls Try.prog 46 #[.agg #[.int .i64 a, .int .i64 b], .agg #[.int .i64 c, .int .i64 d]] w (GaveP w (if Fr.Dif a b c d then a - c else 0) (if Fr.Dif a b c d then b - d else 0) (Fr.err (Fr.Dif a b c d))) := by
  have st : ∃ W, (((w.alloc (Obj.cells #[Value.int .i64 a, Value.int .i64 b] 51)).alloc (Obj.cells #[Value.int .i64 c, Value.int .i64 d] 51)).alloc (Obj.cells #[Value.int .i64 0, Value.int .i64 0] 51)) = W ∧ W.cell? ⟨w.heap.size, 0, none⟩ = some (.int .i64 a) ∧ W.cell? ⟨w.heap.size, 1, none⟩ = some (.int .i64 b) ∧
      W.cell? ⟨w.heap.size + 1, 0, none⟩ = some (.int .i64 c) ∧ W.cell? ⟨w.heap.size + 1, 1, none⟩ = some (.int .i64 d) ∧ W.cell? ⟨w.heap.size + 1 + 1, 0, none⟩ = some (.int .i64 0) ∧ W.cell? ⟨w.heap.size + 1 + 1, 1, none⟩ = some (.int .i64 0) ∧
      W.frozen? ⟨w.heap.size + 1 + 1, 0, none⟩ = false ∧ W.frozen? ⟨w.heap.size + 1 + 1, 1, none⟩ = false ∧ Below w.heap.size w W ∧ w.heap.size + 1 + 1 < W.heap.size :=
    ⟨_, rfl, by go_simp, by go_simp, by go_simp, by go_simp, by go_simp, by go_simp, by go_simp, by go_simp, (((Below.refl _ _).alloc (Nat.le_refl _) _).alloc (by simp) _).alloc (by simp; omega) _, by simp⟩
  by_cases k1 : Fr.Ok a ∧ Fr.Ok b
  · have HV : Hid (Fr.valid a b = true) := Lib.hid (decide_eq_true k1)
    by_cases k2 : Fr.Ok c ∧ Fr.Ok d
    · have HV2 : Hid (Fr.valid c d = true) := Lib.hid (decide_eq_true k2)
      have E : Hid (∀ u v : Int, (if Fr.Dif a b c d then u else v) = if Fr.Ok (a - c) ∧ Fr.Ok (b - d) then u else v) := Lib.hid (fun u v => by
        by_cases k : Fr.Ok (a - c) ∧ Fr.Ok (b - d)
        · rw [if_pos k, if_pos ⟨⟨k1, k2⟩, k⟩]
        · rw [if_neg k, if_neg (fun h => k h.2)])
      have X : Hid (Fr.err (Fr.Dif a b c d) = Fr.err (Fr.Ok (a - c) ∧ Fr.Ok (b - d))) := Lib.hid (by
        unfold Fr.err
        exact E.out 0 1)
      rw [E.out, E.out, X.out]
      have B : (-100000000 ≤ a ∧ a ≤ 100000000) ∧ (-100000000 ≤ b ∧ b ≤ 100000000) ∧ (-100000000 ≤ c ∧ c ≤ 100000000) ∧ (-100000000 ≤ d ∧ d ≤ 100000000) := ⟨k1.1, k1.2, k2.1, k2.2⟩
      obtain ⟨⟨a0, a1⟩, ⟨b0, b1⟩, ⟨c0, c1⟩, d0, d1⟩ := B
      have CK : ∀ w, Calls Try.prog 67 #[.agg #[.int .i64 (a - c), .int .i64 (b - d)]] w (GaveP w (if Fr.Ok (a - c) ∧ Fr.Ok (b - d) then a - c else 0) (if Fr.Ok (a - c) ∧ Fr.Ok (b - d) then b - d else 0) (Fr.err (Fr.Ok (a - c) ∧ Fr.Ok (b - d)))) := fun w => checked_calls _ _ w
      generalize (if Fr.Ok (a - c) ∧ Fr.Ok (b - d) then a - c else 0) = u at CK ⊢
      generalize (if Fr.Ok (a - c) ∧ Fr.Ok (b - d) then b - d else 0) = v at CK ⊢
      generalize (Fr.err (Fr.Ok (a - c) ∧ Fr.Ok (b - d))) = r at CK ⊢
      have HCK := Lib.hid CK
      clear CK
      clear k1 k2 E X
      go_enter Try.func46, Try.ntmps46
      go_wp2_with (fail)
      obtain ⟨W, hW, s0, s1, s2, s3, s4, s5, z0, z1, sB, sz⟩ := st
      rw [hW]
      clear hW
      refine (fvalid_eq _ _ true _ HV.out).mono ?_
      rintro e w1 ⟨rfl, hb⟩
      replace s0 := cellB hb s0
      replace s1 := cellB hb s1
      replace s2 := cellB hb s2
      replace s3 := cellB hb s3
      replace s4 := cellB hb s4
      replace s5 := cellB hb s5
      replace z0 := frozenB hb sz z0
      replace z1 := frozenB hb sz z1
      replace sB := below_step sB hb
      replace sz := ltB hb sz
      clear hb
      go_wp2_with (fail)
      refine (fvalid_eq _ _ true _ HV2.out).mono ?_
      rintro e w2 ⟨rfl, hb⟩
      replace s0 := cellB hb s0
      replace s1 := cellB hb s1
      replace s2 := cellB hb s2
      replace s3 := cellB hb s3
      replace s4 := cellB hb s4
      replace s5 := cellB hb s5
      replace z0 := frozenB hb sz z0
      replace z1 := frozenB hb sz z1
      replace sB := below_step sB hb
      replace sz := ltB hb sz
      clear hb
      go_wp2_with (fail)
      refine (HCK.out _).mono ?_
      rintro e w3 ⟨rfl, hb⟩
      replace s0 := cellB hb s0
      replace s1 := cellB hb s1
      replace s2 := cellB hb s2
      replace s3 := cellB hb s3
      replace s4 := cellB hb s4
      replace s5 := cellB hb s5
      replace z0 := frozenB hb sz z0
      replace z1 := frozenB hb sz z1
      replace sB := below_step sB hb
      replace sz := ltB hb sz
      clear hb
      go_wp2_with (fail)
      obtain ⟨e0, e1⟩ := set2 (.int .i64 u) (.int .i64 v) s4 s5
      exact bodyPost_ret (v := .tuple #[.agg #[.int .i64 u, .int .i64 v], .int .i64 r]) (by simp [results, Try.results46, go_sem, e0, e1]) rfl ⟨rfl, (sB.setCell (by simp; omega) _).setCell (by simp; omega) _⟩
    · have HV2 : Hid (Fr.valid c d = false) := Lib.hid (decide_eq_false k2)
      have k : ¬ Fr.Dif a b c d := fun h => k2 h.1.2
      have X : Hid (Fr.err (Fr.Dif a b c d) = 1) := Lib.hid (by unfold Fr.err; rw [if_neg k])
      rw [if_neg k, if_neg k, X.out]
      clear k1 k2 k X
      go_enter Try.func46, Try.ntmps46
      go_wp2_with (fail)
      obtain ⟨W, hW, s0, s1, s2, s3, s4, s5, z0, z1, sB, sz⟩ := st
      rw [hW]
      clear hW
      refine (fvalid_eq _ _ true _ HV.out).mono ?_
      rintro e w1 ⟨rfl, hb⟩
      replace s0 := cellB hb s0
      replace s1 := cellB hb s1
      replace s2 := cellB hb s2
      replace s3 := cellB hb s3
      replace s4 := cellB hb s4
      replace s5 := cellB hb s5
      replace z0 := frozenB hb sz z0
      replace z1 := frozenB hb sz z1
      replace sB := below_step sB hb
      replace sz := ltB hb sz
      clear hb
      go_wp2_with (fail)
      refine (fvalid_eq _ _ false _ HV2.out).mono ?_
      rintro e w2 ⟨rfl, hb⟩
      replace s0 := cellB hb s0
      replace s1 := cellB hb s1
      replace s2 := cellB hb s2
      replace s3 := cellB hb s3
      replace s4 := cellB hb s4
      replace s5 := cellB hb s5
      replace z0 := frozenB hb sz z0
      replace z1 := frozenB hb sz z1
      replace sB := below_step sB hb
      replace sz := ltB hb sz
      clear hb
      go_wp2_with (fail)
      obtain ⟨e0, e1⟩ := set2 (.int .i64 0) (.int .i64 0) s4 s5
      exact bodyPost_ret (v := .tuple #[.agg #[.int .i64 0, .int .i64 0], .int .i64 1]) (by simp [results, Try.results46, go_sem, e0, e1]) rfl ⟨rfl, (sB.setCell (by simp; omega) _).setCell (by simp; omega) _⟩
  · have HV : Hid (Fr.valid a b = false) := Lib.hid (decide_eq_false k1)
    have k : ¬ Fr.Dif a b c d := fun h => k1 h.1.1
    have X : Hid (Fr.err (Fr.Dif a b c d) = 1) := Lib.hid (by unfold Fr.err; rw [if_neg k])
    rw [if_neg k, if_neg k, X.out]
    clear k1 k X
    go_enter Try.func46, Try.ntmps46
    go_wp2_with (fail)
    obtain ⟨W, hW, s0, s1, s2, s3, s4, s5, z0, z1, sB, sz⟩ := st
    rw [hW]
    clear hW
    refine (fvalid_eq _ _ false _ HV.out).mono ?_
    rintro e w1 ⟨rfl, hb⟩
    replace s0 := cellB hb s0
    replace s1 := cellB hb s1
    replace s2 := cellB hb s2
    replace s3 := cellB hb s3
    replace s4 := cellB hb s4
    replace s5 := cellB hb s5
    replace z0 := frozenB hb sz z0
    replace z1 := frozenB hb sz z1
    replace sB := below_step sB hb
    replace sz := ltB hb sz
    clear hb
    go_wp2_with (fail)
    obtain ⟨e0, e1⟩ := set2 (.int .i64 0) (.int .i64 0) s4 s5
    exact bodyPost_ret (v := .tuple #[.agg #[.int .i64 0, .int .i64 0], .int .i64 1]) (by simp [results, Try.results46, go_sem, e0, e1]) rfl ⟨rfl, (sB.setCell (by simp; omega) _).setCell (by simp; omega) _⟩
end Go.Proofs.Ytjmmkphdomiohaa
