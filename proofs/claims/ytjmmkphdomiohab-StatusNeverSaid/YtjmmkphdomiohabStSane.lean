/- The example of the chapter of status. -/
import Derived.Test.YtjmmkphdomiohabStRun
import Derived.Test.YtjmmkphdomiohabStJ
import Derived.Test.YtjmmkphdomiohabInts
namespace Go.Proofs.Ytjmmkphdomiohab
open Go.RowKit
theorem stRun_sane (w : World) :
    Calls Try.prog 20 #[.slice (some ⟨w.heap.size, 0, none⟩) 5 5, .int .i64 2] (w.alloc (.cells #[.int .i64 3, .int .i64 3, .int .i64 3, .int .i64 3, .int .i64 3] 3)) fun e w' =>
      ∃ g, e = .returned (.tuple #[.slice (some ⟨g, 0, none⟩) 5 5, .int .i64 0]) ∧ IntsIn w' w'.heap.size (.slice (some ⟨g, 0, none⟩) 5 5) .i64 [1, 1, 2, 2, 3] ∧ Below w.heap.size w w' := by
  refine (stRun_calls _ [3, 3, 3, 3, 3] 2 _ ((intsIn_new w [3, 3, 3, 3, 3] 3 (by decide)).more (by simp)) (by decide) (by decide) (by decide) (by decide)).mono ?_
  rintro e w1 ⟨g, hg, rfl, ho, hb⟩
  refine ⟨g, rfl, ?_, below_step ((Below.refl _ _).alloc (Nat.le_refl _) _) hb⟩
  have hi := OutAt.ints (n := 5) ho w1.heap.size ho.1 (by decide)
  have el : (List.range 5).map (fun k => (St.cl [3, 3, 3, 3, 3] 2 (k + 1)).1) = [1, 1, 2, 2, 3] := by decide
  rw [el] at hi
  exact hi
set_option maxHeartbeats 1600000 in
theorem stSane_calls (w : World) : Calls Try.prog 9 #[] w fun e w' => e = .returned (.bool true) ∧ Below w.heap.size w w' := by
  go_enter Try.func9, Try.ntmps9
  go_wp2_with (fail)
  refine (stRun_sane _).mono ?_
  rintro e w1 ⟨g, rfl, hi, sB⟩
  go_wp2_with (fail)
  have hv : IntsIn ((w1.alloc (.cells #[.int .i64 0, .int .i64 0, .int .i64 0, .int .i64 0, .int .i64 1] 28)).alloc (.cells #[.int .i64 1, .int .i64 1, .int .i64 2, .int .i64 2, .int .i64 3] 3)) (w1.heap.size + 1 + 1) (.slice (some ⟨g, 0, none⟩) 5 5) .i64 [1, 1, 2, 2, 3] :=
    (hi.kept fun b hb => by rw [Below.heap_alloc _ _ _ (by simp; omega), Below.heap_alloc _ _ _ hb]).more (by omega)
  have hu := (intsIn_new (w1.alloc (.cells #[.int .i64 0, .int .i64 0, .int .i64 0, .int .i64 0, .int .i64 1] 28)) [1, 1, 2, 2, 3] 3 (by decide))
  obtain ⟨W, hW, s0, s1, s2, s3, s4, sW, hs⟩ : ∃ W, (w1.alloc (.cells #[.int .i64 0, .int .i64 0, .int .i64 0, .int .i64 0, .int .i64 1] 28)).alloc (.cells #[.int .i64 1, .int .i64 1, .int .i64 2, .int .i64 2, .int .i64 3] 3) = W ∧
      W.cell? ⟨w1.heap.size, 0, none⟩ = some (.int .i64 0) ∧ W.cell? ⟨w1.heap.size, 1, none⟩ = some (.int .i64 0) ∧ W.cell? ⟨w1.heap.size, 2, none⟩ = some (.int .i64 0) ∧ W.cell? ⟨w1.heap.size, 3, none⟩ = some (.int .i64 0) ∧ W.cell? ⟨w1.heap.size, 4, none⟩ = some (.int .i64 1) ∧ Below w.heap.size w W ∧ W.heap.size = w1.heap.size + 1 + 1 :=
    ⟨_, rfl, by go_simp, by go_simp, by go_simp, by go_simp, by go_simp, (sB.alloc sB.size _).alloc (by have := sB.size; simp; omega) _, by simp⟩
  have hu' : IntsIn W W.heap.size (.slice (some ⟨w1.heap.size + 1, 0, none⟩) 5 5) .i64 [1, 1, 2, 2, 3] := by
    rw [hs, ← hW]
    simpa using hu
  rw [hW, ← hs] at hv
  rw [hW]
  clear hW hu hi sB hs
  refine (ints_t _ _ [1, 1, 2, 2, 3] _ hv hu').mono ?_
  rintro e w2 ⟨rfl, hb⟩
  generalize w1.heap.size = h at *
  replace sB := sW
  clear hv hu' sW
  replace s0 := cellB hb s0
  replace s1 := cellB hb s1
  replace s2 := cellB hb s2
  replace s3 := cellB hb s3
  replace s4 := cellB hb s4
  replace sB := below_step sB hb
  clear hb
  go_wp2_with (fail)
  refine (judge_calls _ _ _ _ _ _ _ _ _).mono ?_
  rintro e w3 ⟨rfl, hb⟩
  replace s0 := cellB hb s0
  replace s1 := cellB hb s1
  replace s2 := cellB hb s2
  replace s3 := cellB hb s3
  replace s4 := cellB hb s4
  replace sB := below_step sB hb
  clear hb
  rw [show St.judge true true 1 2 = 3 by decide]
  go_wp2_with (fail)
  refine (judge_calls _ _ _ _ _ _ _ _ _).mono ?_
  rintro e w4 ⟨rfl, hb⟩
  replace s0 := cellB hb s0
  replace s1 := cellB hb s1
  replace s2 := cellB hb s2
  replace s3 := cellB hb s3
  replace s4 := cellB hb s4
  replace sB := below_step sB hb
  clear hb
  rw [show St.judge true true 1 1 = 2 by decide]
  go_wp2_with (fail)
  refine (judge_calls _ _ _ _ _ _ _ _ _).mono ?_
  rintro e w5 ⟨rfl, hb⟩
  replace sB := below_step sB hb
  clear hb
  rw [show St.judge true true 0 2 = 1 by decide]
  go_wp2_with (fail)
  refine (enough_calls _ _ _ _).mono ?_
  rintro e w6 ⟨rfl, hb⟩
  replace sB := below_step sB hb
  clear hb
  go_wp2_with (fail)
  go_ret
  exact ⟨rfl, sB⟩
end Go.Proofs.Ytjmmkphdomiohab
