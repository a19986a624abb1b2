/- Estimates out of a source of numbers. -/
import Derived.Test.YtjmmkphdomiohabSr
import Derived.Test.YtjmmkphdomiohabKit2
namespace Go.Proofs.Ytjmmkphdomiohab
open Go.RowKit
/-- A call at the source in block b has given an estimate of a time. -/
def GaveEst (b : Nat) (t : Int) (w : World) (e : Ending) (w' : World) : Prop :=
  ∃ x y r s, (s = 0 ∨ s = 1 ∨ s = 2) ∧ e = .returned (.agg #[.int .i64 x, .int .i64 y, .int .i64 r, .int .i64 t, .int .i64 s]) ∧ SrcIs w' b ∧ w.grownBy w' (some b)
theorem grownE {a w : World} {b g : Nat} (h : a.grownBy w (some b)) (hg : g < a.heap.size) (hne : g ≠ b) : w.heap[g]? = a.heap[g]? :=
  h.block g hg (by intro e; injection e with e; exact hne e)
theorem grownE_set {a w : World} {r : Option Nat} (h : a.grownBy w r) {p : Addr} (hp : a.heap.size ≤ p.block) (u : Value) : a.grownBy (w.setCell p u) r :=
  ⟨h.os, h.tape, h.output, by simpa [World.setCell] using h.size, fun i hi hne => (Below.heap_setCell w p u i (by omega)).trans (h.block i hi hne)⟩
theorem SrcIs.setE {w : World} {b : Nat} (h : SrcIs w b) {p : Addr} (hp : b < p.block) (u : Value) : SrcIs (w.setCell p u) b :=
  h.kept (by simp [World.setCell]) fun i hi => Below.heap_setCell w p u i (by omega)
set_option maxHeartbeats 1600000 in
theorem srcEst_calls (b : Nat) (t : Int) (w : World) (h : SrcIs w b) :
    Calls Try.prog 23 #[.pointer (some ⟨b, 0, none⟩), .int .i64 t] w (GaveEst b t w) := by
  have hw := h.lt
  go_enter Try.func23, Try.ntmps23
  go_wp2_with (fail)
  refine (srcPickLit_calls b [0, 300, -700, 5000] _ 4 _ _ (h.alloc _) (by simp) (by decide) (by decide) rfl).mono ?_
  rintro e w1 ⟨x, rfl, hx, hs1, hg1⟩
  clear hx
  go_wp2_with (fail)
  refine (srcPickLit_calls b [0, 400, -100] _ 3 _ _ hs1 rfl (by decide) (by decide) rfl).mono ?_
  rintro e w2 ⟨y, rfl, hy, hs2, hg2⟩
  clear hy
  go_wp2_with (fail)
  refine (srcPickLit_calls b [0, 10, 100, 900] _ 4 _ _ hs2 rfl (by decide) (by decide) rfl).mono ?_
  rintro e w3 ⟨r, rfl, hr, hs3, hg3⟩
  clear hr
  go_wp2_with (fail)
  refine (srcPickLit_calls b [1, 1, 2, 0] _ 4 _ _ hs3 rfl (by decide) (by decide) rfl).mono ?_
  rintro e w4 ⟨s, rfl, hs, hs4, hg4⟩
  have HS : Hid (s = 0 ∨ s = 1 ∨ s = 2) := Lib.hid (by simp only [List.mem_cons, List.not_mem_nil, or_false] at hs; omega)
  clear hs hs1 hs2 hs3
  have l1 : w.heap.size < w1.heap.size := Nat.lt_of_lt_of_le (by simp) hg1.size
  have l2 : w.heap.size < w2.heap.size := Nat.lt_of_lt_of_le l1 hg2.size
  have l3 : w.heap.size < w3.heap.size := Nat.lt_of_lt_of_le l2 hg3.size
  have hblk : w4.heap[w.heap.size]? = (w.alloc (Obj.cells #[Value.int IntKind.i64 0, Value.int IntKind.i64 0, Value.int IntKind.i64 0, Value.int IntKind.i64 0, Value.int IntKind.i64 0] 28)).heap[w.heap.size]? :=
    (((grownE hg4 l3 (by omega)).trans (grownE hg3 l2 (by omega))).trans (grownE hg2 l1 (by omega))).trans (grownE hg1 (by simp) (by omega))
  have c0 : w4.cell? ⟨w.heap.size, 0, none⟩ = some (.int .i64 0) := by rw [World.cell?_of_block hblk]; simp
  have c1 : w4.cell? ⟨w.heap.size, 1, none⟩ = some (.int .i64 0) := by rw [World.cell?_of_block hblk]; simp
  have c2 : w4.cell? ⟨w.heap.size, 2, none⟩ = some (.int .i64 0) := by rw [World.cell?_of_block hblk]; simp
  have c3 : w4.cell? ⟨w.heap.size, 3, none⟩ = some (.int .i64 0) := by rw [World.cell?_of_block hblk]; simp
  have c4 : w4.cell? ⟨w.heap.size, 4, none⟩ = some (.int .i64 0) := by rw [World.cell?_of_block hblk]; simp
  have z0 : w4.frozen? ⟨w.heap.size, 0, none⟩ = false := by rw [World.frozen?_of_block hblk]; simp
  have z1 : w4.frozen? ⟨w.heap.size, 1, none⟩ = false := by rw [World.frozen?_of_block hblk]; simp
  have z2 : w4.frozen? ⟨w.heap.size, 2, none⟩ = false := by rw [World.frozen?_of_block hblk]; simp
  have z3 : w4.frozen? ⟨w.heap.size, 3, none⟩ = false := by rw [World.frozen?_of_block hblk]; simp
  have z4 : w4.frozen? ⟨w.heap.size, 4, none⟩ = false := by rw [World.frozen?_of_block hblk]; simp
  have hg : w.grownBy w4 (some b) := grownBy_trans (grownBy_trans (grownBy_trans (grownBy_trans (grownBy_alloc' (grownBy_refl _ _) _) hg1) hg2) hg3) hg4
  clear hg1 hg2 hg3 hg4 hblk l1 l2 l3
  go_wp2_with (fail)
  refine bodyPost_ret (v := .agg #[.int .i64 x, .int .i64 y, .int .i64 r, .int .i64 t, .int .i64 s]) ?_ rfl ?_
  · simp [results, Try.results23, go_sem]
    go_simp
  · refine ⟨x, y, r, s, HS.out, rfl, ?_, ?_⟩
    · repeat refine SrcIs.setE ?_ (by simpa using hw) _
      exact hs4
    · repeat refine grownE_set ?_ (by simp) _
      exact hg
end Go.Proofs.Ytjmmkphdomiohab
