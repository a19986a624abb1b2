/- Arcs out of a source of numbers. -/
import Derived.Test.YtjmmkphdomiohaaSr
import Derived.Test.YtjmmkphdomiohaaAnMath
namespace Go.Proofs.Ytjmmkphdomiohaa
open Go.RowKit
def arcFroms : List Int := [0, 450, 800, 1350, 1800, 2600, 3500]
def arcWidths : List Int := [0, 100, 300, 900, 1799]
/-- A call at the source in block b has given an arc. -/
def GaveArc (b : Nat) (w : World) (e : Ending) (w' : World) : Prop :=
  ∃ f d, f ∈ arcFroms ∧ d ∈ arcWidths ∧ e = .returned (.agg #[.int .i64 f, .int .i64 ((f + d) % 3600)]) ∧ SrcIs w' b ∧ w.grownBy w' (some b)
theorem froms_range {f : Int} (h : f ∈ arcFroms) : 0 ≤ f ∧ f ≤ 3500 := by
  simp only [arcFroms, List.mem_cons, List.not_mem_nil, or_false] at h; omega
theorem widths_range {d : Int} (h : d ∈ arcWidths) : 0 ≤ d ∧ d ≤ 1799 := by
  simp only [arcWidths, List.mem_cons, List.not_mem_nil, or_false] at h; omega
theorem grown_blk {a w : World} {b g : Nat} (h : a.grownBy w (some b)) (hg : g < a.heap.size) (hne : g ≠ b) : w.heap[g]? = a.heap[g]? :=
  h.block g hg (by intro e; injection e with e; exact hne e)
theorem grownBy_setNew {a w : World} {r : Option Nat} (h : a.grownBy w r) {p : Addr} (hp : a.heap.size ≤ p.block) (u : Value) : a.grownBy (w.setCell p u) r :=
  ⟨h.os, h.tape, h.output, by simpa [World.setCell] using h.size, fun i hi hne => (Below.heap_setCell w p u i (by omega)).trans (h.block i hi hne)⟩
theorem SrcIs.setCell {w : World} {b : Nat} (h : SrcIs w b) {p : Addr} (hp : b < p.block) (u : Value) : SrcIs (w.setCell p u) b :=
  h.kept (by simp [World.setCell]) fun i hi => Below.heap_setCell w p u i (by omega)
set_option maxHeartbeats 400000 in
theorem srcArc_calls (b : Nat) (w : World) (h : SrcIs w b) :
    Calls Try.prog 21 #[.pointer (some ⟨b, 0, none⟩)] w (GaveArc b w) := by
  have hw := h.lt
  go_enter Try.func21, Try.ntmps21
  go_wp2_with (fail)
  refine (srcPickLit_calls b [0, 450, 800, 1350, 1800, 2600, 3500] _ 7 _ _ (h.alloc _) (by simp) (by decide) (by decide) rfl).mono ?_
  rintro e w1 ⟨f, rfl, hf, hs1, hg1⟩
  obtain ⟨f0, f1⟩ := froms_range hf
  have HF := Lib.hid hf
  clear hf
  go_wp2_with (fail)
  refine (srcPickLit_calls b [0, 100, 300, 900, 1799] _ 5 _ _ hs1 rfl (by decide) (by decide) rfl).mono ?_
  rintro e w2 ⟨d, rfl, hd, hs2, hg2⟩
  obtain ⟨d0, d1⟩ := widths_range hd
  have HD := Lib.hid hd
  clear hd
  have hblk : w2.heap[w.heap.size]? = (w.alloc (Obj.cells #[Value.int IntKind.i64 0, Value.int IntKind.i64 0] 32)).heap[w.heap.size]? :=
    (grown_blk hg2 (Nat.lt_of_lt_of_le (by simp) hg1.size) (by omega)).trans (grown_blk hg1 (by simp) (by omega))
  have c0 : w2.cell? ⟨w.heap.size, 0, none⟩ = some (.int .i64 0) := by rw [World.cell?_of_block hblk]; simp
  have c1 : w2.cell? ⟨w.heap.size, 1, none⟩ = some (.int .i64 0) := by rw [World.cell?_of_block hblk]; simp
  have z0 : w2.frozen? ⟨w.heap.size, 0, none⟩ = false := by rw [World.frozen?_of_block hblk]; simp
  have z1 : w2.frozen? ⟨w.heap.size, 1, none⟩ = false := by rw [World.frozen?_of_block hblk]; simp
  have hg : w.grownBy w2 (some b) := grownBy_trans (grownBy_trans (grownBy_alloc' (grownBy_refl _ _) _) hg1) hg2
  clear hg1 hg2 hblk
  go_wp2_with (fail)
  have e0 : ((w2.setCell ⟨w.heap.size, 0, none⟩ (Value.int .i64 f)).setCell ⟨w.heap.size, 1, none⟩ (Value.int .i64 ((f + d) % 3600))).cell? ⟨w.heap.size, 0, none⟩ = some (.int .i64 f) := by
    rw [World.cell?_setCell_other _ _ _ _ (fun e => by injection e with _ e; cases e)]
    exact World.cell?_setCell_same _ _ _ c0
  have e1 : ((w2.setCell ⟨w.heap.size, 0, none⟩ (Value.int .i64 f)).setCell ⟨w.heap.size, 1, none⟩ (Value.int .i64 ((f + d) % 3600))).cell? ⟨w.heap.size, 1, none⟩ = some (.int .i64 ((f + d) % 3600)) := by
    refine World.cell?_setCell_same _ _ _ (u := .int .i64 0) ?_
    rw [World.cell?_setCell_other _ _ _ _ (fun e => by injection e with _ e; cases e)]
    exact c1
  refine bodyPost_ret (v := .agg #[.int .i64 f, .int .i64 ((f + d) % 3600)]) (by simp [results, Try.results21, go_sem, e0, e1]) rfl ?_
  exact ⟨f, d, HF.out, HD.out, rfl, (hs2.setCell (by simpa using hw) _).setCell (by simpa using hw) _, grownBy_setNew (grownBy_setNew hg (by simp) _) (by simp) _⟩
end Go.Proofs.Ytjmmkphdomiohaa
