/- A row of numbers that a call makes and fills. -/
import Derived.Test.YtjmmkphdomiohabKit2
import Derived.OwnWalk
import Derived.Laws.OwnMore
namespace Go.Proofs.Ytjmmkphdomiohab
open Go.RowKit
/-- The n numbers of a new row in block g: the first k are those of f, the others 0. -/
def OutAt (w : World) (g n k : Nat) (f : Nat → Int) : Prop :=
  g < w.heap.size ∧ (∀ j, j < n → w.frozen? ⟨g, j, none⟩ = false) ∧ ∀ j, j < n → w.cell? ⟨g, j, none⟩ = some (.int .i64 (if j < k then f j else 0))
theorem OutAt.below {w w' : World} {g n k : Nat} {f : Nat → Int} (h : OutAt w g n k f) (hb : Below w.heap.size w w') : OutAt w' g n k f :=
  ⟨Nat.lt_of_lt_of_le h.1 hb.size, fun j hj => (hb.frozen (p := ⟨g, j, none⟩) h.1).trans (h.2.1 j hj), fun j hj => (hb.cell (p := ⟨g, j, none⟩) h.1).trans (h.2.2 j hj)⟩
theorem OutAt.alloc {w : World} {g n k : Nat} {f : Nat → Int} (h : OutAt w g n k f) (o : Obj) : OutAt (w.alloc o) g n k f :=
  h.below ((Below.refl _ _).alloc (Nat.le_refl _) o)
theorem OutAt.drew {w : World} {g n k : Nat} {f : Nat → Int} (h : OutAt w g n k f) : OutAt w.drew g n k f := h
theorem OutAt.other {w : World} {g n k g' o : Nat} {f : Nat → Int} (h : OutAt w g n k f) (hne : g' ≠ g) (u : Value) : OutAt (w.setCell ⟨g', o, none⟩ u) g n k f :=
  ⟨by simpa [World.setCell] using h.1, fun j hj => (World.frozen?_setCell _ _ _ _).trans (h.2.1 j hj), fun j hj =>
    (World.cell?_setCell_other _ _ _ _ (fun e => by injection e with e _; exact hne e)).trans (h.2.2 j hj)⟩
theorem OutAt.set {w : World} {g n k : Nat} {f : Nat → Int} (h : OutAt w g n k f) (hk : k < n) : OutAt (w.setCell ⟨g, k, none⟩ (.int .i64 (f k))) g n (k + 1) f := by
  refine ⟨by simpa [World.setCell] using h.1, fun j hj => (World.frozen?_setCell _ _ _ _).trans (h.2.1 j hj), fun j hj => ?_⟩
  by_cases e : j = k
  · subst e
    rw [World.cell?_setCell_same _ _ _ (h.2.2 j hj), if_pos (Nat.lt_succ_self _)]
  · rw [World.cell?_setCell_other _ _ _ _ (fun x => by injection x with _ x; exact e x.symm), h.2.2 j hj]
    by_cases l : j < k
    · rw [if_pos l, if_pos (by omega)]
    · rw [if_neg l, if_neg (by omega)]
theorem outAt_made {w : World} {base n : Nat} {e : TypeId} {g : Nat} {f : Nat → Int} (h : w.ownsRow base e 1 (.slice (some ⟨g, 0, none⟩) n n) n (madeCells #[Value.int .i64 0] n).toList) : OutAt w g n 0 f := by
  refine ⟨(h.lt g rfl).2, fun j _ => h.frozenAt j, fun j hj => ?_⟩
  rw [h.cellAt j (by omega), if_neg (by omega)]
  simp [madeCells, hj, Nat.mod_one]
theorem OutAt.ints {w : World} {g n : Nat} {f : Nat → Int} (h : OutAt w g n n f) (B : Nat) (hB : g < B) (hn : n ≤ 1000) : IntsIn w B (.slice (some ⟨g, 0, none⟩) n n) .i64 ((List.range n).map f) := by
  refine ⟨some ⟨g, 0, none⟩, n, by simp, by simp, by unfold maxLen; omega, (fun h => by cases h), fun _ => ⟨g, 0, rfl, hB, fun j hj => ?_⟩⟩
  simp only [List.length_map, List.length_range] at hj
  rw [Nat.zero_add, h.2.2 j hj, if_pos hj]
  simp [List.getD_eq_getElem?_getD, hj]
theorem setG {w : World} {g g' o o' : Nat} {u : Value} (hne : g ≠ g') (x : Value) (h : w.cell? ⟨g', o', none⟩ = some u) : (w.setCell ⟨g, o, none⟩ x).cell? ⟨g', o', none⟩ = some u :=
  (World.cell?_setCell_other _ _ _ _ (fun e => by injection e with e _; exact hne e)).trans h
end Go.Proofs.Ytjmmkphdomiohab
