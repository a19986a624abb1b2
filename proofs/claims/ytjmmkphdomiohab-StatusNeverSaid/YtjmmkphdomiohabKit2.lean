/- More small words for the walks: a result of two cells that the call itself lays. -/
import Derived.Test.YtjmmkphdomiohabKit
namespace Go.Proofs.Ytjmmkphdomiohab
open Go.RowKit
theorem set2 {w : World} {g : Nat} {u v : Value} (u' v' : Value) (h0 : w.cell? ⟨g, 0, none⟩ = some u) (h1 : w.cell? ⟨g, 1, none⟩ = some v) :
    ((w.setCell ⟨g, 0, none⟩ u').setCell ⟨g, 1, none⟩ v').cell? ⟨g, 0, none⟩ = some u' ∧ ((w.setCell ⟨g, 0, none⟩ u').setCell ⟨g, 1, none⟩ v').cell? ⟨g, 1, none⟩ = some v' := by
  constructor
  · rw [World.cell?_setCell_other _ _ _ _ (fun e => by injection e with _ e; cases e)]
    exact World.cell?_setCell_same _ _ _ h0
  · refine World.cell?_setCell_same _ _ _ (u := v) ?_
    rw [World.cell?_setCell_other _ _ _ _ (fun e => by injection e with _ e; cases e)]
    exact h1
theorem frozenB {a b : World} {g o : Nat} (hb : Below a.heap.size a b) (hg : g < a.heap.size) (h : a.frozen? ⟨g, o, none⟩ = false) : b.frozen? ⟨g, o, none⟩ = false :=
  (hb.frozen (p := ⟨g, o, none⟩) hg).trans h
theorem ltB {a b : World} {g : Nat} (hb : Below a.heap.size a b) (hg : g < a.heap.size) : g < b.heap.size := Nat.lt_of_lt_of_le hg hb.size
theorem cellA {w : World} {g i : Nat} {v : Value} {o : Obj} (h : w.cell? ⟨g, i, none⟩ = some v) : (w.alloc o).cell? ⟨g, i, none⟩ = some v := by
  rw [World.cell?_alloc_lt _ _ _ (World.block_lt_of_cell? w _ h)]; exact h
theorem ret3 {a b c a' b' c' : Int} (h : a = a') (h' : b = b') (h'' : c = c') : Ending.returned (.tuple #[.int .i64 a, .int .i64 b, .int .i64 c]) = .returned (.tuple #[.int .i64 a', .int .i64 b', .int .i64 c']) := by rw [h, h', h'']
end Go.Proofs.Ytjmmkphdomiohab
