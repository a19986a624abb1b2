/- The examples of chapter 3 hold; points out of a source of numbers. -/
import Derived.Test.YtjmmkphdomiohaaFrB
import Derived.Test.YtjmmkphdomiohaaFrT
import Derived.Test.YtjmmkphdomiohaaSrArc
namespace Go.Proofs.Ytjmmkphdomiohaa
open Go.RowKit
namespace Fr
theorem isUp_unique {n r s : Int} (h : IsUp n r) (k : IsUp n s) : r = s := by
  have := h.2.2 s k.1 k.2.1
  have := k.2.2 r h.1 h.2.1
  omega
theorem uproot_of {n r : Int} (h : 0 ≤ n) (k : IsUp n r) : uproot n = r := isUp_unique (uproot_is h) k
theorem isUp_of {n r : Int} (h0 : 0 ≤ r) (h1 : n ≤ r * r) (h2 : r = 0 ∨ (r - 1) * (r - 1) < n) : IsUp n r := by
  refine ⟨h0, h1, fun s s0 hs => ?_⟩
  rcases (by omega : r ≤ s ∨ s ≤ r - 1) with k | k
  · exact k
  · rcases h2 with h2 | h2
    · omega
    · have := Ar.sq_le s0 k; omega
theorem sq_nonneg {a b c d : Int} (h : Four a b c d) : 0 ≤ sq a b c d := by
  have := sq_range h
  unfold sq; omega
theorem dist_is {a b c d : Int} (h : Four a b c d) : IsUp (sq a b c d) (dist a b c d) := by
  unfold dist
  rw [if_pos h]
  exact uproot_is (sq_nonneg h)
theorem dist_of {a b c d r : Int} (h : Four a b c d) (k : IsUp (sq a b c d) r) : dist a b c d = r := isUp_unique (dist_is h) k
end Fr
theorem dist_eq (a b c d q r : Int) (w : World) (hq : Fr.dist a b c d = q) (hr : Fr.err (Fr.Four a b c d) = r) :
    Calls Try.prog 49 #[.agg #[.int .i64 a, .int .i64 b], .agg #[.int .i64 c, .int .i64 d]] w fun e w' => e = .returned (.tuple #[.int .i64 q, .int .i64 r]) ∧ Below w.heap.size w w' := by
  subst hq; subst hr; exact dist_calls a b c d w
theorem box_eq (a b c d q r : Int) (w : World) (hq : Fr.box a b c d = q) (hr : Fr.err (Fr.Four a b c d) = r) :
    Calls Try.prog 41 #[.agg #[.int .i64 a, .int .i64 b], .agg #[.int .i64 c, .int .i64 d]] w fun e w' => e = .returned (.tuple #[.int .i64 q, .int .i64 r]) ∧ Below w.heap.size w w' := by
  subst hq; subst hr; exact box_calls a b c d w
theorem turn_eq (x y a u v r : Int) (w : World) (hu : Fr.turnx x y a = u) (hv : Fr.turny x y a = v) (hr : Fr.err (Fr.Ok x ∧ Fr.Ok y) = r) :
    Calls Try.prog 51 #[.int .i64 x, .int .i64 y, .int .i64 a] w fun e w' => e = .returned (.tuple #[.int .i64 u, .int .i64 v, .int .i64 r]) ∧ Below w.heap.size w w' := by
  subst hu; subst hv; subst hr; exact turn_calls x y a w
theorem earth_eq (x y a u v r : Int) (w : World) (hu : Fr.turnx x y a = u) (hv : Fr.turny x y a = v) (hr : Fr.err (Fr.Ok x ∧ Fr.Ok y) = r) :
    Calls Try.prog 53 #[.int .i64 x, .int .i64 y, .int .i64 a] w fun e w' => e = .returned (.tuple #[.int .i64 u, .int .i64 v, .int .i64 r]) ∧ Below w.heap.size w w' := by
  subst hu; subst hv; subst hr; exact earth_calls x y a w
theorem body_eq (x y a u v r : Int) (w : World) (hu : Fr.turnx x y (-An.norm a) = u) (hv : Fr.turny x y (-An.norm a) = v) (hr : Fr.err (Fr.Ok x ∧ Fr.Ok y) = r) :
    Calls Try.prog 55 #[.int .i64 x, .int .i64 y, .int .i64 a] w fun e w' => e = .returned (.tuple #[.int .i64 u, .int .i64 v, .int .i64 r]) ∧ Below w.heap.size w w' := by
  subst hu; subst hv; subst hr; exact body_calls x y a w
theorem add_eq (a b c d u v r : Int) (w : World) (hu : (if Fr.Sum a b c d then a + c else 0) = u) (hv : (if Fr.Sum a b c d then b + d else 0) = v) (hr : Fr.err (Fr.Sum a b c d) = r) :
    Calls Try.prog 40 #[.agg #[.int .i64 a, .int .i64 b], .agg #[.int .i64 c, .int .i64 d]] w fun e w' => e = .returned (.tuple #[.agg #[.int .i64 u, .int .i64 v], .int .i64 r]) ∧ Below w.heap.size w w' := by
  subst hu; subst hv; subst hr; exact add_calls a b c d w
theorem sub_eq (a b c d u v r : Int) (w : World) (hu : (if Fr.Dif a b c d then a - c else 0) = u) (hv : (if Fr.Dif a b c d then b - d else 0) = v) (hr : Fr.err (Fr.Dif a b c d) = r) :
    Calls Try.prog 46 #[.agg #[.int .i64 a, .int .i64 b], .agg #[.int .i64 c, .int .i64 d]] w fun e w' => e = .returned (.tuple #[.agg #[.int .i64 u, .int .i64 v], .int .i64 r]) ∧ Below w.heap.size w w' := by
  subst hu; subst hv; subst hr; exact sub_calls a b c d w
set_option maxHeartbeats 800000 in
theorem sane03 (w : World) :
    Calls Try.prog 42 #[] w fun e w' => e = .returned (.bool true) ∧ Below w.heap.size w w' := by
  have h1 : Fr.dist 0 0 3 4 = 5 := Fr.dist_of (by decide) (Fr.isUp_of (by decide) (by decide) (by decide))
  have h2 : Fr.dist 0 0 1 1 = 2 := Fr.dist_of (by decide) (Fr.isUp_of (by decide) (by decide) (by decide))
  have H1 := Lib.hid h1
  have H2 := Lib.hid h2
  clear h1 h2
  go_enter Try.func42, Try.ntmps42
  go_wp2_with (fail)
  refine (turn_eq _ _ _ 0 100 0 _ (by decide) (by decide) (by decide)).mono ?_
  rintro e w1 ⟨rfl, hb1⟩
  go_wp2_with (fail)
  refine (dist_eq _ _ _ _ 5 0 _ H1.out (by decide)).mono ?_
  rintro e w2 ⟨rfl, hb2⟩
  go_wp2_with (fail)
  refine (dist_eq _ _ _ _ 2 0 _ H2.out (by decide)).mono ?_
  rintro e w3 ⟨rfl, hb3⟩
  go_wp2_with (fail)
  go_ret
  exact ⟨rfl, below_step hb1 (below_step hb2 hb3)⟩
/-- A call at the source in block b has given a point. -/
def GavePoint (b : Nat) (w : World) (e : Ending) (w' : World) : Prop :=
  ∃ x y, Fr.Ok x ∧ Fr.Ok y ∧ e = .returned (.agg #[.int .i64 x, .int .i64 y]) ∧ SrcIs w' b ∧ w.grownBy w' (some b)
set_option maxHeartbeats 400000 in
theorem srcPoint_calls (b : Nat) (w : World) (h : SrcIs w b) :
    Calls Try.prog 39 #[.pointer (some ⟨b, 0, none⟩)] w (GavePoint b w) := by
  have hw := h.lt
  go_enter Try.func39, Try.ntmps39
  go_wp2_with (fail)
  refine (srcPickLit_calls b [10, 100, 1000, 100000000] _ 4 _ _ (h.alloc _) (by simp) (by decide) (by decide) rfl).mono ?_
  rintro e w1 ⟨m, rfl, hm, hs1, hg1⟩
  have m0 : 0 ≤ m ∧ m ≤ 100000000 := by simp only [List.mem_cons, List.not_mem_nil, or_false] at hm; omega
  clear hm
  obtain ⟨m1, m2⟩ := m0
  go_wp2_with (fail)
  refine (srcRange_calls _ _ _ _ hs1 (by omega) (by omega) (by omega)).mono ?_
  rintro e w2 ⟨x, rfl, hx, hs2, hg2⟩
  go_wp2_with (fail)
  refine (srcRange_calls _ _ _ _ hs2 (by omega) (by omega) (by omega)).mono ?_
  rintro e w3 ⟨y, rfl, hy, hs3, hg3⟩
  have hblk : w3.heap[w.heap.size]? = (w.alloc (Obj.cells #[Value.int IntKind.i64 0, Value.int IntKind.i64 0] 51)).heap[w.heap.size]? :=
    ((grown_blk hg3 (Nat.lt_of_lt_of_le (Nat.lt_of_lt_of_le (by simp) hg1.size) hg2.size) (by omega)).trans (grown_blk hg2 (Nat.lt_of_lt_of_le (by simp) hg1.size) (by omega))).trans (grown_blk hg1 (by simp) (by omega))
  have c0 : w3.cell? ⟨w.heap.size, 0, none⟩ = some (.int .i64 0) := by rw [World.cell?_of_block hblk]; simp
  have c1 : w3.cell? ⟨w.heap.size, 1, none⟩ = some (.int .i64 0) := by rw [World.cell?_of_block hblk]; simp
  have z0 : w3.frozen? ⟨w.heap.size, 0, none⟩ = false := by rw [World.frozen?_of_block hblk]; simp
  have z1 : w3.frozen? ⟨w.heap.size, 1, none⟩ = false := by rw [World.frozen?_of_block hblk]; simp
  have hg : w.grownBy w3 (some b) := grownBy_trans (grownBy_trans (grownBy_trans (grownBy_alloc' (grownBy_refl _ _) _) hg1) hg2) hg3
  clear hg1 hg2 hg3 hblk
  go_wp2_with (fail)
  obtain ⟨e0, e1⟩ := set2 (.int .i64 x) (.int .i64 y) c0 c1
  refine bodyPost_ret (v := .agg #[.int .i64 x, .int .i64 y]) (by simp [results, Try.results39, go_sem, e0, e1]) rfl ?_
  obtain ⟨x0, x1⟩ := hx
  obtain ⟨y0, y1⟩ := hy
  exact ⟨x, y, ⟨by omega, by omega⟩, ⟨by omega, by omega⟩, rfl, (hs3.setCell (by simpa using hw) _).setCell (by simpa using hw) _, grownBy_setNew (grownBy_setNew hg (by simp) _) (by simp) _⟩
end Go.Proofs.Ytjmmkphdomiohaa
