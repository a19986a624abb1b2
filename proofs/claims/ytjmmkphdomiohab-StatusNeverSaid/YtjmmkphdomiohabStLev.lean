/- The levels that are judged, out of a source of numbers. -/
import Derived.Test.YtjmmkphdomiohabSr
import Derived.Test.YtjmmkphdomiohabStN
import Derived.Test.YtjmmkphdomiohabOut
namespace Go.Proofs.Ytjmmkphdomiohab
open Go.RowKit
theorem lv_info : (Try.prog.info? 3).map (fun i => (i.zero, i.size, i.bytes)) = some (some (.int .i64 0), 1, 8) := by kernel_rfl
/-- A call at the source in block b has given a row of at most m levels. -/
def GaveLev (b m : Nat) (w : World) (e : Ending) (w' : World) : Prop :=
  ∃ v zs, e = .returned v ∧ IntsIn w' w'.heap.size v .i64 zs ∧ (∀ z ∈ zs, St.Lev z) ∧ zs.length ≤ m ∧ SrcIs w' b ∧ w.grownBy w' (some b)
theorem ints_owned {w : World} {base : Nat} {e : TypeId} {v : Value} {zs : List Int} (h : w.ownsRow base e 1 v zs.length (zs.map (Value.int .i64))) : IntsIn w w.heap.size v .i64 zs := by
  have H := h
  obtain ⟨_, ⟨rfl, h0⟩ | ⟨g, cap, cur, rfl, _, hg, h1, h2, h3, h4⟩⟩ := h
  · exact ⟨none, 0, by rw [h0], by omega, by unfold maxLen; omega, fun _ => rfl, fun hl => by omega⟩
  · refine ⟨some ⟨g, 0, none⟩, cap, rfl, h1, h2, (fun h => by cases h), fun _ => ⟨g, 0, rfl, (H.lt g rfl).2, fun j hj => ?_⟩⟩
    have := H.cells (g := g) rfl j (.int .i64 (zs.getD j 0)) (by simp [List.getD_eq_getElem?_getD, hj])
    have e : (⟨g, 0, none⟩ : Addr).add j = ⟨g, 0 + j, none⟩ := by
      by_cases h0 : j = 0 <;> simp [Addr.add, h0]
    rw [e] at this
    exact this
theorem SrcIs.grown {w w' : World} {b : Nat} {r : Option Nat} (h : SrcIs w b) (hg : w.grownBy w' r) (hr : ∀ g, r = some g → b < g) : SrcIs w' b :=
  h.kept hg.size fun i hi => hg.block i (Nat.lt_of_le_of_lt hi h.lt) (fun e => by have := hr i e.symm; omega)
theorem grown_own {a w w' : World} {b : Nat} {r : Option Nat} (h : a.grownBy w (some b)) (hg : w.grownBy w' r) (hr : ∀ g, r = some g → a.heap.size ≤ g) : a.grownBy w' (some b) :=
  ⟨hg.os.trans h.os, hg.tape.trans h.tape, hg.output.trans h.output, Nat.le_trans h.size hg.size, fun i hi hne =>
    (hg.block i (Nat.lt_of_lt_of_le hi h.size) (fun e => by have := hr i e.symm; omega)).trans (h.block i hi hne)⟩
set_option maxHeartbeats 2000000 in
theorem levels_calls (b : Nat) (m : Nat) (w : World) (h : SrcIs w b) (hm : m ≤ 300) :
    Calls Try.prog 19 #[.pointer (some ⟨b, 0, none⟩), .int .i64 m] w (GaveLev b m w) := by
  have hw := h.lt
  obtain ⟨i0, hi, hz0, hz1, hz2⟩ := info_parts lv_info
  go_enter Try.func19, Try.ntmps19
  go_wp2_with (fail)
  refine (srcN_calls b _ _ h (by omega)).mono ?_
  rintro e w1 ⟨n, rfl, hn, hs1, hg1⟩
  obtain ⟨n0, n1⟩ := hn.1 (by omega)
  clear hn h
  go_wp2_with (fail)
  go_loopw [5, 6] (fun v i wr => ∃ (zs : List Int) (k : Nat), i = .int .i64 k ∧ k + zs.length ≤ m ∧ wr.ownsRow w.heap.size 3 1 v zs.length (zs.map (Value.int .i64)) ∧ (∀ z ∈ zs, St.Lev z) ∧ SrcIs wr b ∧ w.grownBy wr (some b)) (fun _ i _ => (intOf i).toNat)
  case atStart => exact ⟨[], n.toNat, by rw [Int.toNat_of_nonneg n0], by simp; omega, World.ownsRow_nil _ _ _ _, (fun z hz => by cases hz), hs1, hg1⟩
  case round =>
    clear hs1 hg1
    obtain ⟨zs, k, rfl, hk, hown, hl, hs, hg⟩ := hrel
    by_cases k0 : k = 0
    · subst k0
      go_wp2_with (fail)
      go_ret
      exact ⟨_, zs, rfl, ints_owned hown, hl, by omega, hs, hg⟩
    · obtain ⟨k', rfl⟩ : ∃ k', k = k' + 1 := ⟨k - 1, by omega⟩
      go_wp2_with (fail)
      refine (srcPickLit_calls b [3, 3, 2, 1, 3] _ 5 _ _ hs rfl (by decide) (by decide) rfl).mono ?_
      rintro e w2 ⟨x, rfl, hx, hs2, hg2⟩
      have hL : St.Lev x := by
        simp only [List.mem_cons, List.not_mem_nil, or_false] at hx
        exact ⟨by omega, by omega⟩
      have hown2 := hown.kept hg2 (by
        cases ho : u5.ownBlock with
        | none => exact Or.inl rfl
        | some g => exact Or.inr (fun e => by injection e with e; have := (hown.lt g ho).1; omega))
      have hg3 := grownBy_trans hg hg2
      have hgz := hg3.size
      have hlv := Lib.hid hL
      have hown3 := Lib.hid hown2
      clear hx hown hs hg hg2 hL hown2
      go_wp2_with (at_builtin; refine wpList_append_own _ rfl _ _ 22 rfl w.heap.size 3 i0 (.int .i64 0) 1 8 rfl hi hz0 hz1 hz2 rfl (by decide) _ _ _ rfl (hown3.out.alloc _) ⟨w2.heap.size, 0, none⟩ 1 1 [.int .i64 x] rfl rfl ?c1 ?c2 ?c3 ?c4 ?c5 ?_)
      case c1 =>
        intro j u hj
        match j, hj with
        | 0, hj => simp at hj; subst hj; simp [Addr.add]
      case c2 => intro u hu; simp at hu; subst hu; rfl
      case c3 => unfold maxLen; omega
      case c4 => omega
      case c5 => simp; omega
      intro v' w3 hown' hgrow _
      have hs4 : SrcIs w3 b := (hs2.alloc _).grown hgrow fun g e => Nat.lt_of_lt_of_le hw (hown3.out.lt g e).1
      have hg4 : w.grownBy w3 (some b) := grown_own (grownBy_alloc' hg3 _) hgrow fun g e => (hown3.out.lt g e).1
      have ho4 := Lib.hid hown'
      clear hown' hgrow hs2 hg3 hown3
      go_wp2_with (fail)
      go_roundw
      case rel =>
        refine ⟨zs ++ [x], k', by first | go_num | (congr 1; omega), by simp; omega, by simpa using ho4.out, fun z hz => ?_, hs4, hg4⟩
        rcases List.mem_append.1 hz with h | h
        · exact hl z h
        · rw [List.mem_singleton.1 h]; exact hlv.out
      case measure => simp [intOf]
end Go.Proofs.Ytjmmkphdomiohab
