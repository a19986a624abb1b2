/- The walk of StatusStays. -/
import Derived.Test.YtjmmkphdomiohabStSane
import Derived.Test.YtjmmkphdomiohabSr
namespace Go.Proofs.Ytjmmkphdomiohab
open Go.RowKit
set_option maxHeartbeats 2000000 in
set_option maxRecDepth 100000 in
theorem StatusStays_walk (w : World) (l : Value) (ts : List Int) (hl : IntsIn w w.heap.size l .i64 ts) (hts : ∀ z ∈ ts, (Lit.int .i64 z).wf = true) :
    Calls Try.prog 7 #[l] w fun e w' => e = .returned (.bool true) ∧ Below w.heap.size w w' := by
  have HL := Lib.hid hl
  have HT := Lib.hid hts
  obtain ⟨A, c, rfl, k1, k2, _, _⟩ := hl
  unfold maxLen at k2
  clear hts
  by_cases hn : (600 : Int) < ts.length
  · go_enter Try.func7, Try.ntmps7
    go_wp2_with (fail)
    refine (stSane_calls _).mono ?_
    rintro e w1 ⟨rfl, hb⟩
    go_wp2_with (fail)
    go_ret
    exact ⟨rfl, hb⟩
  · go_enter Try.func7, Try.ntmps7
    go_wp2_with (fail)
    refine (srcNew_calls _ ts _ HL.out HT.out).mono ?_
    rintro e w1 ⟨rfl, hs1, hb1⟩
    clear HL HT
    go_wp2_with (fail)
    refine (srcRange_calls _ 1 3 _ hs1 (by decide) (by decide) (by decide)).mono ?_
    rintro e w2 ⟨v, rfl, ⟨v1, v2⟩, hs2, hg2⟩
    have hb2 : Below w.heap.size w w2 := below_grownBy hb1 hg2 (Nat.le_refl _) hb1.size
    clear hs1 hg2 hb1
    have hq : w.heap.size < w2.heap.size := hs2.lt
    go_wp2_with (fail)
    obtain ⟨W, hW, s0, s1, sB, hs3, hne⟩ : ∃ W, w2.alloc (Obj.cells #[Value.int IntKind.i64 v, Value.int IntKind.i64 (-1)] 24) = W ∧ W.cell? ⟨w2.heap.size, 0, none⟩ = some (.int .i64 v) ∧ W.cell? ⟨w2.heap.size, 1, none⟩ = some (.int .i64 (-1)) ∧ Below w.heap.size w W ∧ SrcIs W w.heap.size ∧ w.heap.size ≠ w2.heap.size :=
      ⟨_, rfl, by simp, by simp, hb2.alloc hb2.size _, hs2.alloc _, by omega⟩
    rw [hW]
    clear hW hb2 hs2 hq
    generalize w2.heap.size = g at *
    refine (srcN_calls _ 50 _ hs3 (by decide)).mono ?_
    rintro e w3 ⟨t, rfl, ht, hs4, hg⟩
    obtain ⟨t0, t1⟩ := ht.1 (by decide)
    have kc : ∀ o u, W.cell? ⟨g, o, none⟩ = some u → w3.cell? ⟨g, o, none⟩ = some u := fun o u h => by
      rw [World.cell?_of_block (hg.block g (World.block_lt_of_cell? _ _ h) (by intro e; injection e with e; exact hne e.symm))]; exact h
    replace s0 := kc _ _ s0
    replace s1 := kc _ _ s1
    replace sB : Below w.heap.size w w3 := below_grownBy sB hg (Nat.le_refl _) sB.size
    clear hs3 hg ht kc
    go_wp2_with (fail)
    refine (srcN_calls _ 9 _ hs4 (by decide)).mono ?_
    rintro e w4 ⟨m, rfl, hm, hs5, hg⟩
    obtain ⟨m0, m1⟩ := hm.1 (by decide)
    have kc : ∀ o u, w3.cell? ⟨g, o, none⟩ = some u → w4.cell? ⟨g, o, none⟩ = some u := fun o u h => by
      rw [World.cell?_of_block (hg.block g (World.block_lt_of_cell? _ _ h) (by intro e; injection e with e; exact hne e.symm))]; exact h
    replace s0 := kc _ _ s0
    replace s1 := kc _ _ s1
    replace sB : Below w.heap.size w w4 := below_grownBy sB hg (Nat.le_refl _) sB.size
    clear hs4 hs5 hg hm kc
    go_wp2_with (fail)
    refine (stNext_A v (-1) t v _ _ ⟨⟨v1, v2⟩, by decide, by omega, fun _ => rfl⟩ ⟨v1, v2⟩ (by omega) (by omega) (by omega) (by omega) (Int.le_refl _)).mono ?_
    rintro e w5 ⟨rfl, hb⟩
    replace s0 := cellB hb s0
    replace s1 := cellB hb s1
    replace sB := below_step sB hb
    clear hb
    have lt0 : g < w5.heap.size := World.block_lt_of_cell? _ _ s0
    go_wp2_with (fail)
    obtain ⟨W5, hW, q0, q1, r0, r1, qB⟩ : ∃ W', w5.alloc (Obj.cells #[Value.int IntKind.i64 v, Value.int IntKind.i64 (-1)] 24) = W' ∧ W'.cell? ⟨g, 0, none⟩ = some (.int .i64 v) ∧ W'.cell? ⟨g, 1, none⟩ = some (.int .i64 (-1)) ∧ W'.cell? ⟨w5.heap.size, 0, none⟩ = some (.int .i64 v) ∧ W'.cell? ⟨w5.heap.size, 1, none⟩ = some (.int .i64 (-1)) ∧ Below w.heap.size w W' :=
      ⟨_, rfl, cellA s0, cellA s1, by simp, by simp, sB.alloc sB.size _⟩
    rw [hW]
    clear hW s0 s1 sB lt0
    generalize w5.heap.size = h at *
    refine (stNext_A v (-1) t 1 _ _ ⟨⟨v1, v2⟩, by decide, by omega, fun _ => rfl⟩ (by decide) (by omega) (by omega) (by omega) (by omega) v1).mono ?_
    rintro e w6 ⟨rfl, hb⟩
    replace q0 := cellB hb q0
    replace q1 := cellB hb q1
    replace r0 := cellB hb r0
    replace r1 := cellB hb r1
    replace qB := below_step qB hb
    have lt0 : g < w6.heap.size := World.block_lt_of_cell? _ _ q0
    have lt1 : h < w6.heap.size := World.block_lt_of_cell? _ _ r0
    clear hb
    go_wp2_with (fail)
    obtain ⟨W6, hW, s0, s1, r2, r3, p0, p1, sB⟩ : ∃ W', w6.alloc (Obj.cells #[Value.int IntKind.i64 1, Value.int IntKind.i64 (-1)] 24) = W' ∧ W'.cell? ⟨g, 0, none⟩ = some (.int .i64 v) ∧ W'.cell? ⟨g, 1, none⟩ = some (.int .i64 (-1)) ∧ W'.cell? ⟨h, 0, none⟩ = some (.int .i64 v) ∧ W'.cell? ⟨h, 1, none⟩ = some (.int .i64 (-1)) ∧
        W'.cell? ⟨w6.heap.size, 0, none⟩ = some (.int .i64 1) ∧ W'.cell? ⟨w6.heap.size, 1, none⟩ = some (.int .i64 (-1)) ∧ Below w.heap.size w W' :=
      ⟨_, rfl, cellA q0, cellA q1, cellA r0, cellA r1, by simp, by simp, qB.alloc qB.size _⟩
    rw [hW]
    clear hW q0 q1 r0 r1 qB lt0 lt1
    generalize w6.heap.size = i at *
    refine (stNext_B 1 (t + 1) 3 _ _ ⟨⟨by decide, by decide⟩, by decide, by omega, fun _ => rfl⟩ (by decide) (by omega) (by omega) (by omega) (by omega) (by decide) (by omega)).mono ?_
    rintro e w7 ⟨rfl, hb⟩
    replace s0 := cellB hb s0
    replace s1 := cellB hb s1
    replace r2 := cellB hb r2
    replace r3 := cellB hb r3
    replace p0 := cellB hb p0
    replace p1 := cellB hb p1
    replace sB := below_step sB hb
    clear hb
    have u0 : g < w7.heap.size := World.block_lt_of_cell? _ _ s0
    have u1 : h < w7.heap.size := World.block_lt_of_cell? _ _ r2
    have u2 : i < w7.heap.size := World.block_lt_of_cell? _ _ p0
    go_wp2_with (fail)
    refine (stSane_calls _).mono ?_
    rintro e w8 ⟨rfl, hb⟩
    have sB8 : Below w.heap.size w w8 := below_step (sB.alloc sB.size _) hb
    go_wp2_with (fail)
    go_ret
    exact ⟨rfl, sB8⟩
end Go.Proofs.Ytjmmkphdomiohab
