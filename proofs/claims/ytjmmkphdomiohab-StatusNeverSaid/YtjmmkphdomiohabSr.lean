/- The source of numbers of package dynposmake. -/
import Derived.Test.YtjmmkphdomiohabKit
namespace Go.Proofs.Ytjmmkphdomiohab
open Go.ChangeShapes Go.WideShapes Go.ChangeAt Go.RowKit
/-- A source of numbers lies in block b: its list in a block below b, and how many have been given out. -/
def SrcIs (w : World) (b : Nat) : Prop :=
  ∃ (v : Value) (zs : List Int) (k : Nat), w.cell? ⟨b, 0, none⟩ = some v ∧ w.cell? ⟨b, 1, none⟩ = some (.int .i64 k) ∧ w.frozen? ⟨b, 1, none⟩ = false ∧ b < w.heap.size ∧ IntsIn w b v .i64 zs ∧
    (∀ z ∈ zs, (Lit.int .i64 z).wf = true) ∧ k ≤ zs.length ∧ zs.length ≤ 600
theorem SrcIs.kept {w w' : World} {b : Nat} (h : SrcIs w b) (hs : w.heap.size ≤ w'.heap.size) (hk : ∀ i, i ≤ b → w'.heap[i]? = w.heap[i]?) : SrcIs w' b := by
  obtain ⟨v, zs, k, h0, h1, h2, h3, h4, h5, h6, h7⟩ := h
  exact ⟨v, zs, k, by rw [World.cell?_of_block (hk b (Nat.le_refl _))]; exact h0, by rw [World.cell?_of_block (hk b (Nat.le_refl _))]; exact h1,
    by rw [World.frozen?_of_block (hk b (Nat.le_refl _))]; exact h2, Nat.lt_of_lt_of_le h3 hs, h4.kept fun i hi => hk i (Nat.le_of_lt hi), h5, h6, h7⟩
theorem SrcIs.below {w w' : World} {b B : Nat} (h : SrcIs w b) (hb : Below B w w') (hB : b < B) : SrcIs w' b :=
  h.kept hb.size fun i hi => hb.block i (Nat.lt_of_le_of_lt hi hB)
/-- A call at the source in block b has given a number of which P is so; nothing but that source, and new blocks, has changed. -/
def Gave (b : Nat) (w : World) (P : Int → Prop) (e : Ending) (w' : World) : Prop := ∃ x, e = .returned (.int .i64 x) ∧ P x ∧ SrcIs w' b ∧ w.grownBy w' (some b)
def InN (n x : Int) : Prop := (1 ≤ n → 0 ≤ x ∧ x < n) ∧ (n < 1 → x = 0)
def mmod (x n : Int) : Int := if n < 1 then 0 else x % n
theorem mmod_in (x n : Int) : InN n (mmod x n) := by
  unfold mmod InN
  constructor
  · intro h
    rw [if_neg (by omega)]
    exact ⟨Int.emod_nonneg _ (by omega), Int.emod_lt_of_pos _ (by omega)⟩
  · intro h
    rw [if_pos h]
theorem tmod_emod (x n : Int) : x.tmod n % n = x % n := by
  have e := Int.tdiv_mul_add_tmod x n
  have : x % n = (x.tmod n + x.tdiv n * n) % n := by rw [Int.add_comm, e]
  rw [this, Int.add_mul_emod_self_right]
set_option maxHeartbeats 400000 in
theorem mkMod_calls (x n : Int) (w : World) (h2 : n ≤ 4611686018427387904) :
    Calls Try.prog 26 #[.int .i64 x, .int .i64 n] w fun e w' => e = .returned (.int .i64 (mmod x n)) ∧ w' = w := by
  by_cases hn : n < 1
  · go_enter Try.func26, Try.ntmps26
    go_wp2
    go_ret
    exact ⟨ret1 (by unfold mmod; rw [if_pos hn]), rfl⟩
  · have t1 : -n < x.tmod n := Int.lt_tmod_of_pos x (by omega)
    have t2 : x.tmod n < n := Int.tmod_lt_of_pos x (by omega)
    go_enter Try.func26, Try.ntmps26
    go_wp2
    go_ret
    exact ⟨ret1 (by unfold mmod; rw [if_neg (by omega), tmod_emod]), rfl⟩
set_option maxHeartbeats 400000 in
theorem srcN_calls (b : Nat) (n : Int) (w : World) (h : SrcIs w b) (hn : n ≤ 4611686018427387904) :
    Calls Try.prog 12 #[.pointer (some ⟨b, 0, none⟩), .int .i64 n] w (Gave b w (InN n)) := by
  obtain ⟨v, zs, k, h0, h1, h2, h3, h4, h5, h6, h7⟩ := h
  have H4 := Lib.hid h4
  obtain ⟨A, c, rfl, g1, g2, g3, g4⟩ := h4
  by_cases hk : k < zs.length
  · obtain ⟨bl, o, rfl, hbl, hc⟩ := g4 (by omega)
    have hcell := hc k hk
    clear hc g4 g3
    have hne : bl ≠ b := by omega
    unfold maxLen at g2
    go_enter Try.func12, Try.ntmps12
    go_wp2_with (fail)
    go_quiet (fail)
    go_wp2_with (fail)
    have hcell' : ((w.drewN nq).setCell ⟨b, 1, none⟩ (Value.int IntKind.i64 (↑k + 1))).cell? ⟨bl, o + k, none⟩ = some (.int .i64 (zs.getD k 0)) := by
      rw [World.cell?_setCell_other _ _ _ _ (fun e => by injection e with e1; exact hne e1.symm)]; exact hcell
    clear hcell
    go_quiet ((go_at_call 26; exact Calls.quiet_of_same (mkMod_calls _ _ _ hn)))
    go_wp2_with (fail)
    go_ret
    refine ⟨_, rfl, mmod_in _ _, ?_, grownBy_drewN (grownBy_setCell (grownBy_drewN (grownBy_refl _ _) _) _ _) _⟩
    refine ⟨.slice (some ⟨bl, o, none⟩) zs.length c, zs, k + 1, ?_, ?_, ?_, ?_, ?_, h5, by omega, h7⟩
    · exact (World.cell?_setCell_other _ _ _ _ (fun e => by injection e with _ e2; cases e2)).trans h0
    · exact World.cell?_setCell_same _ _ _ h1
    · exact (World.frozen?_setCell _ _ _ _).trans h2
    · simpa [World.setCell] using h3
    · exact H4.out.kept fun i hi => Below.heap_setCell _ _ _ i (by simp only; omega)
  · have hk' : ¬ (k : Int) < zs.length := by omega
    have H3 := Lib.hid g3
    clear g3 g4
    go_enter Try.func12, Try.ntmps12
    go_wp2_with (fail)
    go_quiet (fail)
    go_wp2_with (fail)
    go_ret
    refine ⟨0, rfl, ⟨fun h => by omega, fun _ => rfl⟩, ?_, grownBy_drewN (grownBy_refl _ _) _⟩
    exact ⟨_, zs, k, h0, h1, h2, h3, H4.out, h5, h6, h7⟩
def InR (lo hi x : Int) : Prop := lo ≤ x ∧ x ≤ hi
set_option maxHeartbeats 400000 in
theorem srcRange_calls (b : Nat) (lo hi : Int) (w : World) (h : SrcIs w b) (h1 : lo ≤ hi) (h2 : -1000000000000 ≤ lo) (h3 : hi ≤ 1000000000000) :
    Calls Try.prog 11 #[.pointer (some ⟨b, 0, none⟩), .int .i64 lo, .int .i64 hi] w (Gave b w (InR lo hi)) := by
  go_enter Try.func11, Try.ntmps11
  go_wp2_with (fail)
  refine (srcN_calls b _ _ h (by omega)).mono ?_
  rintro e w1 ⟨x, rfl, hx, hs, hg⟩
  obtain ⟨x0, x1⟩ := hx.1 (by omega)
  go_wp2_with (fail)
  go_ret
  exact ⟨_, rfl, ⟨by omega, by omega⟩, hs, hg⟩
set_option maxHeartbeats 400000 in
theorem srcPick_calls (b : Nat) (v : Value) (zs : List Int) (B : Nat) (w : World) (h : SrcIs w b) (hv : IntsIn w B v .i64 zs) (hB : ∀ g, v.ownBlock = some g → g ≠ b ∧ g < w.heap.size) (h1 : 1 ≤ zs.length) (h2 : zs.length ≤ 1000) :
    Calls Try.prog 29 #[.pointer (some ⟨b, 0, none⟩), v] w (Gave b w (· ∈ zs)) := by
  obtain ⟨A, c, rfl, g1, g2, g3, g4⟩ := hv
  obtain ⟨bl, o, rfl, hbl, hc⟩ := g4 (by omega)
  unfold maxLen at g2
  obtain ⟨hne, hlt⟩ := hB bl rfl
  clear g3 g4 hB
  have HC := Lib.hid hc
  clear hc
  go_enter Try.func29, Try.ntmps29
  go_wp2_with (fail)
  refine (srcN_calls b _ _ h (by omega)).mono ?_
  rintro e w1 ⟨x, rfl, hx, hs, hg⟩
  obtain ⟨x0, x1⟩ := hx.1 (by omega)
  obtain ⟨j, rfl⟩ := Int.eq_ofNat_of_zero_le x0
  have hj : j < zs.length := by omega
  have hcell : w1.cell? ⟨bl, o + j, none⟩ = some (.int .i64 (zs.getD j 0)) := by
    rw [World.cell?_of_block (hg.block bl hlt (by intro e; injection e with e; exact hne e))]
    exact HC.out j hj
  clear hx
  go_wp2_with (fail)
  go_ret
  refine ⟨_, rfl, ?_, hs, hg⟩
  simp
theorem SrcIs.alloc {w : World} {b : Nat} (h : SrcIs w b) (o : Obj) : SrcIs (w.alloc o) b := by
  have hb : b < w.heap.size := by obtain ⟨_, _, _, _, _, _, h3, _⟩ := h; exact h3
  exact h.kept (by simp) fun i hi => Below.heap_alloc w o i (by omega)
theorem SrcIs.lt {w : World} {b : Nat} (h : SrcIs w b) : b < w.heap.size := by obtain ⟨_, _, _, _, _, _, h3, _⟩ := h; exact h3
/-- 'Pick' of numbers that are written out. -/
theorem srcPickLit_calls (b : Nat) (zs : List Int) (t : TypeId) (n g : Nat) (w : World) (h : SrcIs w b) (hg : g = w.heap.size) (h1 : 1 ≤ zs.length) (h2 : zs.length ≤ 1000) (hn : zs.length = n) :
    Calls Try.prog 29 #[.pointer (some ⟨b, 0, none⟩), .slice (some ⟨g, 0, none⟩) n n] (w.alloc (.cells (zs.map (Value.int .i64)).toArray t)) (Gave b w (· ∈ zs)) := by
  subst hn
  subst hg
  refine (srcPick_calls b _ zs (w.heap.size + 1) _ (h.alloc _) (intsIn_new w zs t h2) (fun g hg => ?_) h1 h2).mono ?_
  · have : g = w.heap.size := by simpa [Value.ownBlock] using hg.symm
    subst this
    have := h.lt
    exact ⟨by omega, by simp⟩
  · rintro e w1 ⟨x, he, hx, hs, hg⟩
    exact ⟨x, he, hx, hs, grownBy_trans (grownBy_alloc' (grownBy_refl _ _) _) hg⟩
set_option maxHeartbeats 400000 in
theorem srcNew_calls (v : Value) (zs : List Int) (w : World) (hv : IntsIn w w.heap.size v .i64 zs) (hz : ∀ z ∈ zs, (Lit.int .i64 z).wf = true) :
    Calls Try.prog 10 #[v] w fun e w' => e = .returned (.pointer (some ⟨w.heap.size, 0, none⟩)) ∧ SrcIs w' w.heap.size ∧ Below w.heap.size w w' := by
  have HV := Lib.hid hv
  have HZ := Lib.hid hz
  obtain ⟨A, c, rfl, g1, g2, g3, g4⟩ := hv
  unfold maxLen at g2
  clear g3 g4 hz
  by_cases hl : 600 < (zs.length : Int)
  all_goals
    go_enter Try.func10, Try.ntmps10
    go_wp2_with (fail)
    go_ret
    refine ⟨rfl, ?_, (Below.refl _ _).alloc (Nat.le_refl _) _⟩
  · obtain ⟨A', c', e, g1, g2, g3, g4⟩ := HV.out
    injection e with e1 e2 e3
    subst e1; subst e3
    have ht : (zs.take 600).length = 600 := by rw [List.length_take]; omega
    refine ⟨_, zs.take 600, 0, by simp; rfl, by simp, by simp, by simp, ⟨A, c, by rw [ht], by omega, g2, g3, fun _ => ?_⟩, fun z hz => HZ.out z (List.mem_of_mem_take hz), by omega, by omega⟩
    obtain ⟨bl, o, ha, hb, hc⟩ := g4 (by omega)
    refine ⟨bl, o, ha, hb, fun j hj => ?_⟩
    rw [World.cell?_alloc_lt _ _ _ hb, hc j (by omega)]
    rw [ht] at hj
    simp [List.getD_eq_getElem?_getD, hj]
  · obtain ⟨A', c', e, g1, g2, g3, g4⟩ := HV.out
    injection e with e1 e2 e3
    subst e1; subst e3
    refine ⟨_, zs, 0, by simp, by simp, by simp, by simp, ⟨A, c, rfl, g1, g2, g3, fun h0 => ?_⟩, HZ.out, by omega, by omega⟩
    obtain ⟨bl, o, ha, hb, hc⟩ := g4 h0
    exact ⟨bl, o, ha, hb, fun j hj => by rw [World.cell?_alloc_lt _ _ _ hb, hc j hj]⟩
end Go.Proofs.Ytjmmkphdomiohab
