/- The source of numbers of package dynposmake: its list in blocks below m. -/
import Derived.Test.YthfagiihfkjamaaKit
namespace Go.Proofs.Ythfagiihfkjamaa
open Go.ChangeShapes Go.WideShapes Go.ChangeAt Go.RowKit
/-- A source of numbers lies in block b: its list in a block below m, and how many have been given out. -/
def SrcM (m : Nat) (w : World) (b : Nat) : Prop :=
  ∃ (v : Value) (zs : List Int) (k : Nat), w.cell? ⟨b, 0, none⟩ = some v ∧ w.cell? ⟨b, 1, none⟩ = some (.int .i64 k) ∧ w.frozen? ⟨b, 1, none⟩ = false ∧ b < w.heap.size ∧ (IntsIn w m v .i64 zs ∧ m ≤ b) ∧
    (∀ z ∈ zs, (Lit.int .i64 z).wf = true) ∧ k ≤ zs.length ∧ zs.length ≤ 600
theorem SrcM.kept {m : Nat} {w w' : World} {b : Nat} (h : SrcM m w b) (hs : w.heap.size ≤ w'.heap.size) (hk : ∀ i, i < m ∨ i = b → w'.heap[i]? = w.heap[i]?) : SrcM m w' b := by
  obtain ⟨v, zs, k, h0, h1, h2, h3, h4, h5, h6, h7⟩ := h
  exact ⟨v, zs, k, by rw [World.cell?_of_block (hk b (.inr rfl))]; exact h0, by rw [World.cell?_of_block (hk b (.inr rfl))]; exact h1,
    by rw [World.frozen?_of_block (hk b (.inr rfl))]; exact h2, Nat.lt_of_lt_of_le h3 hs, ⟨h4.1.kept fun i hi => hk i (.inl hi), h4.2⟩, h5, h6, h7⟩
theorem SrcM.lt {m : Nat} {w : World} {b : Nat} (h : SrcM m w b) : b < w.heap.size := by obtain ⟨_, _, _, _, _, _, h3, _⟩ := h; exact h3
theorem SrcM.le {m : Nat} {w : World} {b : Nat} (h : SrcM m w b) : m ≤ b := by obtain ⟨_, _, _, _, _, _, _, h4, _⟩ := h; exact h4.2
/-- A call at the source in block b has given a value of which R is so; nothing but that source, and new blocks, has changed. -/
def GaveM (m b : Nat) (w : World) (R : Value → Prop) (e : Ending) (w' : World) : Prop := ∃ v, e = .returned v ∧ R v ∧ SrcM m w' b ∧ w.grownBy w' (some b)
def InN (n x : Int) : Prop := (1 ≤ n → 0 ≤ x ∧ x < n) ∧ (n < 1 → x = 0)
def mmod (x n : Int) : Int := if n < 1 then 0 else x % n
theorem mmod_in (x n : Int) : InN n (mmod x n) := by
  unfold mmod InN
  constructor
  · intro h
    rw [if_neg (by omega)]
    exact ⟨Int.emod_nonneg _ (by omega), Int.emod_lt_of_pos _ (by omega)⟩
  · intro h
    rw [if_pos h]
theorem tmod_emod (x n : Int) : x.tmod n % n = x % n := by
  have e := Int.tdiv_mul_add_tmod x n
  have : x % n = (x.tmod n + x.tdiv n * n) % n := by rw [Int.add_comm, e]
  rw [this, Int.add_mul_emod_self_right]
set_option maxHeartbeats 400000 in
theorem mkMod_calls (x n : Int) (w : World) (h2 : n ≤ 4611686018427387904) :
    Calls Try.prog 52 #[.int .i64 x, .int .i64 n] w fun e w' => e = .returned (.int .i64 (mmod x n)) ∧ w' = w := by
  by_cases hn : n < 1
  · go_enter Try.func52, Try.ntmps52
    go_wp2
    go_ret
    exact ⟨ret1 (by unfold mmod; rw [if_pos hn]), rfl⟩
  · have t1 : -n < x.tmod n := Int.lt_tmod_of_pos x (by omega)
    have t2 : x.tmod n < n := Int.tmod_lt_of_pos x (by omega)
    go_enter Try.func52, Try.ntmps52
    go_wp2
    go_ret
    exact ⟨ret1 (by unfold mmod; rw [if_neg (by omega), tmod_emod]), rfl⟩
set_option maxHeartbeats 400000 in
theorem srcN_calls (m b : Nat) (n : Int) (w : World) (h : SrcM m w b) (hn : n ≤ 4611686018427387904) :
    Calls Try.prog 25 #[.pointer (some ⟨b, 0, none⟩), .int .i64 n] w (GaveM m b w fun v => ∃ x, v = .int .i64 x ∧ InN n x) := by
  obtain ⟨v, zs, k, h0, h1, h2, h3, h4, h5, h6, h7⟩ := h
  have H4 := Lib.hid h4
  obtain ⟨⟨A, c, rfl, g1, g2, g3, g4⟩, hmb⟩ := h4
  by_cases hk : k < zs.length
  · obtain ⟨bl, o, rfl, hbl, hc⟩ := g4 (by omega)
    have hcell := hc k hk
    clear hc g4 g3
    have hne : bl ≠ b := by omega
    unfold maxLen at g2
    go_enter Try.func25, Try.ntmps25
    go_wp2_with (fail)
    go_quiet (fail)
    go_wp2_with (fail)
    have hcell' : ((w.drewN nq).setCell ⟨b, 1, none⟩ (Value.int IntKind.i64 (↑k + 1))).cell? ⟨bl, o + k, none⟩ = some (.int .i64 (zs.getD k 0)) := by
      rw [World.cell?_setCell_other _ _ _ _ (fun e => by injection e with e1; exact hne e1.symm)]; exact hcell
    clear hcell
    go_quiet ((go_at_call 52; exact Calls.quiet_of_same (mkMod_calls _ _ _ hn)))
    go_wp2_with (fail)
    go_ret
    refine ⟨_, rfl, ⟨_, rfl, mmod_in _ _⟩, ?_, grownBy_drewN (grownBy_setCell (grownBy_drewN (grownBy_refl _ _) _) _ _) _⟩
    refine ⟨.slice (some ⟨bl, o, none⟩) zs.length c, zs, k + 1, ?_, ?_, ?_, ?_, ?_, h5, by omega, h7⟩
    · exact (World.cell?_setCell_other _ _ _ _ (fun e => by injection e with _ e2; cases e2)).trans h0
    · exact World.cell?_setCell_same _ _ _ h1
    · exact (World.frozen?_setCell _ _ _ _).trans h2
    · simpa [World.setCell] using h3
    · exact ⟨H4.out.1.kept fun i hi => Below.heap_setCell _ _ _ i (by simp only; omega), H4.out.2⟩
  · have hk' : ¬ (k : Int) < zs.length := by omega
    have H3 := Lib.hid g3
    clear g3 g4
    go_enter Try.func25, Try.ntmps25
    go_wp2_with (fail)
    go_quiet (fail)
    go_wp2_with (fail)
    go_ret
    refine ⟨.int .i64 0, rfl, ⟨0, rfl, fun h => by omega, fun _ => rfl⟩, ?_, grownBy_drewN (grownBy_refl _ _) _⟩
    exact ⟨_, zs, k, h0, h1, h2, h3, H4.out, h5, h6, h7⟩
set_option maxHeartbeats 400000 in
theorem srcNew_calls (m : Nat) (v : Value) (zs : List Int) (w : World) (hm : m ≤ w.heap.size) (hv : IntsIn w m v .i64 zs) (hz : ∀ z ∈ zs, (Lit.int .i64 z).wf = true) :
    Calls Try.prog 16 #[v] w fun e w' => e = .returned (.pointer (some ⟨w.heap.size, 0, none⟩)) ∧ SrcM m w' w.heap.size ∧ Below w.heap.size w w' := by
  have HV := Lib.hid hv
  have HZ := Lib.hid hz
  obtain ⟨A, c, rfl, g1, g2, g3, g4⟩ := hv
  unfold maxLen at g2
  clear g3 g4 hz
  by_cases hl : 600 < (zs.length : Int)
  all_goals
    go_enter Try.func16, Try.ntmps16
    go_wp2_with (fail)
    go_ret
    refine ⟨rfl, ?_, (Below.refl _ _).alloc (Nat.le_refl _) _⟩
  · obtain ⟨A', c', e, g1, g2, g3, g4⟩ := HV.out
    injection e with e1 e2 e3
    subst e1; subst e3
    have ht : (zs.take 600).length = 600 := by rw [List.length_take]; omega
    refine ⟨_, zs.take 600, 0, by simp; rfl, by simp, by simp, by simp, ⟨⟨A, c, by rw [ht], by omega, g2, g3, fun _ => ?_⟩, hm⟩, fun z hz => HZ.out z (List.mem_of_mem_take hz), by omega, by omega⟩
    obtain ⟨bl, o, ha, hb, hc⟩ := g4 (by omega)
    refine ⟨bl, o, ha, hb, fun j hj => ?_⟩
    rw [World.cell?_alloc_lt _ _ _ (Nat.lt_of_lt_of_le hb hm), hc j (by omega)]
    rw [ht] at hj
    simp [List.getD_eq_getElem?_getD, hj]
  · obtain ⟨A', c', e, g1, g2, g3, g4⟩ := HV.out
    injection e with e1 e2 e3
    subst e1; subst e3
    refine ⟨_, zs, 0, by simp, by simp, by simp, by simp, ⟨⟨A, c, rfl, g1, g2, g3, fun h0 => ?_⟩, hm⟩, HZ.out, by omega, by omega⟩
    obtain ⟨bl, o, ha, hb, hc⟩ := g4 h0
    exact ⟨bl, o, ha, hb, fun j hj => by rw [World.cell?_alloc_lt _ _ _ (Nat.lt_of_lt_of_le hb hm), hc j hj]⟩
end Go.Proofs.Ythfagiihfkjamaa
