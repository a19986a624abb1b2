/- The walk of StatusSteps. -/
import Derived.Test.YtjmmkphdomiohabStSane
import Derived.Test.YtjmmkphdomiohabStLev
namespace Go.Proofs.Ytjmmkphdomiohab
open Go.RowKit
theorem step_facts (l b t z d : Int) : St.nl l b t z d ≤ l + 1 ∧ (z < l → St.nl l b t z d = z) ∧ (l ≤ z → l ≤ St.nl l b t z d) := by
  unfold St.nl
  by_cases h : z ≤ l
  · rw [if_pos h]; omega
  · rw [if_neg h]
    split <;> omega
set_option maxHeartbeats 2000000 in
set_option maxRecDepth 100000 in
theorem StatusSteps_walk (w : World) (l : Value) (ts : List Int) (hl : IntsIn w w.heap.size l .i64 ts) (hts : ∀ z ∈ ts, (Lit.int .i64 z).wf = true) (n : Int) (hn : (Lit.int .u8 n).wf = true) :
    Calls Try.prog 5 #[l, .int .u8 n] w fun e w' => e = .returned (.bool true) ∧ Below w.heap.size w w' := by
  have e3 : IntKind.u8.min = 0 := rfl
  have e4 : IntKind.u8.max = 255 := rfl
  have bn : IntKind.u8.min ≤ n ∧ n ≤ IntKind.u8.max := by simpa [Lit.wf] using hn
  rw [e3, e4] at bn
  clear hn e3 e4
  obtain ⟨n0, n1⟩ := bn
  have HL := Lib.hid hl
  have HT := Lib.hid hts
  obtain ⟨A, c, rfl, k1, k2, _, _⟩ := hl
  unfold maxLen at k2
  clear hts
  by_cases hn : (600 : Int) < ts.length
  · go_enter Try.func5, Try.ntmps5
    go_wp2_with (fail)
    refine (stSane_calls _).mono ?_
    rintro e w1 ⟨rfl, hb⟩
    go_wp2_with (fail)
    go_ret
    exact ⟨rfl, hb⟩
  · go_enter Try.func5, Try.ntmps5
    go_wp2_with (fail)
    refine (srcNew_calls _ ts _ HL.out HT.out).mono ?_
    rintro e w1 ⟨rfl, hs1, hb1⟩
    clear HL HT
    go_wp2_with (fail)
    refine (levels_calls _ 30 _ hs1 (by decide)).mono ?_
    rintro e w2 ⟨v, zs, rfl, hv, hz, hm, hs2, hg2⟩
    have sB : Below w.heap.size w w2 := below_grownBy hb1 hg2 (Nat.le_refl _) hb1.size
    have HV := Lib.hid hv
    have HZ := Lib.hid hz
    obtain ⟨A2, c2, rfl, l1, l2, _, _⟩ := hv
    unfold maxLen at l2
    clear hs1 hg2 hb1 hs2 hz
    go_wp2_with (fail)
    refine (stRun_calls _ zs _ _ HV.out HZ.out (by omega) (by omega) (by omega)).mono ?_
    rintro e w3 ⟨g, hgz, rfl, ho, hb⟩
    have hv3 := Lib.hid (HV.out.kept fun b hb' => hb.block b hb')
    have sB3 := below_step sB hb
    have hsz := hb.size
    have HO := Lib.hid ho
    clear hb sB HV ho
    go_wp2_with (fail)
    go_loopw [40, 10] (fun i p wr => ∃ k : Nat, k ≤ zs.length ∧ i = .int .i64 k ∧ p = .int .i64 (St.cl zs (n % 6) k).1 ∧ Below w3.heap.size w3 wr) (fun i _ _ => zs.length - (intOf i).toNat)
    case atStart => exact ⟨0, by omega, rfl, rfl, Below.refl _ _⟩
    case round =>
      obtain ⟨k, hk, rfl, rfl, hw⟩ := hrel
      by_cases hlt : k < zs.length
      · obtain ⟨A4, c4, e2, _, _, _, g4⟩ := hv3.out
        injection e2 with e3 _ e5
        subst e3
        clear e5
        obtain ⟨bl, o, rfl, hbl, hcl⟩ := g4 (by omega)
        have hcell := (hw.cell (p := ⟨bl, o + k, none⟩) (by simp only; omega)).trans (hcl k hlt)
        have hout := (hw.cell (p := ⟨g, k, none⟩) HO.out.1).trans (HO.out.2.2 k hlt)
        rw [if_pos hlt] at hout
        have hok := St.cl_ok zs (n % 6) HZ.out k hk
        have hf : Hid ((St.cl zs (n % 6) (k + 1)).1 = St.nl (St.cl zs (n % 6) k).1 (St.cl zs (n % 6) k).2 k (zs.getD k 0) (n % 6)) := Lib.hid rfl
        have hs := step_facts (St.cl zs (n % 6) k).1 (St.cl zs (n % 6) k).2 k (zs.getD k 0) (n % 6)
        rw [← hf.out] at hs
        obtain ⟨X, hX⟩ : ∃ X, (St.cl zs (n % 6) (k + 1)).1 = X := ⟨_, rfl⟩
        have hX2 := Lib.hid hX
        simp only [hX] at hout hs
        obtain ⟨⟨p1, p2⟩, _⟩ := hok
        have HW := Lib.hid hw
        clear hX hf hcl g4 hw
        generalize zs.getD k 0 = z at hcell hs
        generalize (St.cl zs (n % 6) k).1 = P at hs p1 p2 ⊢
        obtain ⟨q1, q2, q3⟩ := hs
        have b1 : decide (P + 1 < X) = false := decide_eq_false (by omega)
        by_cases hzp : z < P
        · have b2 : decide (z < P) = true := decide_eq_true hzp
          have b3 : decide (P ≤ z) = false := decide_eq_false (by omega)
          have b4 := q2 hzp
          subst b4
          clear q1 q2 q3
          go_wp2_with (fail)
          go_quiet (fail)
          go_wp2_with (fail)
          go_roundw
          case rel => exact ⟨k + 1, by omega, by go_num, by rw [hX2.out], below_drewN HW.out _⟩
          case measure => simp [intOf]; omega
        · have b2 : decide (z < P) = false := decide_eq_false hzp
          have b3 : decide (P ≤ z) = true := decide_eq_true (by omega)
          have b4 : decide (X < P) = false := decide_eq_false (by have := q3 (by omega); omega)
          clear q1 q2 q3
          go_wp2_with (fail)
          go_quiet (fail)
          go_wp2_with (fail)
          go_roundw
          case rel => exact ⟨k + 1, by omega, by go_num, by rw [hX2.out], below_drewN HW.out _⟩
          case measure => simp [intOf]; omega
      · go_wp2_with (fail)
        refine (stSane_calls _).mono ?_
        rintro e w4 ⟨rfl, hb⟩
        go_wp2_with (fail)
        go_ret
        exact ⟨rfl, below_step (below_step sB3 hw) hb⟩
end Go.Proofs.Ytjmmkphdomiohab
