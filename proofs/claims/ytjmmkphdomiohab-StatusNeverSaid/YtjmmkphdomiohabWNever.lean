/- The walk of StatusNever. -/
import Derived.Test.YtjmmkphdomiohabStSane
import Derived.Test.YtjmmkphdomiohabStLev
namespace Go.Proofs.Ytjmmkphdomiohab
open Go.RowKit
namespace St
/-- The class behind the first k levels is no better than any of the last d + 1 of them, and worse than each since its time. -/
def Good (zs : List Int) (d : Int) (k : Nat) (c : Int × Int) : Prop :=
  (∀ j : Nat, j < k → (k : Int) - 1 - d ≤ j → c.1 ≤ zs.getD j 0) ∧ (c.2 ≠ -1 → ∀ j : Nat, j < k → c.2 ≤ j → c.1 < zs.getD j 0)
theorem good_step (zs : List Int) (d : Int) (k : Nat) (l b : Int) (hl : b ≤ k) (h : Good zs d k (l, b)) :
    Good zs d (k + 1) (nl l b k (zs.getD k 0) d, nb l b k (zs.getD k 0) d) := by
  obtain ⟨h1, h2⟩ := h
  simp only at h1 h2
  unfold nl nb
  by_cases c1 : zs.getD k 0 ≤ l
  · rw [if_pos c1, if_pos c1]
    refine ⟨fun j hj hd => ?_, fun h => absurd rfl h⟩
    simp only
    by_cases e : j = k
    · subst e; omega
    · have := h1 j (by omega) (by omega)
      omega
  · rw [if_neg c1, if_neg c1]
    have hb : ∀ j : Nat, j < k + 1 → pb b k ≤ j → l < zs.getD j 0 := by
      intro j hj hbj
      by_cases e : j = k
      · subst e; omega
      · unfold pb at hbj
        by_cases e2 : b = -1
        · rw [if_pos e2] at hbj; omega
        · rw [if_neg e2] at hbj
          exact h2 e2 j (by omega) hbj
    by_cases c2 : (k : Int) - pb b k < d
    · rw [if_pos c2, if_pos c2]
      refine ⟨fun j hj hd => ?_, fun _ j hj hbj => hb j hj hbj⟩
      simp only
      by_cases e : j = k
      · subst e; omega
      · exact h1 j (by omega) (by omega)
    · rw [if_neg c2, if_neg c2]
      refine ⟨fun j hj hd => ?_, fun hne j hj hbj => ?_⟩
      · have := hb j hj (by omega)
        simp only
        omega
      · simp only at hne hbj ⊢
        by_cases c3 : zs.getD k 0 = l + 1
        · rw [if_pos c3] at hne; exact absurd rfl hne
        · rw [if_neg c3] at hbj
          have : j = k := by omega
          subst this
          omega
theorem cl_good (zs : List Int) (d : Int) (hz : ∀ z ∈ zs, Lev z) (k : Nat) (hk : k ≤ zs.length) : Good zs d k (cl zs d k) := by
  induction k with
  | zero => exact ⟨fun j hj => by omega, fun _ j hj => by omega⟩
  | succ k ih => exact good_step zs d k _ _ (cl_ok zs d hz k (by omega)).2.2.1 (ih (by omega))
end St
set_option maxHeartbeats 2000000 in
set_option maxRecDepth 100000 in
theorem StatusNever_walk (w : World) (l : Value) (ts : List Int) (hl : IntsIn w w.heap.size l .i64 ts) (hts : ∀ z ∈ ts, (Lit.int .i64 z).wf = true) (n : Int) (hn : (Lit.int .u8 n).wf = true) :
    Calls Try.prog 4 #[l, .int .u8 n] w fun e w' => e = .returned (.bool true) ∧ Below w.heap.size w w' := by
  have e3 : IntKind.u8.min = 0 := rfl
  have e4 : IntKind.u8.max = 255 := rfl
  have bn : IntKind.u8.min ≤ n ∧ n ≤ IntKind.u8.max := by simpa [Lit.wf] using hn
  rw [e3, e4] at bn
  clear hn e3 e4
  obtain ⟨n0, n1⟩ := bn
  have HL := Lib.hid hl
  have HT := Lib.hid hts
  obtain ⟨A, c, rfl, k1, k2, _, _⟩ := hl
  unfold maxLen at k2
  clear hts
  by_cases hn : (600 : Int) < ts.length
  · go_enter Try.func4, Try.ntmps4
    go_wp2_with (fail)
    refine (stSane_calls _).mono ?_
    rintro e w1 ⟨rfl, hb⟩
    go_wp2_with (fail)
    go_ret
    exact ⟨rfl, hb⟩
  · go_enter Try.func4, Try.ntmps4
    go_wp2_with (fail)
    refine (srcNew_calls _ ts _ HL.out HT.out).mono ?_
    rintro e w1 ⟨rfl, hs1, hb1⟩
    clear HL HT
    go_wp2_with (fail)
    refine (levels_calls _ 30 _ hs1 (by decide)).mono ?_
    rintro e w2 ⟨v, zs, rfl, hv, hz, hm, hs2, hg2⟩
    have sB : Below w.heap.size w w2 := below_grownBy hb1 hg2 (Nat.le_refl _) hb1.size
    have HV := Lib.hid hv
    have HZ := Lib.hid hz
    obtain ⟨A2, c2, rfl, l1, l2, _, _⟩ := hv
    unfold maxLen at l2
    clear hs1 hg2 hb1 hs2 hz
    go_wp2_with (fail)
    refine (stRun_calls _ zs _ _ HV.out HZ.out (by omega) (by omega) (by omega)).mono ?_
    rintro e w3 ⟨g, hgz, rfl, ho, hb⟩
    have hv3 := Lib.hid (HV.out.kept fun b hb' => hb.block b hb')
    have sB3 := below_step sB hb
    have hsz := hb.size
    have HO := Lib.hid ho
    clear hb sB HV ho
    go_wp2_with (fail)
    go_loopw [40] (fun i wr => ∃ k : Nat, k ≤ zs.length ∧ i = .int .i64 k ∧ Below w3.heap.size w3 wr) (fun i _ => zs.length - (intOf i).toNat)
    case atStart => exact ⟨0, by omega, rfl, Below.refl _ _⟩
    case round =>
      obtain ⟨k, hk, rfl, hw⟩ := hrel
      by_cases hlt : k < zs.length
      · obtain ⟨A4, c4, e2, _, _, _, g4⟩ := hv3.out
        injection e2 with e3 _ e5
        subst e3
        clear e5
        obtain ⟨bl, o, rfl, hbl, hcl⟩ := g4 (by omega)
        have hcl2 := Lib.hid hcl
        have hgood := Lib.hid (St.cl_good zs (n % 6) HZ.out (k + 1) hlt).1
        have HW := Lib.hid hw
        clear hcl g4 hw
        go_wp2_with (fail)
        all_goals
          obtain ⟨wo, ho⟩ : ∃ wo : World, wo = wr := ⟨_, rfl⟩
          rw [← ho] at HW
          go_loopw [11] (fun i wr => ∃ j : Nat, j ≤ k + 1 ∧ (k : Int) - n % 6 ≤ j ∧ i = .int .i64 j ∧ Below w3.heap.size w3 wr) (fun i _ => k + 1 - (intOf i).toNat)
          case atStart => exact ⟨(max 0 ((k : Int) - n % 6)).toNat, by omega, by omega, by congr 1; omega, ho ▸ HW.out⟩
          case round =>
            clear HW ho
            obtain ⟨j, hj, hjd, rfl, hw⟩ := hrel
            by_cases hjk : j ≤ k
            · have hcell := (hw.cell (p := ⟨bl, o + j, none⟩) (by simp only; omega)).trans (hcl2.out j (by omega))
              have hout := (hw.cell (p := ⟨g, k, none⟩) HO.out.1).trans (HO.out.2.2 k hlt)
              rw [if_pos hlt] at hout
              have hle := hgood.out j (by omega) (by omega)
              simp only at hout
              generalize (St.cl zs (n % 6) (k + 1)).1 = X at hout hle
              generalize zs.getD j 0 = z at hcell hle
              have HW := Lib.hid hw
              clear hw
              have b1 : decide (z < X) = false := decide_eq_false (by omega)
              go_wp2_with (fail)
              go_quiet (fail)
              go_wp2_with (fail)
              go_roundw
              case rel => exact ⟨j + 1, by omega, by omega, by go_num, below_drewN HW.out _⟩
              case measure => simp [intOf]; omega
            · go_wp2_with (fail)
              go_roundw
              case rel => exact ⟨k + 1, by omega, by go_num, hw⟩
              case measure => simp [intOf]; omega
      · go_wp2_with (fail)
        refine (stSane_calls _).mono ?_
        rintro e w4 ⟨rfl, hb⟩
        go_wp2_with (fail)
        go_ret
        exact ⟨rfl, below_step (below_step sB3 hw) hb⟩
end Go.Proofs.Ytjmmkphdomiohab
