/- Equal rows of numbers. -/
import Derived.Test.YtjmmkphdomiohabKit2
namespace Go.Proofs.Ytjmmkphdomiohab
open Go.RowKit
set_option maxHeartbeats 1600000 in
theorem ints_t (v u : Value) (zs : List Int) (w : World) (hv : IntsIn w w.heap.size v .i64 zs) (hu : IntsIn w w.heap.size u .i64 zs) :
    Calls Try.prog 22 #[v, u] w fun e w' => e = .returned (.bool true) ∧ Below w.heap.size w w' := by
  have HV := Lib.hid hv
  have HU := Lib.hid hu
  obtain ⟨A, c, rfl, g1, g2, _, _⟩ := hv
  obtain ⟨D, f, rfl, k1, k2, _, _⟩ := hu
  unfold maxLen at g2 k2
  go_enter Try.func22, Try.ntmps22
  go_wp2_with (fail)
  go_loopw [13] (fun i wr => ∃ k : Nat, k ≤ zs.length ∧ i = .int .i64 k ∧ Below w.heap.size w wr) (fun i _ => zs.length - (intOf i).toNat)
  case atStart => exact ⟨0, by omega, rfl, Below.refl _ _⟩
  case round =>
    obtain ⟨k, hk, rfl, sB⟩ := hrel
    by_cases hlt : k < zs.length
    · obtain ⟨A2, c2, e2, _, _, _, g4⟩ := HV.out
      injection e2 with e3 _ e5
      subst e3
      clear e5
      obtain ⟨bl, o, rfl, hbl, hcl⟩ := g4 (by omega)
      obtain ⟨A3, c3, e2, _, _, _, g5⟩ := HU.out
      injection e2 with e3 _ e5
      subst e3
      clear e5
      obtain ⟨bm, q, rfl, hbm, hcm⟩ := g5 (by omega)
      have hcell := (sB.cell (p := ⟨bl, o + k, none⟩) hbl).trans (hcl k hlt)
      have hcell2 := (sB.cell (p := ⟨bm, q + k, none⟩) hbm).trans (hcm k hlt)
      clear hcl hcm g4 g5
      generalize zs.getD k 0 = z at hcell hcell2
      go_wp2_with (fail)
      go_quiet (fail)
      go_wp2_with (fail)
      go_roundw
      case rel => exact ⟨k + 1, by omega, by go_num, below_drewN sB _⟩
      case measure => simp [intOf]; omega
    · go_wp2_with (fail)
      go_ret
      exact ⟨rfl, sB⟩
end Go.Proofs.Ytjmmkphdomiohab
