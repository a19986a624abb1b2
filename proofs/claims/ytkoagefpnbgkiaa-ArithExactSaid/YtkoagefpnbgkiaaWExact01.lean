/- The walk of ArithExact. -/
import Derived.Test.YtkoagefpnbgkiaaArSane
import Derived.Test.YtkoagefpnbgkiaaArC
import Derived.Test.YtkoagefpnbgkiaaSrc
import Derived.Deep.DeepCutAuto
namespace Go.Proofs.Ytkoagefpnbgkiaa
open Go.RowKit
def ListAt (w : World) (g n : Nat) (zs : List Int) : Prop := g < w.heap.size ∧ ∀ j, j < n → w.cell? ⟨g, j, none⟩ = some (.int .i64 (zs.getD j 0))
theorem ListAt.below {w w' : World} {g n : Nat} {zs : List Int} (h : ListAt w g n zs) (hb : Below w.heap.size w w') : ListAt w' g n zs :=
  ⟨Nat.lt_of_lt_of_le h.1 hb.size, fun j hj => by rw [hb.cell (p := ⟨g, j, none⟩) h.1]; exact h.2 j hj⟩
theorem below_step {a b c : World} (h : Below a.heap.size a b) (k : Below b.heap.size b c) : Below a.heap.size a c := h.trans (k.mono h.size)
set_option maxRecDepth 100000 in
set_option maxHeartbeats 1000000 in
theorem ArithExact_walk (w : World) (t : Value) (ts : List Int) (ht : IntsIn w w.heap.size t .i64 ts) (hts : ∀ z ∈ ts, (Lit.int .i64 z).wf = true) (n : Int) (_ : (Lit.int .i64 n).wf = true) (d : Int) (_ : (Lit.int .i64 d).wf = true) (k : Int) (_ : (Lit.int .i64 k).wf = true) :
    Calls Try.prog 5 #[t, .int .i64 n, .int .i64 d, .int .i64 k] w fun e w' => e = .returned (.bool true) ∧ Below w.heap.size w w' := by
  go_enter Try.func5, Try.ntmps5
  go_wp2_with (fail)
  refine (srcNew_calls _ ts _ ht hts).mono ?_
  rintro e w1 ⟨rfl, hs1, hb1⟩
  clear ht hts
  go_wp2_with (fail)
  refine (srcOdd_calls _ _ hs1).mono ?_
  rintro e w2 ⟨x, rfl, _, hs2, hg2⟩
  go_wp2_with (fail)
  refine (srcRange_calls _ _ _ _ hs2 (by omega) (by omega) (by omega)).mono ?_
  rintro e w3 ⟨y, rfl, _, hs3, hg3⟩
  go_wp2_with (fail)
  refine (srcRange_calls _ _ _ _ hs3 (by omega) (by omega) (by omega)).mono ?_
  rintro e w4 ⟨z, rfl, _, hs4, hg4⟩
  have hg := grownBy_trans hg2 (grownBy_trans hg3 hg4)
  have hb4 : Below w.heap.size w w4 := below_grownBy hb1 hg (Nat.le_refl _) hb1.size
  clear hg2 hg3 hg4 hg hs1 hs2 hs3 hs4 hb1
  go_wp2_with (fail)
  have la : ListAt (w4.alloc (Obj.cells #[Value.int .i64 n, Value.int .i64 d, Value.int .i64 k, Value.int .i64 x, Value.int .i64 y, Value.int .i64 z] 3)) w4.heap.size 6 [n, d, k, x, y, z] := by
    refine ⟨by simp, fun j hj => ?_⟩
    match j, hj with
    | 0, _ | 1, _ | 2, _ | 3, _ | 4, _ | 5, _ => simp
  have bb := hb4.alloc hb4.size (Obj.cells #[Value.int .i64 n, Value.int .i64 d, Value.int .i64 k, Value.int .i64 x, Value.int .i64 y, Value.int .i64 z] 3)
  generalize [n, d, k, x, y, z] = zs at la
  generalize w4.heap.size = g at la ⊢
  go_loopw [35] (fun i wr => ∃ k : Nat, k ≤ 6 ∧ i = .int .i64 k ∧ Below w.heap.size w wr ∧ ListAt wr g 6 zs) (fun i _ => 6 - (intOf i).toNat)
  case atStart => exact ⟨0, by omega, rfl, bb, la⟩
  case round =>
    clear bb la hb4
    obtain ⟨i, hi, rfl, bb, la⟩ := hrel
    by_cases hlt : i < 6
    · have hcell := la.2 i hlt
      go_wp2_with (fail)
      refine (root_calls _ _).mono ?_
      rintro e w' ⟨rfl, rfl⟩
      go_wp2_with (fail)
      refine (rroot_calls _ _).mono ?_
      rintro e w' ⟨rfl, rfl⟩
      clear hcell
      go_wp2_with (fail)
      generalize zs[i]?.getD 0 = a
      go_wp2_with (fail)
      clear w1 w2 w3 w4
      obtain ⟨wo, ho⟩ : ∃ wo : World, wo = wr := ⟨_, rfl⟩
      clear ho wo
      go_loopw [59] (fun j wr => ∃ k : Nat, k ≤ 6 ∧ j = .int .i64 k ∧ Below w.heap.size w wr ∧ ListAt wr g 6 zs) (fun j _ => 6 - (intOf j).toNat)
      case atStart => exact ⟨0, by omega, rfl, bb, la⟩
      case round =>
        clear bb la
        obtain ⟨j, hj, rfl, bb, la⟩ := hrel
        by_cases hlt2 : j < 6
        · have hcell := la.2 j hlt2
          go_wp2_with (fail)
          clear hcell
          generalize zs[j]?.getD 0 = b
          go_wp2_with (fail)
          refine (floor_calls _ _ _).mono ?_
          rintro e vfloor ⟨rfl, hv⟩
          replace la := la.below hv
          replace bb := below_step bb hv
          clear hv
          go_wp2_with (fail)
          refine (rfloor_calls _ _ _).mono ?_
          rintro e v' ⟨rfl, rfl⟩
          go_wp2_with (fail)
          refine (half_calls _ _ _).mono ?_
          rintro e vhalf ⟨rfl, hv⟩
          replace la := la.below hv
          replace bb := below_step bb hv
          clear hv
          go_wp2_with (fail)
          refine (rhalf_calls _ _ _).mono ?_
          rintro e v' ⟨rfl, rfl⟩
          go_wp2_with (fail)
          refine (up_calls _ _ _).mono ?_
          rintro e vup ⟨rfl, hv⟩
          replace la := la.below hv
          replace bb := below_step bb hv
          clear hv
          go_wp2_with (fail)
          refine (rup_calls _ _ _).mono ?_
          rintro e v' ⟨rfl, rfl⟩
          go_wp2_with (fail)
          refine (mod_calls _ _ _).mono ?_
          rintro e vmod ⟨rfl, hv⟩
          replace la := la.below hv
          replace bb := below_step bb hv
          clear hv
          go_wp2_with (fail)
          refine (rmod_calls _ _ _).mono ?_
          rintro e v' ⟨rfl, rfl⟩
          go_wp2_with (fail)
          go_loopw [145] (fun j wr => ∃ k : Nat, k ≤ 6 ∧ j = .int .i64 k ∧ Below w.heap.size w wr ∧ ListAt wr g 6 zs) (fun j _ => 6 - (intOf j).toNat)
          case atStart => exact ⟨0, by omega, rfl, bb, la⟩
          case round =>
            clear bb la
            obtain ⟨m, hm, rfl, bb, la⟩ := hrel
            by_cases hlt3 : m < 6
            · have hcell := la.2 m hlt3
              go_wp2_with (first
                | (go_at_call 9; refine (clamp_calls _ _ _ _).mono ?_; rintro e w' ⟨rfl, rfl⟩)
                | (go_at_call 24; refine (rclamp_calls _ _ _ _).mono ?_; rintro e w' ⟨rfl, rfl⟩)
                | (go_at_call 25; refine (near_calls _ _ _ _).mono ?_; rintro e w' ⟨rfl, rfl⟩)
                | (go_at_call 26; refine (rnear_calls _ _ _ _).mono ?_; rintro e w' ⟨rfl, rfl⟩))
              go_roundw
              case rel => exact ⟨m + 1, by omega, by go_num, bb, la⟩
              case measure => simp [intOf]; omega
            · obtain rfl : m = 6 := by omega
              go_wp2_with (fail)
              go_roundw
              case rel => exact ⟨j + 1, by omega, by go_num, bb, la⟩
              case measure => simp [intOf]; omega
        · obtain rfl : j = 6 := by omega
          go_wp2_with (fail)
          go_roundw
          case rel => exact ⟨i + 1, by omega, by go_num, bb, la⟩
          case measure => simp [intOf]; omega
    · obtain rfl : i = 6 := by omega
      go_wp2_with (fail)
      refine (sane01 _).mono ?_
      rintro e w' ⟨rfl, hb⟩
      go_wp2_with (fail)
      go_ret
      exact ⟨rfl, below_step bb hb⟩
end Go.Proofs.Ytkoagefpnbgkiaa
