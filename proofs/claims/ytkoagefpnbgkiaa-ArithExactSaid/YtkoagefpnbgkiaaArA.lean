/- The rounded divisions of package arith and of its reference: what each call returns. -/
import Derived.Test.YtkoagefpnbgkiaaRows
import Derived.Test.YtkoagefpnbgkiaaArMath
import Derived.WalkKit
import Derived.WalkSpells
import Derived.WalkLawsBesides
import Derived.BigQuiet
import Derived.Deep.QuietTactic
import Derived.IntWalk
import Derived.Lib.Hide
namespace Go.Proofs.Ytkoagefpnbgkiaa
open Go.RowKit
theorem below_drewN {B : Nat} {a w : World} (h : Below B a w) (n : Nat) : Below B a (w.drewN n) := ⟨h.os, h.tape, h.output, h.size, h.block⟩
theorem ret2 {a b c d : Int} (h : a = c) (h' : b = d) : Ending.returned (.tuple #[.int .i64 a, .int .i64 b]) = .returned (.tuple #[.int .i64 c, .int .i64 d]) := by rw [h, h']
theorem ret1 {k : IntKind} {a b : Int} (h : a = b) : Ending.returned (.int k a) = .returned (.int k b) := by rw [h]
theorem retb {a b : Bool} (h : a = b) : Ending.returned (.bool a) = .returned (.bool b) := by rw [h]
set_option maxHeartbeats 400000 in
theorem half_calls (n d : Int) (w : World) :
    Calls Try.prog 11 #[.int .i64 n, .int .i64 d] w fun e w' => e = .returned (.tuple #[.int .i64 (Ar.half n d), .int .i64 (Ar.err n d)]) ∧ Below w.heap.size w w' := by
  rcases Ar.cases n d with hb | hg
  · have H := Lib.hid (Ar.out_bad hb)
    unfold Ar.Bad at hb
    go_enter Try.func11, Try.ntmps11
    go_wp2
    all_goals first | (go_ret2; exact ⟨ret2 H.out.2.2.1.symm H.out.2.2.2.2.symm, (by repeat (first | exact Below.refl _ _ | apply below_drewN | apply Below.drew | refine Below.alloc ?_ (by first | exact Nat.le_refl _ | (simp; done) | (simp; omega)) _))⟩) | omega
  · by_cases hneg : n.tmod d < 0
    · have H := Lib.hid (Ar.out_neg hg hneg)
      obtain ⟨h1, h2, h3, h4⟩ := hg
      obtain ⟨t1, t2, t3, t4, t5⟩ := Ar.tdiv_facts n d h1 h2 h3
      clear t5
      by_cases hc : d ≤ 2 * (n.tmod d + d)
      all_goals
        go_enter Try.func11, Try.ntmps11
        go_wp2
        go_quiet (fail)
        go_wp2
        go_ret2
        exact ⟨ret2 (by first | exact H.out.2.2.1.symm | (rw [H.out.2.2.1]; first | omega | (split <;> omega))) H.out.2.2.2.2.symm, (by repeat (first | exact Below.refl _ _ | apply below_drewN | apply Below.drew | refine Below.alloc ?_ (by first | exact Nat.le_refl _ | (simp; done) | (simp; omega)) _))⟩
    · have H := Lib.hid (Ar.out_pos hg (by omega))
      obtain ⟨h1, h2, h3, h4⟩ := hg
      obtain ⟨t1, t2, t3, t4, t5⟩ := Ar.tdiv_facts n d h1 h2 h3
      clear t5
      by_cases hc : d ≤ 2 * n.tmod d
      all_goals
        go_enter Try.func11, Try.ntmps11
        go_wp2
        go_quiet (fail)
        go_wp2
        go_ret2
        exact ⟨ret2 (by first | exact H.out.2.2.1.symm | (rw [H.out.2.2.1]; first | omega | (split <;> omega))) H.out.2.2.2.2.symm, (by repeat (first | exact Below.refl _ _ | apply below_drewN | apply Below.drew | refine Below.alloc ?_ (by first | exact Nat.le_refl _ | (simp; done) | (simp; omega)) _))⟩

set_option maxHeartbeats 400000 in
theorem floor_calls (n d : Int) (w : World) :
    Calls Try.prog 13 #[.int .i64 n, .int .i64 d] w fun e w' => e = .returned (.tuple #[.int .i64 (Ar.floor n d), .int .i64 (Ar.err n d)]) ∧ Below w.heap.size w w' := by
  rcases Ar.cases n d with hb | hg
  · have H := Lib.hid (Ar.out_bad hb)
    unfold Ar.Bad at hb
    go_enter Try.func13, Try.ntmps13
    go_wp2
    all_goals first | (go_ret2; exact ⟨ret2 H.out.1.symm H.out.2.2.2.2.symm, (by repeat (first | exact Below.refl _ _ | apply below_drewN | apply Below.drew | refine Below.alloc ?_ (by first | exact Nat.le_refl _ | (simp; done) | (simp; omega)) _))⟩) | omega
  · by_cases hneg : n.tmod d < 0
    · have H := Lib.hid (Ar.out_neg hg hneg)
      obtain ⟨h1, h2, h3, h4⟩ := hg
      obtain ⟨t1, t2, t3, t4, t5⟩ := Ar.tdiv_facts n d h1 h2 h3
      clear t5
      focus
        go_enter Try.func13, Try.ntmps13
        go_wp2
        go_quiet (fail)
        go_wp2
        go_ret2
        exact ⟨ret2 (by first | exact H.out.1.symm | (rw [H.out.1]; first | omega | (split <;> omega))) H.out.2.2.2.2.symm, (by repeat (first | exact Below.refl _ _ | apply below_drewN | apply Below.drew | refine Below.alloc ?_ (by first | exact Nat.le_refl _ | (simp; done) | (simp; omega)) _))⟩
    · have H := Lib.hid (Ar.out_pos hg (by omega))
      obtain ⟨h1, h2, h3, h4⟩ := hg
      obtain ⟨t1, t2, t3, t4, t5⟩ := Ar.tdiv_facts n d h1 h2 h3
      clear t5
      focus
        go_enter Try.func13, Try.ntmps13
        go_wp2
        go_quiet (fail)
        go_wp2
        go_ret2
        exact ⟨ret2 (by first | exact H.out.1.symm | (rw [H.out.1]; first | omega | (split <;> omega))) H.out.2.2.2.2.symm, (by repeat (first | exact Below.refl _ _ | apply below_drewN | apply Below.drew | refine Below.alloc ?_ (by first | exact Nat.le_refl _ | (simp; done) | (simp; omega)) _))⟩

set_option maxHeartbeats 400000 in
theorem up_calls (n d : Int) (w : World) :
    Calls Try.prog 12 #[.int .i64 n, .int .i64 d] w fun e w' => e = .returned (.tuple #[.int .i64 (Ar.up n d), .int .i64 (Ar.err n d)]) ∧ Below w.heap.size w w' := by
  rcases Ar.cases n d with hb | hg
  · have H := Lib.hid (Ar.out_bad hb)
    unfold Ar.Bad at hb
    go_enter Try.func12, Try.ntmps12
    go_wp2
    all_goals first | (go_ret2; exact ⟨ret2 H.out.2.2.2.1.symm H.out.2.2.2.2.symm, (by repeat (first | exact Below.refl _ _ | apply below_drewN | apply Below.drew | refine Below.alloc ?_ (by first | exact Nat.le_refl _ | (simp; done) | (simp; omega)) _))⟩) | omega
  · by_cases hneg : n.tmod d < 0
    · have H := Lib.hid (Ar.out_neg hg hneg)
      obtain ⟨h1, h2, h3, h4⟩ := hg
      obtain ⟨t1, t2, t3, t4, t5⟩ := Ar.tdiv_facts n d h1 h2 h3
      clear t5
      focus
        go_enter Try.func12, Try.ntmps12
        go_wp2
        go_quiet (fail)
        go_wp2
        go_ret2
        exact ⟨ret2 (by first | exact H.out.2.2.2.1.symm | (rw [H.out.2.2.2.1]; first | omega | (split <;> omega))) H.out.2.2.2.2.symm, (by repeat (first | exact Below.refl _ _ | apply below_drewN | apply Below.drew | refine Below.alloc ?_ (by first | exact Nat.le_refl _ | (simp; done) | (simp; omega)) _))⟩
    · have H := Lib.hid (Ar.out_pos hg (by omega))
      obtain ⟨h1, h2, h3, h4⟩ := hg
      obtain ⟨t1, t2, t3, t4, t5⟩ := Ar.tdiv_facts n d h1 h2 h3
      clear t5
      by_cases hc : 0 < n.tmod d
      all_goals
        go_enter Try.func12, Try.ntmps12
        go_wp2
        go_quiet (fail)
        go_wp2
        go_ret2
        exact ⟨ret2 (by first | exact H.out.2.2.2.1.symm | (rw [H.out.2.2.2.1]; first | omega | (split <;> omega))) H.out.2.2.2.2.symm, (by repeat (first | exact Below.refl _ _ | apply below_drewN | apply Below.drew | refine Below.alloc ?_ (by first | exact Nat.le_refl _ | (simp; done) | (simp; omega)) _))⟩

set_option maxHeartbeats 400000 in
theorem mod_calls (n d : Int) (w : World) :
    Calls Try.prog 14 #[.int .i64 n, .int .i64 d] w fun e w' => e = .returned (.tuple #[.int .i64 (Ar.mod n d), .int .i64 (Ar.err n d)]) ∧ Below w.heap.size w w' := by
  rcases Ar.cases n d with hb | hg
  · have H := Lib.hid (Ar.out_bad hb)
    unfold Ar.Bad at hb
    go_enter Try.func14, Try.ntmps14
    go_wp2
    all_goals first | (go_ret2; exact ⟨ret2 H.out.2.1.symm H.out.2.2.2.2.symm, (by repeat (first | exact Below.refl _ _ | apply below_drewN | apply Below.drew | refine Below.alloc ?_ (by first | exact Nat.le_refl _ | (simp; done) | (simp; omega)) _))⟩) | omega
  · by_cases hneg : n.tmod d < 0
    · have H := Lib.hid (Ar.out_neg hg hneg)
      obtain ⟨h1, h2, h3, h4⟩ := hg
      obtain ⟨t1, t2, t3, t4, t5⟩ := Ar.tdiv_facts n d h1 h2 h3
      clear t5
      focus
        go_enter Try.func14, Try.ntmps14
        go_wp2
        go_quiet (fail)
        go_wp2
        go_ret2
        exact ⟨ret2 (by first | exact H.out.2.1.symm | (rw [H.out.2.1]; first | omega | (split <;> omega))) H.out.2.2.2.2.symm, (by repeat (first | exact Below.refl _ _ | apply below_drewN | apply Below.drew | refine Below.alloc ?_ (by first | exact Nat.le_refl _ | (simp; done) | (simp; omega)) _))⟩
    · have H := Lib.hid (Ar.out_pos hg (by omega))
      obtain ⟨h1, h2, h3, h4⟩ := hg
      obtain ⟨t1, t2, t3, t4, t5⟩ := Ar.tdiv_facts n d h1 h2 h3
      clear t5
      focus
        go_enter Try.func14, Try.ntmps14
        go_wp2
        go_quiet (fail)
        go_wp2
        go_ret2
        exact ⟨ret2 (by first | exact H.out.2.1.symm | (rw [H.out.2.1]; first | omega | (split <;> omega))) H.out.2.2.2.2.symm, (by repeat (first | exact Below.refl _ _ | apply below_drewN | apply Below.drew | refine Below.alloc ?_ (by first | exact Nat.le_refl _ | (simp; done) | (simp; omega)) _))⟩

end Go.Proofs.Ytkoagefpnbgkiaa
