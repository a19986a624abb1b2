/- arith.Half: what a call returns. -/
import Derived.Test.YtjmmkphdomiohaaKit
namespace Go.Proofs.Ytjmmkphdomiohaa
open Go.ChangeShapes Go.WideShapes Go.ChangeAt Go.RowKit
set_option maxHeartbeats 400000 in
theorem half_calls (n d : Int) (w : World) :
    Calls Try.prog 73 #[.int .i64 n, .int .i64 d] w fun e w' => e = .returned (.tuple #[.int .i64 (Ar.half n d), .int .i64 (Ar.err n d)]) ∧ Below w.heap.size w w' := by
  rcases Ar.cases n d with hb | hg
  · have H := Lib.hid (Ar.out_bad hb)
    unfold Ar.Bad at hb
    go_enter Try.func73, Try.ntmps73
    go_wp2
    all_goals first | (go_ret2; exact ⟨ret2 H.out.2.2.1.symm H.out.2.2.2.2.symm, (by repeat (first | exact Below.refl _ _ | apply below_drewN | apply Below.drew | refine Below.alloc ?_ (by first | exact Nat.le_refl _ | (simp; done) | (simp; omega)) _))⟩) | omega
  · by_cases hneg : n.tmod d < 0
    · have H := Lib.hid (Ar.out_neg hg hneg)
      obtain ⟨h1, h2, h3, h4⟩ := hg
      obtain ⟨t1, t2, t3, t4, t5⟩ := Ar.tdiv_facts n d h1 h2 h3
      clear t5
      by_cases hc : d ≤ 2 * (n.tmod d + d)
      all_goals
        go_enter Try.func73, Try.ntmps73
        go_wp2
        go_quiet (fail)
        go_wp2
        go_ret2
        exact ⟨ret2 (by first | exact H.out.2.2.1.symm | (rw [H.out.2.2.1]; first | omega | (split <;> omega))) H.out.2.2.2.2.symm, (by repeat (first | exact Below.refl _ _ | apply below_drewN | apply Below.drew | refine Below.alloc ?_ (by first | exact Nat.le_refl _ | (simp; done) | (simp; omega)) _))⟩
    · have H := Lib.hid (Ar.out_pos hg (by omega))
      obtain ⟨h1, h2, h3, h4⟩ := hg
      obtain ⟨t1, t2, t3, t4, t5⟩ := Ar.tdiv_facts n d h1 h2 h3
      clear t5
      by_cases hc : d ≤ 2 * n.tmod d
      all_goals
        go_enter Try.func73, Try.ntmps73
        go_wp2
        go_quiet (fail)
        go_wp2
        go_ret2
        exact ⟨ret2 (by first | exact H.out.2.2.1.symm | (rw [H.out.2.2.1]; first | omega | (split <;> omega))) H.out.2.2.2.2.symm, (by repeat (first | exact Below.refl _ _ | apply below_drewN | apply Below.drew | refine Below.alloc ?_ (by first | exact Nat.le_refl _ | (simp; done) | (simp; omega)) _))⟩

theorem half_eq (n d q r : Int) (w : World) (hq : Ar.half n d = q) (hr : Ar.err n d = r) :
    Calls Try.prog 73 #[.int .i64 n, .int .i64 d] w fun e w' => e = .returned (.tuple #[.int .i64 q, .int .i64 r]) ∧ Below w.heap.size w w' := by
  subst hq; subst hr; exact half_calls n d w
end Go.Proofs.Ytjmmkphdomiohaa
