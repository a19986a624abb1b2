/- Half of the reference of layer 1: what a call returns. -/
import Derived.Test.YtjmmkphdomiohaaKit
namespace Go.Proofs.Ytjmmkphdomiohaa
open Go.ChangeShapes Go.WideShapes Go.ChangeAt Go.RowKit
theorem tdiv_facts' (n d : Int) (h1 : -4000000000000000000 ≤ n) (h2 : n ≤ 4000000000000000000) (h3 : 1 ≤ d) :
    -4000000000000000000 ≤ n.tdiv d ∧ n.tdiv d ≤ 4000000000000000000 ∧ -d < n.tmod d ∧ n.tmod d < d ∧ n.tdiv d * d + n.tmod d = n := by
  have e := Int.tdiv_mul_add_tmod n d
  have hd : 0 < d := by omega
  have k1 := Int.tmod_lt_of_pos n hd
  have k2 := Int.lt_tmod_of_pos n hd
  refine ⟨?_, ?_, k2, k1, e⟩
  · rcases (by omega : n < 0 ∨ 0 ≤ n) with h | h
    · have : (-n).tdiv d ≤ -n := Int.tdiv_le_self _ (by omega)
      rw [Int.neg_tdiv] at this; omega
    · have := Int.tdiv_nonneg h (by omega : 0 ≤ d); omega
  · rcases (by omega : n < 0 ∨ 0 ≤ n) with h | h
    · have : 0 ≤ (-n).tdiv d := Int.tdiv_nonneg (by omega) (by omega)
      rw [Int.neg_tdiv] at this; omega
    · have : n.tdiv d ≤ n := Int.tdiv_le_self _ h
      omega
set_option maxHeartbeats 400000 in
theorem rdiv_calls (n d q : Int) (w : World) (h1 : -4000000000000000000 ≤ n) (h2 : n ≤ 4000000000000000000) (h3 : 1 ≤ d) (hq : n / d = q) :
    Calls Try.prog 78 #[.int .i64 n, .int .i64 d] w fun e w' => e = .returned (.int .i64 q) ∧ w = w' := by
  subst hq
  obtain ⟨t1, t2, t3, t4, t5⟩ := tdiv_facts' n d h1 h2 h3
  by_cases hneg : n.tmod d < 0
  · have e5 : (n.tdiv d - 1) * d + (n.tmod d + d) = n := by rw [Int.sub_mul]; omega
    have H := Lib.hid (Ar.div_of h3 e5 (by omega) (by omega))
    clear e5
    clear t5
    go_enter Try.func78, Try.ntmps78
    go_wp2
    go_ret
    exact ⟨ret1 H.out.1.symm, rfl⟩
  · have H := Lib.hid (Ar.div_of (q := n.tdiv d) (r := n.tmod d) h3 t5 (by omega) (by omega))
    clear t5
    go_enter Try.func78, Try.ntmps78
    go_wp2
    go_ret
    exact ⟨ret1 H.out.1.symm, rfl⟩
set_option maxHeartbeats 400000 in
theorem rhalf_calls (n d : Int) (w : World) :
    Calls Try.prog 65 #[.int .i64 n, .int .i64 d] w fun e w' => e = .returned (.tuple #[.int .i64 (Ar.half n d), .int .i64 (Ar.err n d)]) ∧ w = w' := by
  rcases Ar.cases n d with hb | hg
  · have H := Lib.hid (Ar.out_bad hb)
    unfold Ar.Bad at hb
    go_enter Try.func65, Try.ntmps65
    go_wp2
    all_goals first | omega | (simp at *; omega) | (go_ret2; exact ⟨ret2 H.out.2.2.1.symm H.out.2.2.2.2.symm, rfl⟩)
  · have H := Lib.hid (Ar.good hg)
    obtain ⟨h1, h2, h3, h4⟩ := hg
    go_enter Try.func65, Try.ntmps65
    go_wp2_with (first | (go_at_call 78; refine (rdiv_calls _ _ _ _ (by omega) (by omega) (by omega) rfl).mono ?_; rintro e w' ⟨rfl, rfl⟩) | go_in)
    all_goals first | omega | (simp at *; omega) | (go_ret2; exact ⟨ret2 (by rw [Ar.half, if_neg H.out]) (by rw [Ar.err, if_neg H.out]), rfl⟩)
end Go.Proofs.Ytjmmkphdomiohaa
