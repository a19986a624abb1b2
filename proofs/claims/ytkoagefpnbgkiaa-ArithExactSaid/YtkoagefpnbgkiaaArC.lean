/- The reference of layer 1: what each call returns. -/
import Derived.Test.YtkoagefpnbgkiaaArB
import Derived.Handy
namespace Go.Proofs.Ytkoagefpnbgkiaa
open Go.RowKit
theorem tdiv_facts' (n d : Int) (h1 : -4000000000000000000 ≤ n) (h2 : n ≤ 4000000000000000000) (h3 : 1 ≤ d) :
    -4000000000000000000 ≤ n.tdiv d ∧ n.tdiv d ≤ 4000000000000000000 ∧ -d < n.tmod d ∧ n.tmod d < d ∧ n.tdiv d * d + n.tmod d = n := by
  have e := Int.tdiv_mul_add_tmod n d
  have hd : 0 < d := by omega
  have k1 := Int.tmod_lt_of_pos n hd
  have k2 := Int.lt_tmod_of_pos n hd
  refine ⟨?_, ?_, k2, k1, e⟩
  · rcases (by omega : n < 0 ∨ 0 ≤ n) with h | h
    · have : (-n).tdiv d ≤ -n := Int.tdiv_le_self _ (by omega)
      rw [Int.neg_tdiv] at this; omega
    · have := Int.tdiv_nonneg h (by omega : 0 ≤ d); omega
  · rcases (by omega : n < 0 ∨ 0 ≤ n) with h | h
    · have : 0 ≤ (-n).tdiv d := Int.tdiv_nonneg (by omega) (by omega)
      rw [Int.neg_tdiv] at this; omega
    · have : n.tdiv d ≤ n := Int.tdiv_le_self _ h
      omega
set_option maxHeartbeats 400000 in
theorem rdiv_calls (n d q : Int) (w : World) (h1 : -4000000000000000000 ≤ n) (h2 : n ≤ 4000000000000000000) (h3 : 1 ≤ d) (hq : n / d = q) :
    Calls Try.prog 35 #[.int .i64 n, .int .i64 d] w fun e w' => e = .returned (.int .i64 q) ∧ w = w' := by
  subst hq
  obtain ⟨t1, t2, t3, t4, t5⟩ := tdiv_facts' n d h1 h2 h3
  by_cases hneg : n.tmod d < 0
  · have e5 : (n.tdiv d - 1) * d + (n.tmod d + d) = n := by rw [Int.sub_mul]; omega
    have H := Lib.hid (Ar.div_of h3 e5 (by omega) (by omega))
    clear e5
    clear t5
    go_enter Try.func35, Try.ntmps35
    go_wp2
    go_ret
    exact ⟨ret1 H.out.1.symm, rfl⟩
  · have H := Lib.hid (Ar.div_of (q := n.tdiv d) (r := n.tmod d) h3 t5 (by omega) (by omega))
    clear t5
    go_enter Try.func35, Try.ntmps35
    go_wp2
    go_ret
    exact ⟨ret1 H.out.1.symm, rfl⟩
set_option maxHeartbeats 400000 in
theorem rfloor_calls (n d : Int) (w : World) :
    Calls Try.prog 20 #[.int .i64 n, .int .i64 d] w fun e w' => e = .returned (.tuple #[.int .i64 (Ar.floor n d), .int .i64 (Ar.err n d)]) ∧ w = w' := by
  rcases Ar.cases n d with hb | hg
  · have H := Lib.hid (Ar.out_bad hb)
    unfold Ar.Bad at hb
    go_enter Try.func20, Try.ntmps20
    go_wp2
    all_goals first | omega | (simp at *; omega) | (go_ret2; exact ⟨ret2 H.out.1.symm H.out.2.2.2.2.symm, rfl⟩)
  · have H := Lib.hid (Ar.good hg)
    obtain ⟨h1, h2, h3, h4⟩ := hg
    go_enter Try.func20, Try.ntmps20
    go_wp2_with (first | (go_at_call 35; refine (rdiv_calls _ _ _ _ (by omega) (by omega) (by omega) rfl).mono ?_; rintro e w' ⟨rfl, rfl⟩) | go_in)
    all_goals first | omega | (simp at *; omega) | (go_ret2; exact ⟨ret2 (by rw [Ar.floor, if_neg H.out]) (by rw [Ar.err, if_neg H.out]), rfl⟩)
set_option maxHeartbeats 400000 in
theorem rhalf_calls (n d : Int) (w : World) :
    Calls Try.prog 21 #[.int .i64 n, .int .i64 d] w fun e w' => e = .returned (.tuple #[.int .i64 (Ar.half n d), .int .i64 (Ar.err n d)]) ∧ w = w' := by
  rcases Ar.cases n d with hb | hg
  · have H := Lib.hid (Ar.out_bad hb)
    unfold Ar.Bad at hb
    go_enter Try.func21, Try.ntmps21
    go_wp2
    all_goals first | omega | (simp at *; omega) | (go_ret2; exact ⟨ret2 H.out.2.2.1.symm H.out.2.2.2.2.symm, rfl⟩)
  · have H := Lib.hid (Ar.good hg)
    obtain ⟨h1, h2, h3, h4⟩ := hg
    go_enter Try.func21, Try.ntmps21
    go_wp2_with (first | (go_at_call 35; refine (rdiv_calls _ _ _ _ (by omega) (by omega) (by omega) rfl).mono ?_; rintro e w' ⟨rfl, rfl⟩) | go_in)
    all_goals first | omega | (simp at *; omega) | (go_ret2; exact ⟨ret2 (by rw [Ar.half, if_neg H.out]) (by rw [Ar.err, if_neg H.out]), rfl⟩)
set_option maxHeartbeats 400000 in
theorem rup_calls (n d : Int) (w : World) :
    Calls Try.prog 22 #[.int .i64 n, .int .i64 d] w fun e w' => e = .returned (.tuple #[.int .i64 (Ar.up n d), .int .i64 (Ar.err n d)]) ∧ w = w' := by
  rcases Ar.cases n d with hb | hg
  · have H := Lib.hid (Ar.out_bad hb)
    unfold Ar.Bad at hb
    go_enter Try.func22, Try.ntmps22
    go_wp2
    all_goals first | omega | (simp at *; omega) | (go_ret2; exact ⟨ret2 H.out.2.2.2.1.symm H.out.2.2.2.2.symm, rfl⟩)
  · have H := Lib.hid (Ar.good hg)
    obtain ⟨h1, h2, h3, h4⟩ := hg
    have c0 : -n / d * d + -n % d = -n := by rw [Int.mul_comm]; exact Int.mul_ediv_add_emod _ _
    have c1 : -1000000002000000000 ≤ -n / d := by
      rcases (by omega : 0 ≤ -n / d ∨ -n / d ≤ 0) with h | h
      · omega
      · have e1 : -n / d * (d - 1) = -n / d * d - -n / d := by rw [Int.mul_sub, Int.mul_one]
        have e2 : -n / d * (d - 1) ≤ 0 := Int.mul_nonpos_of_nonpos_of_nonneg h (by omega)
        have e3 : 0 ≤ -n % d := Int.emod_nonneg _ (by omega)
        have e4 : -n % d < d := Int.emod_lt_of_pos _ (by omega)
        omega
    have c2 : -n / d ≤ 1000000000000000000 := by
      rcases (by omega : 0 ≤ -n / d ∨ -n / d ≤ 0) with h | h
      · have e1 : -n / d * (d - 1) = -n / d * d - -n / d := by rw [Int.mul_sub, Int.mul_one]
        have e2 : 0 ≤ -n / d * (d - 1) := Int.mul_nonneg h (by omega)
        have e3 : 0 ≤ -n % d := Int.emod_nonneg _ (by omega)
        omega
      · omega
    clear c0
    go_enter Try.func22, Try.ntmps22
    go_wp2_with (first | (go_at_call 35; refine (rdiv_calls _ _ _ _ (by omega) (by omega) (by omega) rfl).mono ?_; rintro e w' ⟨rfl, rfl⟩) | go_in)
    all_goals first | omega | (simp at *; omega) | (go_ret2; exact ⟨ret2 (by rw [Ar.up, if_neg H.out]) (by rw [Ar.err, if_neg H.out]), rfl⟩)
set_option maxHeartbeats 400000 in
theorem rmod_calls (n d : Int) (w : World) :
    Calls Try.prog 23 #[.int .i64 n, .int .i64 d] w fun e w' => e = .returned (.tuple #[.int .i64 (Ar.mod n d), .int .i64 (Ar.err n d)]) ∧ w = w' := by
  rcases Ar.cases n d with hb | hg
  · have H := Lib.hid (Ar.out_bad hb)
    unfold Ar.Bad at hb
    go_enter Try.func23, Try.ntmps23
    go_wp2
    all_goals first | omega | (simp at *; omega) | (go_ret2; exact ⟨ret2 H.out.2.1.symm H.out.2.2.2.2.symm, rfl⟩)
  · have H := Lib.hid (Ar.good hg)
    obtain ⟨h1, h2, h3, h4⟩ := hg
    have c0 : d * (n / d) + n % d = n := Int.mul_ediv_add_emod _ _
    have e3 : 0 ≤ n % d := Int.emod_nonneg _ (by omega)
    have e4 : n % d < d := Int.emod_lt_of_pos _ (by omega)
    have c1 : -1000000002000000000 ≤ d * (n / d) := by omega
    have c2 : d * (n / d) ≤ 1000000000000000000 := by omega
    have C0 := Lib.hid c0
    clear c0 e3 e4
    go_enter Try.func23, Try.ntmps23
    go_wp2_with (first | (go_at_call 35; refine (rdiv_calls _ _ _ _ (by omega) (by omega) (by omega) rfl).mono ?_; rintro e w' ⟨rfl, rfl⟩) | go_in)
    all_goals first | omega | (simp at *; omega) | (go_ret2; exact ⟨ret2 (by rw [Ar.mod, if_neg H.out]; have := C0.out; omega) (by rw [Ar.err, if_neg H.out]), rfl⟩)
set_option maxHeartbeats 400000 in
theorem rroot_calls (n : Int) (w : World) :
    Calls Try.prog 19 #[.int .i64 n] w fun e w' => e = .returned (.tuple #[.int .i64 (Ar.root n), .int .i64 (Ar.rerr n)]) ∧ w = w' := by
  by_cases hb : Ar.RBad n
  · have H := Lib.hid (Ar.root_bad hb)
    unfold Ar.RBad at hb
    go_enter Try.func19, Try.ntmps19
    go_wp2
    all_goals first | (go_ret2; exact ⟨ret2 H.out.1.symm H.out.2.symm, rfl⟩) | omega
  · have h0 : 0 ≤ n := by unfold Ar.RBad at hb; omega
    have h1 : n ≤ 1000000000000000000 := by unfold Ar.RBad at hb; omega
    clear hb
    go_enter Try.func19, Try.ntmps19
    go_wp2
    go_loop [4, 5] (fun a b => ∃ l u : Int, 0 ≤ l ∧ l ≤ u ∧ u ≤ 1000000000 ∧ l * l ≤ n ∧ n < (u + 1) * (u + 1) ∧ a = .int .i64 l ∧ b = .int .i64 u) (fun a b => (intOf b - intOf a).toNat)
    case atStart => exact ⟨0, 1000000000, by omega, by omega, by omega, by omega, by omega, rfl, rfl⟩
    case round =>
      obtain ⟨l, u, k0, k1, k2, k3, k4, rfl, rfl⟩ := hrel
      by_cases hc : l < u
      · have m0 : 0 ≤ (l + u + 1) / 2 := by omega
        have m1 : l < (l + u + 1) / 2 := by omega
        have m2 : (l + u + 1) / 2 ≤ u := by omega
        have m3 : 0 ≤ (l + u + 1) / 2 * ((l + u + 1) / 2) := Int.mul_nonneg m0 m0
        have m4 : (l + u + 1) / 2 * ((l + u + 1) / 2) ≤ 1000000000 * 1000000000 := Ar.sq_le m0 (by omega)
        have K3 := Lib.hid k3
        have K4 := Lib.hid k4
        clear k3 k4
        by_cases hm : (l + u + 1) / 2 * ((l + u + 1) / 2) ≤ n
        · go_wp2
          go_round
          case rel => exact ⟨(l + u + 1) / 2, u, m0, m2, k2, hm, K4.out, rfl, rfl⟩
          case measure => simp [intOf]; omega
        · go_wp2
          go_round
          case rel => exact ⟨l, (l + u + 1) / 2 - 1, k0, by omega, by omega, K3.out, by rw [Int.sub_add_cancel]; omega, rfl, rfl⟩
          case measure => simp [intOf]; omega
      · obtain rfl : u = l := by omega
        have H := Lib.hid (Ar.root_good h0 h1 ⟨k0, k3, k4⟩)
        clear k3 k4
        go_wp2
        go_ret2
        exact ⟨ret2 H.out.1.symm H.out.2.symm, rfl⟩
end Go.Proofs.Ytkoagefpnbgkiaa
