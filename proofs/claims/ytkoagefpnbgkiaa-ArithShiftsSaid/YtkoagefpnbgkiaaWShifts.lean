/- The walk of ArithShifts. -/
import Derived.Test.YtkoagefpnbgkiaaArSane
import Derived.Deep.DeepCutAuto
namespace Go.Proofs.Ytkoagefpnbgkiaa
open Go.RowKit
theorem shifts_facts (a m q : Int) (h1 : -1099511627776 ≤ a) (h2 : a ≤ 1099511627776) (h3 : 1 ≤ m) (h4 : m ≤ 32769) (h5 : -32768 ≤ q) (h6 : q ≤ 32767) :
    ∃ x u r : Int, Ar.half a m = x ∧ Ar.half (a + q * m) m = x + q ∧ Ar.up a m = u ∧ Ar.floor (-a) m = -u ∧ Ar.mod (a + q * m) m = r ∧ Ar.mod a m = r ∧
      Ar.err a m = 0 ∧ Ar.err (a + q * m) m = 0 ∧ Ar.err (-a) m = 0 ∧ -1200000000000 ≤ x ∧ x ≤ 1200000000000 ∧ -1200000000000 ≤ u ∧ u ≤ 1200000000000 ∧ -1200000000000 ≤ q * m ∧ q * m ≤ 1200000000000 := by
  have e : a / m * m + a % m = a := by rw [Int.mul_comm]; exact Int.mul_ediv_add_emod a m
  have r0 : 0 ≤ a % m := Int.emod_nonneg _ (by omega)
  have r1 : a % m < m := Int.emod_lt_of_pos _ (by omega)
  have e' : (a / m + q) * m + a % m = a + q * m := by rw [Int.add_mul]; omega
  have b := Ar.half_of h3 e r0 r1
  have b' := Ar.half_of h3 e' r0 r1
  have c := Ar.up_of h3 e r0 r1
  have d' := Ar.div_of h3 e' r0 r1
  have k1 : q * m ≤ 32767 * 32769 := by
    rcases (by omega : 0 ≤ q ∨ q ≤ 0) with h | h
    · exact Int.mul_le_mul h6 h4 (by omega) (by omega)
    · have := Int.mul_nonpos_of_nonpos_of_nonneg h (by omega : 0 ≤ m); omega
  have k2 : -(32768 * 32769) ≤ q * m := by
    rcases (by omega : 0 ≤ q ∨ q ≤ 0) with h | h
    · have := Int.mul_nonneg h (by omega : 0 ≤ m); omega
    · have : (-q) * m ≤ 32768 * 32769 := Int.mul_le_mul (by omega) h4 (by omega) (by omega)
      rw [Int.neg_mul] at this; omega
  have g1 := Ar.good (n := a) (d := m) ⟨by omega, by omega, h3, by omega⟩
  have g2 := Ar.good (n := a + q * m) (d := m) ⟨by omega, by omega, h3, by omega⟩
  have g3 := Ar.good (n := -a) (d := m) ⟨by omega, by omega, h3, by omega⟩
  have p0 : a / m * (m - 1) = a / m * m - a / m := by rw [Int.mul_sub, Int.mul_one]
  have p1 : 0 ≤ a / m → 0 ≤ a / m * (m - 1) := fun h => Int.mul_nonneg h (by omega)
  have p2 : a / m ≤ 0 → a / m * (m - 1) ≤ 0 := fun h => Int.mul_nonpos_of_nonpos_of_nonneg h (by omega)
  have w1 : a / m ≤ 1099511627776 := by
    rcases (by omega : 0 ≤ a / m ∨ a / m ≤ 0) with h | h
    · have := p1 h; omega
    · omega
  have w2 : -1099511700000 ≤ a / m := by
    rcases (by omega : 0 ≤ a / m ∨ a / m ≤ 0) with h | h
    · omega
    · have := p2 h; omega
  refine ⟨(2 * a + m) / (2 * m), -((-a) / m), a % m, by rw [Ar.half, if_neg g1], ?_, by rw [Ar.up, if_neg g1], ?_, by rw [Ar.mod, if_neg g2, d'.2], by rw [Ar.mod, if_neg g1], by rw [Ar.err, if_neg g1], by rw [Ar.err, if_neg g2], by rw [Ar.err, if_neg g3], ?_, ?_, ?_, ?_, by omega, by omega⟩
  · rw [Ar.half, if_neg g2, b, b']; split <;> omega
  · rw [Ar.floor, if_neg g3]; omega
  · rw [b]; split <;> omega
  · rw [b]; split <;> omega
  · rw [c]; split <;> omega
  · rw [c]; split <;> omega
set_option maxRecDepth 100000 in
set_option maxHeartbeats 800000 in
theorem ArithShifts_walk (n : Int) (_ : (Lit.int .i64 n).wf = true) (d : Int) (wd : (Lit.int .i16 d).wf = true) (q : Int) (wq : (Lit.int .i16 q).wf = true) (w : World) :
    Calls Try.prog 4 #[.int .i64 n, .int .i16 d, .int .i16 q] w fun e w' => e = .returned (.bool true) ∧ Below w.heap.size w w' := by
  have e3 : IntKind.i16.min = -32768 := rfl
  have e4 : IntKind.i16.max = 32767 := rfl
  simp only [Lit.wf, e3, e4, Bool.and_eq_true, decide_eq_true_eq] at wd wq
  clear e3 e4
  obtain ⟨d1, d2⟩ := wd
  obtain ⟨q1, q2⟩ := wq
  have b1 : -1099511627776 < n.tmod 1099511627776 := Int.lt_tmod_of_pos n (by omega)
  have b2 : n.tmod 1099511627776 < 1099511627776 := Int.tmod_lt_of_pos n (by omega)
  go_enter Try.func4, Try.ntmps4
  go_upto_if 27 with (fail)
  go_cut [7, 8] (fun s t wr => ∃ a m : Int, -1099511627776 ≤ a ∧ a ≤ 1099511627776 ∧ 1 ≤ m ∧ m ≤ 32769 ∧ s = .int .i64 a ∧ t = .int .i64 m ∧ wr = w)
  case first =>
    go_wp2_with (fail)
    all_goals (go_meet; exact ⟨_, _, by omega, by omega, by omega, by omega, rfl, rfl, rfl⟩)
  case rest =>
    obtain ⟨a, m, h1, h2, h3, h4, rfl, rfl, rfl⟩ := hcut
    obtain ⟨x, u, r, f1, f2, f3, f4, f5, f6, f7, f8, f9, k1, k2, k3, k4, k5, k6⟩ := shifts_facts a m q h1 h2 h3 h4 q1 q2
    have F1 := Lib.hid f1
    have F2 := Lib.hid f2
    have F3 := Lib.hid f3
    have F4 := Lib.hid f4
    have F5 := Lib.hid f5
    have F6 := Lib.hid f6
    have F7 := Lib.hid f7
    have F8 := Lib.hid f8
    have F9 := Lib.hid f9
    clear f1 f2 f3 f4 f5 f6 f7 f8 f9 b1 b2
    go_wp2_with (fail)
    refine (half_eq _ _ _ 0 _ F1.out F7.out).mono ?_
    rintro e w1 ⟨rfl, hb1⟩
    go_wp2_with (fail)
    refine (half_eq _ _ _ 0 _ F2.out F8.out).mono ?_
    rintro e w2 ⟨rfl, hb2⟩
    go_wp2_with (fail)
    refine (up_eq _ _ _ 0 _ F3.out F7.out).mono ?_
    rintro e w3 ⟨rfl, hb3⟩
    go_wp2_with (fail)
    refine (floor_eq _ _ _ 0 _ F4.out F9.out).mono ?_
    rintro e w4 ⟨rfl, hb4⟩
    go_wp2_with (fail)
    refine (mod_eq _ _ _ 0 _ F5.out F8.out).mono ?_
    rintro e w5 ⟨rfl, hb5⟩
    go_wp2_with (fail)
    refine (mod_eq _ _ _ 0 _ F6.out F7.out).mono ?_
    rintro e w6 ⟨rfl, hb6⟩
    go_wp2_with (go_at_call 10; refine (sane01 _).mono ?_; rintro e w' ⟨rfl, hb⟩)
    all_goals
      have hq2 := hb1.trans (hb2.mono hb1.size)
      have hq3 := hq2.trans (hb3.mono hq2.size)
      have hq4 := hq3.trans (hb4.mono hq3.size)
      have hq5 := hq4.trans (hb5.mono hq4.size)
      have hq6 := hq5.trans (hb6.mono hq5.size)
      first | (go_ret; exact ⟨rfl, hq6.trans (hb.mono hq6.size)⟩) | (exfalso; omega) | (exfalso; simp at *; omega)
end Go.Proofs.Ytkoagefpnbgkiaa
