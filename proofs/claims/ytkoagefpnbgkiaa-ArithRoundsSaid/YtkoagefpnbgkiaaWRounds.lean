/- The walk of ArithRounds. -/
import Derived.Test.YtkoagefpnbgkiaaArSane
import Derived.Deep.DeepCutAuto
namespace Go.Proofs.Ytkoagefpnbgkiaa
open Go.RowKit
theorem rounds_facts (m k : Int) (h1 : -1125899906842624 ≤ m) (h2 : m ≤ 1125899906842624) (h3 : 1 ≤ k) (h4 : k ≤ 65536) :
    ∃ a b c r : Int, Ar.floor m k = a ∧ Ar.half m k = b ∧ Ar.up m k = c ∧ Ar.mod m k = r ∧ Ar.err m k = 0 ∧ a * k + r = m ∧ 0 ≤ r ∧ r < k ∧
      -1125899906908160 ≤ a * k ∧ a * k ≤ 1125899906842624 ∧ -1125899906908160 ≤ a ∧ a ≤ 1125899906842624 ∧
      (r = 0 → c = a) ∧ (0 < r → c = a + 1) ∧ (2 * r < k → b = a) ∧ (k ≤ 2 * r → b = a + 1) := by
  have hb := Ar.good (n := m) (d := k) ⟨by omega, by omega, h3, by omega⟩
  have e : m / k * k + m % k = m := by rw [Int.mul_comm]; exact Int.mul_ediv_add_emod m k
  have r0 : 0 ≤ m % k := Int.emod_nonneg _ (by omega)
  have r1 : m % k < k := Int.emod_lt_of_pos _ (by omega)
  have b := Ar.half_of h3 e r0 r1
  have c := Ar.up_of h3 e r0 r1
  have p0 : m / k * (k - 1) = m / k * k - m / k := by rw [Int.mul_sub, Int.mul_one]
  have p1 : 0 ≤ m / k → 0 ≤ m / k * (k - 1) := fun h => Int.mul_nonneg h (by omega)
  have p2 : m / k ≤ 0 → m / k * (k - 1) ≤ 0 := fun h => Int.mul_nonpos_of_nonpos_of_nonneg h (by omega)
  refine ⟨m / k, (2 * m + k) / (2 * k), -((-m) / k), m % k, by rw [Ar.floor, if_neg hb], by rw [Ar.half, if_neg hb], by rw [Ar.up, if_neg hb], by rw [Ar.mod, if_neg hb], by rw [Ar.err, if_neg hb], e, r0, r1, by omega, by omega, ?_, ?_, ?_, ?_, ?_, ?_⟩
  · rcases (by omega : 0 ≤ m / k ∨ m / k ≤ 0) with h | h
    · omega
    · have := p2 h; omega
  · rcases (by omega : 0 ≤ m / k ∨ m / k ≤ 0) with h | h
    · have := p1 h; omega
    · omega
  · intro h; rw [c, if_neg (by omega)]
  · intro h; rw [c, if_pos h]
  · intro h; rw [b, if_neg (by omega)]
  · intro h; rw [b, if_pos h]
set_option maxHeartbeats 400000 in
theorem ArithRounds_walk (n : Int) (_ : (Lit.int .i64 n).wf = true) (d : Int) (wd : (Lit.int .u16 d).wf = true) (w : World) :
    Calls Try.prog 6 #[.int .i64 n, .int .u16 d] w fun e w' => e = .returned (.bool true) ∧ Below w.heap.size w w' := by
  have e3 : IntKind.u16.min = 0 := rfl
  have e4 : IntKind.u16.max = 65535 := rfl
  simp only [Lit.wf, e3, e4, Bool.and_eq_true, decide_eq_true_eq] at wd
  clear e3 e4
  obtain ⟨d1, d2⟩ := wd
  have b1 : -1125899906842624 < n.tmod 1125899906842624 := Int.lt_tmod_of_pos n (by omega)
  have b2 : n.tmod 1125899906842624 < 1125899906842624 := Int.tmod_lt_of_pos n (by omega)
  obtain ⟨a, b, c, r, ha, hb, hc, hr, he, f1, f2, f3, f4, f5, f6, f7, f8, f9, f10, f11⟩ := rounds_facts (n.tmod 1125899906842624) (d + 1) (by omega) (by omega) (by omega) (by omega)
  have HA := Lib.hid ha
  have HB := Lib.hid hb
  have HC := Lib.hid hc
  have HR := Lib.hid hr
  have HE := Lib.hid he
  clear ha hb hc hr he
  have S1 : a * (d + 1) + r - n.tmod 1125899906842624 = 0 := by omega
  have T0 : (a * (d + 1) + r == n.tmod 1125899906842624) = true := by simp; omega
  have T1 : (a * (d + 1) + r != n.tmod 1125899906842624) = false := by simp; omega
  clear f1 S1
  rcases (by omega : r = 0 ∨ 0 < r) with hz | hz
  · obtain rfl := f8 hz
    subst hz
    obtain rfl := f10 (by omega)
    clear f8 f9 f10 f11
    simp only [Int.add_zero] at T0 T1
    go_enter Try.func6, Try.ntmps6
    go_wp2_with (fail)
    refine (floor_eq _ _ _ 0 _ HA.out HE.out).mono ?_
    rintro e w1 ⟨rfl, hb1⟩
    go_wp2_with (fail)
    refine (half_eq _ _ _ 0 _ HB.out HE.out).mono ?_
    rintro e w2 ⟨rfl, hb2⟩
    go_wp2_with (fail)
    refine (up_eq _ _ _ 0 _ HC.out HE.out).mono ?_
    rintro e w3 ⟨rfl, hb3⟩
    go_wp2_with (fail)
    refine (mod_eq _ _ _ 0 _ HR.out HE.out).mono ?_
    rintro e w4 ⟨rfl, hb4⟩
    go_wp2_with (go_at_call 10; refine (sane01 _).mono ?_; rintro e w' ⟨rfl, hb⟩)
    all_goals
      have hq2 := hb1.trans (hb2.mono hb1.size)
      have hq3 := hq2.trans (hb3.mono hq2.size)
      have hq4 := hq3.trans (hb4.mono hq3.size)
      first | (go_ret; exact ⟨rfl, hq4.trans (hb.mono hq4.size)⟩) | (exfalso; omega) | (exfalso; simp at *; omega)
  · obtain rfl := f9 hz
    have Z1 : (r == (0 : Int)) = false := by simp; omega
    rcases (by omega : 2 * r < d + 1 ∨ d + 1 ≤ 2 * r) with hq | hq
    · obtain rfl := f10 hq
      have Q1 : decide (2 * r < d + 1) = true := by simpa using hq
      clear f8 f9 f10 f11
      go_enter Try.func6, Try.ntmps6
      go_wp2_with (fail)
      refine (floor_eq _ _ _ 0 _ HA.out HE.out).mono ?_
      rintro e w1 ⟨rfl, hb1⟩
      go_wp2_with (fail)
      refine (half_eq _ _ _ 0 _ HB.out HE.out).mono ?_
      rintro e w2 ⟨rfl, hb2⟩
      go_wp2_with (fail)
      refine (up_eq _ _ _ 0 _ HC.out HE.out).mono ?_
      rintro e w3 ⟨rfl, hb3⟩
      go_wp2_with (fail)
      refine (mod_eq _ _ _ 0 _ HR.out HE.out).mono ?_
      rintro e w4 ⟨rfl, hb4⟩
      go_wp2_with (go_at_call 10; refine (sane01 _).mono ?_; rintro e w' ⟨rfl, hb⟩)
      all_goals
        have hq2 := hb1.trans (hb2.mono hb1.size)
        have hq3 := hq2.trans (hb3.mono hq2.size)
        have hq4 := hq3.trans (hb4.mono hq3.size)
        first | (go_ret; exact ⟨rfl, hq4.trans (hb.mono hq4.size)⟩) | (exfalso; omega) | (exfalso; simp at *; omega)
    · obtain rfl := f11 hq
      have Q1 : decide (2 * r < d + 1) = false := by simp; omega
      clear f8 f9 f10 f11
      go_enter Try.func6, Try.ntmps6
      go_wp2_with (fail)
      refine (floor_eq _ _ _ 0 _ HA.out HE.out).mono ?_
      rintro e w1 ⟨rfl, hb1⟩
      go_wp2_with (fail)
      refine (half_eq _ _ _ 0 _ HB.out HE.out).mono ?_
      rintro e w2 ⟨rfl, hb2⟩
      go_wp2_with (fail)
      refine (up_eq _ _ _ 0 _ HC.out HE.out).mono ?_
      rintro e w3 ⟨rfl, hb3⟩
      go_wp2_with (fail)
      refine (mod_eq _ _ _ 0 _ HR.out HE.out).mono ?_
      rintro e w4 ⟨rfl, hb4⟩
      go_wp2_with (go_at_call 10; refine (sane01 _).mono ?_; rintro e w' ⟨rfl, hb⟩)
      all_goals
        have hq2 := hb1.trans (hb2.mono hb1.size)
        have hq3 := hq2.trans (hb3.mono hq2.size)
        have hq4 := hq3.trans (hb4.mono hq3.size)
        first | (go_ret; exact ⟨rfl, hq4.trans (hb.mono hq4.size)⟩) | (exfalso; omega) | (exfalso; simp at *; omega)
end Go.Proofs.Ytkoagefpnbgkiaa
