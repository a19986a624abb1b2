/- A turn and its opposite: plain facts. -/
import Derived.Test.YtjmmkphdomiohaaFrSane
namespace Go.Proofs.Ytjmmkphdomiohaa
namespace Fr
theorem half_ten' {n : Int} (h0 : -1000000000000 ≤ n) (h1 : n ≤ 1000000000000) : ∃ r, Ar.half n 10000 * 10000 = n + r ∧ -5000 < r ∧ r ≤ 5000 := by
  have hb := Ar.good (n := n) (d := 10000) ⟨by omega, by omega, by omega, by omega⟩
  have e : Ar.half n 10000 = (2 * n + 10000) / 20000 := by rw [Ar.half, if_neg hb]; rfl
  refine ⟨Ar.half n 10000 * 10000 - n, by omega, ?_, ?_⟩ <;> (rw [e]; omega)
theorem mul_bd {s z B : Int} (h0 : -10000 ≤ s) (h1 : s ≤ 10000) (k0 : -B ≤ z) (k1 : z ≤ B) : -(10000 * B) ≤ s * z ∧ s * z ≤ 10000 * B := by
  have a1 : (10000 - s) * (B - z) = 10000 * B - 10000 * z - s * B + s * z := by rw [Int.sub_mul, Int.mul_sub, Int.mul_sub]; omega
  have a2 : (10000 + s) * (B + z) = 10000 * B + 10000 * z + s * B + s * z := by rw [Int.add_mul, Int.mul_add, Int.mul_add]; omega
  have a3 : (10000 - s) * (B + z) = 10000 * B + 10000 * z - s * B - s * z := by rw [Int.sub_mul, Int.mul_add, Int.mul_add]; omega
  have a4 : (10000 + s) * (B - z) = 10000 * B - 10000 * z + s * B - s * z := by rw [Int.add_mul, Int.mul_sub, Int.mul_sub]; omega
  have b1 : 0 ≤ (10000 - s) * (B - z) := Int.mul_nonneg (by omega) (by omega)
  have b2 : 0 ≤ (10000 + s) * (B + z) := Int.mul_nonneg (by omega) (by omega)
  have b3 : 0 ≤ (10000 - s) * (B + z) := Int.mul_nonneg (by omega) (by omega)
  have b4 : 0 ≤ (10000 + s) * (B - z) := Int.mul_nonneg (by omega) (by omega)
  omega
theorem near_back {q x : Int} (h0 : -500000 ≤ q) (h1 : q ≤ 500000) : (0 ≤ x → -(500000 * x) ≤ q * x ∧ q * x ≤ 500000 * x) ∧ (x < 0 → 500000 * x ≤ q * x ∧ q * x ≤ -(500000 * x)) := by
  have e1 : (500000 - q) * x = 500000 * x - q * x := Int.sub_mul _ _ _
  have e2 : (500000 + q) * x = 500000 * x + q * x := Int.add_mul _ _ _
  constructor
  · intro h
    have b1 : 0 ≤ (500000 - q) * x := Int.mul_nonneg (by omega) h
    have b2 : 0 ≤ (500000 + q) * x := Int.mul_nonneg (by omega) h
    omega
  · intro h
    have b1 : (500000 - q) * x ≤ 0 := Int.mul_nonpos_of_nonneg_of_nonpos (by omega) (by omega)
    have b2 : (500000 + q) * x ≤ 0 := Int.mul_nonpos_of_nonneg_of_nonpos (by omega) (by omega)
    omega
/-- U * d = C b + S c + r3, U * b = C x - S y + r1, U * c = S x + C y + r2 -/
theorem back_eq (C S x y b c d r1 r2 r3 : Int) (hb : b * 10000 = C * x - S * y + r1) (hc : c * 10000 = S * x + C * y + r2) (hd : d * 10000 = C * b + S * c + r3) :
    (d - x) * 100000000 = (S * S + C * C - 100000000) * x + C * r1 + S * r2 + r3 * 10000 := by
  have e1 : C * (b * 10000) = C * (C * x - S * y + r1) := by rw [hb]
  have e2 : S * (c * 10000) = S * (S * x + C * y + r2) := by rw [hc]
  have e3 : (d * 10000) * 10000 = (C * b + S * c + r3) * 10000 := by rw [hd]
  rw [Int.mul_add, Int.mul_sub] at e1
  rw [Int.mul_add, Int.mul_add] at e2
  have f1 : C * (b * 10000) = C * b * 10000 := (Int.mul_assoc _ _ _).symm
  have f2 : S * (c * 10000) = S * c * 10000 := (Int.mul_assoc _ _ _).symm
  have f3 : C * (C * x) = C * C * x := (Int.mul_assoc _ _ _).symm
  have f4 : S * (S * x) = S * S * x := (Int.mul_assoc _ _ _).symm
  have f5 : C * (S * y) = S * (C * y) := Int.mul_left_comm _ _ _
  have f6 : (S * S + C * C - 100000000) * x = S * S * x + C * C * x - 100000000 * x := by rw [Int.sub_mul, Int.add_mul]
  omega
theorem back_facts {C S x y b c d r1 r2 r3 : Int} (hC : -10000 ≤ C ∧ C ≤ 10000) (hS : -10000 ≤ S ∧ S ≤ 10000) (hq : -500000 ≤ S * S + C * C - 100000000 ∧ S * S + C * C - 100000000 ≤ 500000)
    (hb : b * 10000 = C * x - S * y + r1) (hc : c * 10000 = S * x + C * y + r2) (hd : d * 10000 = C * b + S * c + r3) (k1 : -5000 < r1 ∧ r1 ≤ 5000) (k2 : -5000 < r2 ∧ r2 ≤ 5000) (k3 : -5000 < r3 ∧ r3 ≤ 5000) :
    (0 ≤ x → d - x ≤ x / 200 + 2 ∧ -(x / 200 + 2) ≤ d - x) ∧ (x < 0 → d - x ≤ (-x) / 200 + 2 ∧ -((-x) / 200 + 2) ≤ d - x) := by
  have e := back_eq C S x y b c d r1 r2 r3 hb hc hd
  have m1 := mul_bd (z := r1) (B := 5000) hC.1 hC.2 (by omega) (by omega)
  have m2 := mul_bd (z := r2) (B := 5000) hS.1 hS.2 (by omega) (by omega)
  have n := near_back (x := x) hq.1 hq.2
  generalize (S * S + C * C - 100000000) * x = Q at *
  generalize C * r1 = A at *
  generalize S * r2 = B at *
  constructor
  · intro h
    have := n.1 h
    omega
  · intro h
    have := n.2 h
    omega
theorem halves {P : Int} (h : Ok P) : -50000000 ≤ P.tdiv 2 ∧ P.tdiv 2 ≤ 50000000 := by
  unfold Ok at h
  have e := Int.tdiv_mul_add_tmod P 2
  have k1 := Int.tmod_lt_of_pos P (by omega : (0 : Int) < 2)
  have k2 := Int.lt_tmod_of_pos P (by omega : (0 : Int) < 2)
  omega
theorem opposite (k : Int) : An.cos (-k) = An.cos k ∧ An.sin (-k) = -An.sin k ∧ -500000 ≤ An.sin k * An.sin k + An.cos k * An.cos k - 100000000 ∧ An.sin k * An.sin k + An.cos k * An.cos k - 100000000 ≤ 500000 := by
  have e := An.at_each k
  simp only [An.each, Bool.and_eq_true, beq_iff_eq, decide_eq_true_eq] at e
  obtain ⟨⟨⟨⟨⟨⟨⟨e1, e2⟩, e3⟩, e4⟩, e5⟩, e6⟩, e7⟩, e8⟩ := e
  have n : An.norm (-An.norm k) = An.norm (-k) := by unfold An.norm; omega
  rw [An.sin_of n, An.sin_norm] at e3
  rw [An.cos_of n, An.cos_norm] at e5
  rw [An.sin_norm, An.cos_norm] at e6 e7
  exact ⟨e5, e3, e7, e6⟩
theorem turns_all {P Q : Int} (k : Int) (hP : Ok P) (hQ : Ok Q) : ∃ X Y b c d h : Int, P.tdiv 2 = X ∧ Q.tdiv 2 = Y ∧ turnx P Q 900 = -Q ∧ turny P Q 900 = P ∧ turnx P Q 1800 = -P ∧ turny P Q 1800 = -Q ∧ err (Ok P ∧ Ok Q) = 0 ∧
    turnx X Y k = b ∧ turny X Y k = c ∧ err (Ok X ∧ Ok Y) = 0 ∧ turnx b c (-k) = d ∧ turny b c (-k) = h ∧ err (Ok b ∧ Ok c) = 0 ∧
    -50000000 ≤ X ∧ X ≤ 50000000 ∧ -50000000 ≤ Y ∧ Y ≤ 50000000 ∧ -200000000 ≤ d ∧ d ≤ 200000000 ∧ -200000000 ≤ h ∧ h ≤ 200000000 ∧
    (0 ≤ X → d - X ≤ X / 200 + 2 ∧ -(X / 200 + 2) ≤ d - X) ∧ (X < 0 → d - X ≤ (-X) / 200 + 2 ∧ -((-X) / 200 + 2) ≤ d - X) ∧
    (0 ≤ Y → h - Y ≤ Y / 200 + 2 ∧ -(Y / 200 + 2) ≤ h - Y) ∧ (Y < 0 → h - Y ≤ (-Y) / 200 + 2 ∧ -((-Y) / 200 + 2) ≤ h - Y) := by
  have kk : Ok P ∧ Ok Q := ⟨hP, hQ⟩
  have c9 : An.cos 900 = 0 := by decide
  have s9 : An.sin 900 = 10000 := by decide
  have c18 : An.cos 1800 = -10000 := by decide
  have s18 : An.sin 1800 = 0 := by decide
  obtain ⟨X0, X1⟩ := halves hP
  obtain ⟨Y0, Y1⟩ := halves hQ
  generalize hX : P.tdiv 2 = X at *
  generalize hY : Q.tdiv 2 = Y at *
  have kx : Ok X ∧ Ok Y := by unfold Ok; omega
  obtain ⟨o1, o2, o3, o4⟩ := opposite k
  have hC := An.cos_range k
  have hS := An.sin_range k
  have hC' := hC
  have hS' := hS
  generalize hCe : An.cos k = C at *
  generalize hSe : An.sin k = S at *
  have tb : turnx X Y k = Ar.half (X * C - Y * S) 10000 := by rw [turnx, if_pos kx, hCe, hSe]
  have tc : turny X Y k = Ar.half (X * S + Y * C) 10000 := by rw [turny, if_pos kx, hCe, hSe]
  have m1 := mul_bd (z := X) (B := 50000000) hC.1 hC.2 X0 X1
  have m2 := mul_bd (z := Y) (B := 50000000) hS.1 hS.2 Y0 Y1
  have m3 := mul_bd (z := X) (B := 50000000) hS.1 hS.2 X0 X1
  have m4 := mul_bd (z := Y) (B := 50000000) hC.1 hC.2 Y0 Y1
  rw [Int.mul_comm X C, Int.mul_comm Y S] at tb
  rw [Int.mul_comm X S, Int.mul_comm Y C] at tc
  obtain ⟨r1, b1, b2, b3⟩ := half_ten' (n := C * X - S * Y) (by omega) (by omega)
  obtain ⟨r2, d1, d2, d3⟩ := half_ten' (n := S * X + C * Y) (by omega) (by omega)
  rw [← tb] at b1
  rw [← tc] at d1
  generalize hbe : turnx X Y k = b at *
  generalize hce : turny X Y k = c at *
  have kb : Ok b ∧ Ok c := by unfold Ok; omega
  have td : turnx b c (-k) = Ar.half (C * b + S * c) 10000 := by rw [turnx, if_pos kb, o1, o2, Int.mul_comm b C, Int.mul_neg, Int.mul_comm c S, Int.sub_neg]
  have th : turny b c (-k) = Ar.half (C * c + -S * b) 10000 := by rw [turny, if_pos kb, o1, o2, Int.mul_neg, Int.mul_comm b S, Int.mul_comm c C, Int.neg_mul, Int.add_comm]
  have kb' : Ok b ∧ Ok c := kb
  unfold Ok at kb
  have m5 := mul_bd (z := b) (B := 100000000) hC.1 hC.2 kb.1.1 kb.1.2
  have m6 := mul_bd (z := c) (B := 100000000) hS.1 hS.2 kb.2.1 kb.2.2
  have m7 := mul_bd (z := b) (B := 100000000) hS.1 hS.2 kb.1.1 kb.1.2
  have m8 := mul_bd (z := c) (B := 100000000) hC.1 hC.2 kb.2.1 kb.2.2
  have q1 : ∀ n : Int, -2000000000000 ≤ n → n ≤ 2000000000000 → ∃ r, Ar.half n 10000 * 10000 = n + r ∧ -5000 < r ∧ r ≤ 5000 := fun n h0 h1 => by
    have hb := Ar.good (n := n) (d := 10000) ⟨by omega, by omega, by omega, by omega⟩
    have e : Ar.half n 10000 = (2 * n + 10000) / 20000 := by rw [Ar.half, if_neg hb]; rfl
    refine ⟨Ar.half n 10000 * 10000 - n, by omega, ?_, ?_⟩ <;> (rw [e]; omega)
  obtain ⟨r3, g1, g2, g3⟩ := q1 (C * b + S * c) (by omega) (by omega)
  obtain ⟨r4, h1, h2, h3⟩ := q1 (C * c + -S * b) (by rw [Int.neg_mul]; omega) (by rw [Int.neg_mul]; omega)
  have hd1 : Ar.half (C * b + S * c) 10000 ≤ 200000000 ∧ -200000000 ≤ Ar.half (C * b + S * c) 10000 := by omega
  have hh1 : Ar.half (C * c + -S * b) 10000 ≤ 200000000 ∧ -200000000 ≤ Ar.half (C * c + -S * b) 10000 := by
    rw [Int.neg_mul] at h1 ⊢
    omega
  have B1 := back_facts hC hS ⟨o3, o4⟩ b1 d1 g1 ⟨b2, b3⟩ ⟨d2, d3⟩ ⟨g2, g3⟩
  have B2 := back_facts (C := C) (S := -S) (x := Y) (y := X) (b := c) (c := b) (d := Ar.half (C * c + -S * b) 10000) (r1 := r2) (r2 := r1) (r3 := r4) hC (by omega) (by rw [Int.neg_mul_neg]; exact ⟨o3, o4⟩)
    (by rw [Int.neg_mul]; omega) (by rw [Int.neg_mul]; omega) h1 ⟨d2, d3⟩ ⟨b2, b3⟩ ⟨h2, h3⟩
  refine ⟨X, Y, b, c, _, _, rfl, rfl, ?_, ?_, ?_, ?_, by unfold err; rw [if_pos kk], hbe, hce, by unfold err; rw [if_pos kx], td, th, by unfold err; rw [if_pos kb'], X0, X1, Y0, Y1, hd1.2, hd1.1, hh1.2, hh1.1, B1.1, B1.2, B2.1, B2.2⟩
  · rw [turnx, if_pos kk, c9, s9]
    unfold Ok at kk
    obtain ⟨r, e1, e2, e3⟩ := half_ten' (n := P * 0 - Q * 10000) (by omega) (by omega)
    omega
  · rw [turny, if_pos kk, c9, s9]
    unfold Ok at kk
    obtain ⟨r, e1, e2, e3⟩ := half_ten' (n := P * 10000 + Q * 0) (by omega) (by omega)
    omega
  · rw [turnx, if_pos kk, c18, s18]
    unfold Ok at kk
    obtain ⟨r, e1, e2, e3⟩ := half_ten' (n := P * -10000 - Q * 0) (by omega) (by omega)
    omega
  · rw [turny, if_pos kk, c18, s18]
    unfold Ok at kk
    obtain ⟨r, e1, e2, e3⟩ := half_ten' (n := P * 0 + Q * -10000) (by omega) (by omega)
    omega
end Fr
end Go.Proofs.Ytjmmkphdomiohaa
