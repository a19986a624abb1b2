/- Distances of the plane, rounded up: plain facts. -/
import Derived.Test.YtjmmkphdomiohaaFrSane
namespace Go.Proofs.Ytjmmkphdomiohaa
namespace Fr
theorem le_of_sq {x y : Int} (hy : 0 ≤ y) (h : x * x ≤ y * y) : x ≤ y := by
  rcases (by omega : x ≤ y ∨ y + 1 ≤ x) with k | k
  · exact k
  · have := Ar.sq_le (a := y + 1) (b := x) (by omega) k
    have e : (y + 1) * (y + 1) = y * y + 2 * y + 1 := by (simp only [Int.mul_add, Int.mul_comm] <;> omega)
    omega
theorem cauchy (x1 y1 x2 y2 a c : Int) (ha : 0 ≤ a) (hc : 0 ≤ c) (h1 : x1 * x1 + y1 * y1 ≤ a * a) (h2 : x2 * x2 + y2 * y2 ≤ c * c) : x1 * x2 + y1 * y2 ≤ a * c := by
  apply le_of_sq (Int.mul_nonneg ha hc)
  have e1 : (x1 * x2 + y1 * y2) * (x1 * x2 + y1 * y2) + (x1 * y2 - y1 * x2) * (x1 * y2 - y1 * x2) = (x1 * x1 + y1 * y1) * (x2 * x2 + y2 * y2) := by (simp only [Int.mul_add, Int.mul_sub, Int.mul_comm, Int.mul_left_comm] <;> omega)
  have s : ∀ z : Int, 0 ≤ z * z := fun z => by
    rcases (by omega : 0 ≤ z ∨ z ≤ 0) with h | h
    · exact Int.mul_nonneg h h
    · exact Int.mul_nonneg_of_nonpos_of_nonpos h h
  have n1 := s (x1 * y2 - y1 * x2)
  have p1 := s x1
  have p2 := s y1
  have p3 := s x2
  have p4 := s y2
  have m : (x1 * x1 + y1 * y1) * (x2 * x2 + y2 * y2) ≤ (a * a) * (c * c) := Int.mul_le_mul h1 h2 (by omega) (s a)
  have e2 : (a * a) * (c * c) = (a * c) * (a * c) := by (simp only [Int.mul_comm, Int.mul_left_comm] <;> omega)
  omega
theorem triangle (x1 y1 x2 y2 a c : Int) (ha : 0 ≤ a) (hc : 0 ≤ c) (h1 : x1 * x1 + y1 * y1 ≤ a * a) (h2 : x2 * x2 + y2 * y2 ≤ c * c) :
    (x1 + x2) * (x1 + x2) + (y1 + y2) * (y1 + y2) ≤ (a + c) * (a + c) := by
  have k := cauchy x1 y1 x2 y2 a c ha hc h1 h2
  have e1 : (x1 + x2) * (x1 + x2) + (y1 + y2) * (y1 + y2) = (x1 * x1 + y1 * y1) + (x2 * x2 + y2 * y2) + ((x1 * x2 + y1 * y2) + (x1 * x2 + y1 * y2)) := by (simp only [Int.mul_add, Int.mul_comm] <;> omega)
  have e2 : (a + c) * (a + c) = a * a + c * c + (a * c + a * c) := by (simp only [Int.mul_add, Int.mul_comm] <;> omega)
  omega
theorem abs_sq (x : Int) : 0 ≤ abs x ∧ abs x * abs x = x * x ∧ x ≤ abs x ∧ -x ≤ abs x := by
  unfold abs
  split
  · exact ⟨by omega, by rw [Int.neg_mul_neg], by omega, by omega⟩
  · exact ⟨by omega, rfl, by omega, by omega⟩
theorem dist_facts {a b c d g h : Int} (ha : Ok a) (hb : Ok b) (hc : Ok c) (hd : Ok d) (hg : Ok g) (hh : Ok h) :
    ∃ r s t m : Int, dist a b c d = r ∧ dist c d a b = r ∧ dist c d g h = s ∧ dist a b g h = t ∧ box a b c d = m ∧ dist a b a b = 0 ∧
      err (Four a b c d) = 0 ∧ err (Four c d a b) = 0 ∧ err (Four c d g h) = 0 ∧ err (Four a b g h) = 0 ∧ err (Four a b a b) = 0 ∧
      0 ≤ r ∧ 0 ≤ s ∧ 0 ≤ t ∧ 0 ≤ m ∧ r ≤ 300000001 ∧ s ≤ 300000001 ∧ m ≤ 200000000 ∧ t ≤ r + s ∧ m ≤ r ∧ 2 * r ≤ 3 * m + 1 ∧ (r = 0 ↔ a = c ∧ b = d) := by
  have F1 : Four a b c d := ⟨⟨ha, hb⟩, hc, hd⟩
  have F2 : Four c d g h := ⟨⟨hc, hd⟩, hg, hh⟩
  have F3 : Four a b g h := ⟨⟨ha, hb⟩, hg, hh⟩
  have F4 : Four c d a b := ⟨⟨hc, hd⟩, ha, hb⟩
  have F5 : Four a b a b := ⟨⟨ha, hb⟩, ha, hb⟩
  have u1 := dist_is F1
  have u2 := dist_is F2
  have u3 := dist_is F3
  have hm : box a b c d = max (abs (a - c)) (abs (b - d)) := by rw [box, if_pos F1]
  have sym : dist c d a b = dist a b c d := by
    refine dist_of F4 ?_
    have e : sq c d a b = sq a b c d := by unfold sq; (simp only [Int.mul_sub, Int.mul_comm] <;> omega)
    rw [e]; exact u1
  have z : dist a b a b = 0 := dist_of F5 (isUp_of (by omega) (by unfold sq; rw [Int.sub_self, Int.sub_self]; omega) (Or.inl rfl))
  obtain ⟨r0, r1, r2⟩ := u1
  obtain ⟨s0, s1, s2⟩ := u2
  obtain ⟨t0, t1, t2⟩ := u3
  have A1 := abs_sq (a - c)
  have A2 := abs_sq (b - d)
  have q1 := sq_range F1
  have q2 := sq_range F2
  have m0 : 0 ≤ box a b c d ∧ box a b c d ≤ 200000000 := by
    rw [hm]
    unfold Ok at ha hb hc hd
    unfold abs; omega
  refine ⟨dist a b c d, dist c d g h, dist a b g h, box a b c d, rfl, sym, rfl, rfl, rfl, z, by unfold err; rw [if_pos F1], by unfold err; rw [if_pos F4], by unfold err; rw [if_pos F2], by unfold err; rw [if_pos F3], by unfold err; rw [if_pos F5],
    r0, s0, t0, m0.1, ?_, ?_, m0.2, ?_, ?_, ?_, ?_⟩
  · exact r2 300000001 (by omega) (by unfold sq; omega)
  · exact s2 300000001 (by omega) (by unfold sq; omega)
  · refine t2 _ (by omega) ?_
    have k := triangle (a - c) (b - d) (c - g) (d - h) (dist a b c d) (dist c d g h) r0 s0 r1 s1
    have e : sq a b g h = (a - c + (c - g)) * (a - c + (c - g)) + (b - d + (d - h)) * (b - d + (d - h)) := by unfold sq; (simp only [Int.mul_add, Int.mul_sub, Int.mul_comm] <;> omega)
    rw [e]; exact k
  · have k1 : abs (a - c) ≤ dist a b c d := le_of_sq r0 (by unfold sq at r1; omega)
    have k2 : abs (b - d) ≤ dist a b c d := le_of_sq r0 (by unfold sq at r1; omega)
    rw [hm]; omega
  · have k : dist a b c d ≤ (3 * box a b c d + 1) / 2 := by
      refine r2 _ (by omega) ?_
      have a1 : abs (a - c) ≤ box a b c d := by rw [hm]; omega
      have a2 : abs (b - d) ≤ box a b c d := by rw [hm]; omega
      have b1 := Ar.sq_le A1.1 a1
      have b2 := Ar.sq_le A2.1 a2
      generalize box a b c d = m at *
      have b3 : 3 * m ≤ 2 * ((3 * m + 1) / 2) := by omega
      have b4 := Ar.sq_le (a := 3 * m) (b := 2 * ((3 * m + 1) / 2)) (by omega) b3
      have e1 : 3 * m * (3 * m) = 9 * (m * m) := by rw [Int.mul_assoc, Int.mul_left_comm m, ← Int.mul_assoc]; omega
      have e2 : 2 * ((3 * m + 1) / 2) * (2 * ((3 * m + 1) / 2)) = 4 * ((3 * m + 1) / 2 * ((3 * m + 1) / 2)) := by rw [Int.mul_assoc, Int.mul_left_comm ((3 * m + 1) / 2), ← Int.mul_assoc]; omega
      have n : 0 ≤ m * m := Int.mul_nonneg m0.1 m0.1
      unfold sq
      omega
    omega
  · constructor
    · intro k
      rw [k] at r1
      unfold sq at r1
      have z1 : (a - c) * (a - c) = 0 := by omega
      have z2 : (b - d) * (b - d) = 0 := by omega
      have y1 := Int.mul_eq_zero.1 z1
      have y2 := Int.mul_eq_zero.1 z2
      omega
    · rintro ⟨rfl, rfl⟩
      exact z
end Fr
end Go.Proofs.Ytjmmkphdomiohaa
