/- What drags, rests and rounds in a ship's motion. -/
import Derived.Test.YtcogndnencabhaaVesX
import Derived.Test.YtcogndnencabhaaSplT
set_option linter.unusedVariables false
set_option linter.unusedSimpArgs false
namespace Go.Proofs.Ytcogndnencabhaa
open Go.RowKit Fx
theorem hdv_mono {n n' d : Int} (hd : 1 ≤ d) (h : n ≤ n') : hdv n d ≤ hdv n' d := Int.ediv_le_ediv (by omega) (by omega)
theorem hdv_mul {d q : Int} (hd : 1 ≤ d) : hdv (d * q) d = q := by
  rw [hdv_of (d := d) (q := q) (r := 0) (by omega) (by omega) (by omega), if_pos (by omega)]
theorem hdv_zero {d : Int} (hd : 1 ≤ d) : hdv 0 d = 0 := by
  have := hdv_mul (q := 0) hd
  rwa [Int.mul_zero] at this
/-- without a force, drag makes no speed greater -/
theorem spd_drag {s drag mass : Int} (h0 : 0 ≤ drag) (h1 : drag ≤ mass) (h2 : 1 ≤ mass) : (0 ≤ s → 0 ≤ spd 0 s drag mass ∧ spd 0 s drag mass ≤ s) ∧ (s ≤ 0 → s ≤ spd 0 s drag mass ∧ spd 0 s drag mass ≤ 0) := by
  unfold spd
  have e : 10000 * 0 - drag * s = -(drag * s) := by omega
  rw [e]
  constructor
  · intro hs
    have a := Int.mul_nonneg h0 hs
    have b := Int.mul_le_mul_of_nonneg_right h1 hs
    have m1 := hdv_mono (n := mass * -s) (n' := -(drag * s)) h2 (by rw [Int.mul_neg]; omega)
    have m2 := hdv_mono (n := -(drag * s)) (n' := 0) h2 (by omega)
    rw [hdv_mul h2] at m1
    rw [hdv_zero h2] at m2
    omega
  · intro hs
    have a := Int.mul_nonneg h0 (show 0 ≤ -s by omega)
    have b := Int.mul_le_mul_of_nonneg_right h1 (show 0 ≤ -s by omega)
    rw [Int.mul_neg] at a b
    rw [Int.mul_neg] at b
    have m1 := hdv_mono (n := 0) (n' := -(drag * s)) h2 (by omega)
    have m2 := hdv_mono (n := -(drag * s)) (n' := mass * -s) h2 (by rw [Int.mul_neg]; omega)
    rw [hdv_mul h2] at m2
    rw [hdv_zero h2] at m1
    omega
theorem spd_full {s mass : Int} (h2 : 1 ≤ mass) : spd 0 s mass mass = 0 := by
  unfold spd
  rw [show 10000 * 0 - mass * s = mass * -s by rw [Int.mul_neg]; omega, hdv_mul h2]
  omega
theorem spd_none {f s mass q : Int} (h2 : 1 ≤ mass) (hq : 10000 * f = mass * q) : spd f s 0 mass = s + q := by
  unfold spd
  rw [Int.zero_mul, Int.sub_zero, hq, hdv_mul h2]
theorem sin_at0 : fxSin_T.run noM 0 [.i 0] = some [.i 0] := by kernel_rfl
theorem cos_at0 : fxCos_T.run noM 0 [.i 0] = some [.i 10000] := by kernel_rfl
theorem sin_at900 : fxSin_T.run noM 0 [.i 900] = some [.i 10000] := by kernel_rfl
theorem cos_at900 : fxCos_T.run noM 0 [.i 900] = some [.i 0] := by kernel_rfl
/-- sines of a heading -/
theorem sincos (c : Int) (h0 : 0 ≤ c) (h1 : c < 360000) : ∃ sn cn, fxSin_T.run noM 0 [.i (c / 100)] = some [.i sn] ∧ fxCos_T.run noM 0 [.i (c / 100)] = some [.i cn] ∧ -10000 ≤ sn ∧ sn ≤ 10000 ∧ -10000 ≤ cn ∧ cn ≤ 10000 := by
  obtain ⟨l, e1, sn, rfl, b1, b2⟩ := sin_to (a := c / 100) (by omega) (by omega)
  obtain ⟨l, e2, cn, rfl, b3, b4⟩ := cos_to (a := c / 100) (by omega) (by omega)
  exact ⟨sn, cn, e1, e2, b1, b2, b3, b4⟩
noncomputable def lawM : Models := Models.on srcHull_K.f (srcHull_T.run srcHM 0) (Models.on srcMotion_K.f (srcMotion_T.run srcM 0) (Models.on vRun_K.f (vRun_T.run vrM 500) (Models.on vStep_K.f (vStep_T.run vsM 0) (Models.on sane23_K.f (fun _ => some [.b true]) (Models.on srcN_K.f (srcN_T.run noM 0) noM)))))
/-- numbers of a hull, where it is good -/
theorem hull_ints {h0 h1 h2 h3 h4 h5 h6 h7 h8 h9 h10 h11 h12 : D} (h : HullOk h0 h1 h2 h3 h4 h5 h6 h7 h8 h9 h10 h11 h12) : 1 ≤ h9.int ∧ h9.int ≤ 1000000 ∧ 1 ≤ h10.int ∧ h10.int ≤ 1073741824 ∧ 0 ≤ h11.int ∧ h11.int ≤ h9.int ∧ 0 ≤ h12.int ∧ h12.int ≤ h10.int := by
  unfold HullOk at h
  exact h.2.2.2.2.2.2.2.2.2
end Go.Proofs.Ytcogndnencabhaa
