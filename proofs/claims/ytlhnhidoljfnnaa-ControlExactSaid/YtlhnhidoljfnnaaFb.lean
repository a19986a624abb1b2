/- XFa's expressions: their ranges; what a case tells. -/
import Derived.Test.YtlhnhidoljfnnaaFa
namespace Go.Proofs.Ytlhnhidoljfnnaa
namespace Fx
/-- the numbers lie in their ranges -/
def BdOk (ρ : List D) (bd : Bds) : Prop := ∀ i l h, bd[i]? = some (some (l, h)) → l ≤ (ρ.getD i (.i 0)).int ∧ (ρ.getD i (.i 0)).int ≤ h
theorem mul_hi {x y l h : Int} (a : l ≤ x) (b : x ≤ h) : x * y ≤ max (l * y) (h * y) := by
  rcases Int.le_total 0 y with k | k
  · have := Int.mul_le_mul_of_nonneg_right b k; omega
  · have := Int.mul_le_mul_of_nonpos_right a k; omega
theorem mul_lo {x y l h : Int} (a : l ≤ x) (b : x ≤ h) : min (l * y) (h * y) ≤ x * y := by
  rcases Int.le_total 0 y with k | k
  · have := Int.mul_le_mul_of_nonneg_right a k; omega
  · have := Int.mul_le_mul_of_nonpos_right b k; omega
theorem mul_rng {x y l h l' h' : Int} (a : l ≤ x) (b : x ≤ h) (c : l' ≤ y) (d : y ≤ h') :
    min (min (l * l') (l * h')) (min (h * l') (h * h')) ≤ x * y ∧ x * y ≤ max (max (l * l') (l * h')) (max (h * l') (h * h')) := by
  have e1 := mul_hi (y := y) a b
  have e2 := mul_lo (y := y) a b
  have f1 := mul_hi (y := l) c d
  have f2 := mul_lo (y := l) c d
  have g1 := mul_hi (y := h) c d
  have g2 := mul_lo (y := h) c d
  rw [Int.mul_comm y l, Int.mul_comm l' l, Int.mul_comm h' l] at f1 f2
  rw [Int.mul_comm y h, Int.mul_comm l' h, Int.mul_comm h' h] at g1 g2
  omega
theorem tdiv_mono {x y c : Int} (hc : 0 < c) (h : x ≤ y) : x.tdiv c ≤ y.tdiv c := by
  by_cases hx : 0 ≤ x
  · rw [Int.tdiv_eq_ediv_of_nonneg hx, Int.tdiv_eq_ediv_of_nonneg (by omega)]
    exact Int.ediv_le_ediv hc h
  · by_cases hy : 0 ≤ y
    · have a : x.tdiv c ≤ 0 := by
        rw [show x = -(-x) by omega, Int.neg_tdiv, Int.tdiv_eq_ediv_of_nonneg (by omega)]
        have := Int.ediv_nonneg (a := -x) (b := c) (by omega) (by omega)
        omega
      have b : 0 ≤ y.tdiv c := by
        rw [Int.tdiv_eq_ediv_of_nonneg hy]
        exact Int.ediv_nonneg hy (by omega)
      omega
    · have e1 : x.tdiv c = -((-x) / c) := by
        have := Int.neg_tdiv (-x) c
        rw [Int.neg_neg] at this
        rw [this, Int.tdiv_eq_ediv_of_nonneg (by omega)]
      have e2 : y.tdiv c = -((-y) / c) := by
        have := Int.neg_tdiv (-y) c
        rw [Int.neg_neg] at this
        rw [this, Int.tdiv_eq_ediv_of_nonneg (by omega)]
      have := Int.ediv_le_ediv hc (show -y ≤ -x by omega)
      omega
theorem tmod_rng {x l h c : Int} (hc : 0 < c) (a : l ≤ x) (b : x ≤ h) :
    (if 0 ≤ l then 0 else 1 - c) ≤ x.tmod c ∧ x.tmod c ≤ (if 0 ≤ h then min (max h 0) (c - 1) else 0) := by
  have t1 : -c < x.tmod c := Int.lt_tmod_of_pos x hc
  have t2 : x.tmod c < c := Int.tmod_lt_of_pos x hc
  constructor
  · split
    · exact Int.tmod_nonneg _ (by omega)
    · omega
  · by_cases hx : 0 ≤ x
    · have : x.tmod c ≤ x := by
        rw [Int.tmod_eq_emod_of_nonneg hx]
        have e := Int.emod_add_mul_ediv x c
        have := Int.mul_nonneg (show (0 : Int) ≤ c by omega) (Int.ediv_nonneg hx (show (0 : Int) ≤ c by omega))
        omega
      split <;> omega
    · have : x.tmod c ≤ 0 := by
        rw [show x = -(-x) by omega, Int.neg_tmod]
        have := Int.tmod_nonneg c (show (0 : Int) ≤ -x by omega)
        omega
      split <;> omega
theorem wrap_rng (k : IntKind) (z : Int) : k.min ≤ k.wrap z ∧ k.wrap z ≤ k.max := by
  cases k <;> simp only [IntKind.wrap, IntKind.bits, IntKind.signed, IntKind.min, IntKind.max] <;> simp <;> (try split) <;> omega
theorem wrap_in (k : IntKind) (z : Int) (a : k.min ≤ z) (b : z ≤ k.max) : k.wrap z = z := by
  cases k <;> simp only [IntKind.wrap, IntKind.bits, IntKind.signed, IntKind.min, IntKind.max] at * <;> simp at * <;> (try split) <;> omega
theorem rng_ok {ρ : List D} {bd : Bds} (hb : BdOk ρ bd) : ∀ {e : X} {l h : Int}, e.rng bd = some (l, h) → l ≤ (e.den ρ).int ∧ (e.den ρ).int ≤ h
  | .V i, l, h, k => by
    simp only [X.rng] at k
    split at k
    · rename_i r e
      subst k
      simp only [X.den]
      exact hb i l h e
    · cases k
  | .N z, l, h, k => by simp only [X.rng, Option.some.injEq, Prod.mk.injEq] at k; simp only [X.den, D.int]; omega
  | .add a b, l, h, k | .sub a b, l, h, k | .mul a b, l, h, k | .mx a b, l, h, k | .mn a b, l, h, k => by
    simp only [X.rng] at k
    cases ra : a.rng bd with
    | none => rw [ra] at k; simp at k
    | some x =>
      cases rb : b.rng bd with
      | none => rw [ra, rb] at k; simp at k
      | some y =>
        obtain ⟨x1, x2⟩ := x
        obtain ⟨y1, y2⟩ := y
        rw [ra, rb] at k
        simp only [Option.some.injEq, Prod.mk.injEq] at k
        have p := rng_ok hb ra
        have q := rng_ok hb rb
        simp only [X.den, D.int] at p q ⊢
        obtain ⟨rfl, rfl⟩ := k
        first
          | exact mul_rng p.1 p.2 q.1 q.2
          | omega
  | .quo a b, l, h, k => by
    simp only [X.rng] at k
    cases ra : a.rng bd with
    | none => rw [ra] at k; simp at k
    | some x =>
      obtain ⟨x1, x2⟩ := x
      have p := rng_ok hb ra
      rw [ra] at k
      cases b <;> simp at k
      obtain ⟨hc, k⟩ := k
      simp only [X.den, D.int] at p ⊢
      obtain ⟨rfl, rfl⟩ := k
      exact ⟨tdiv_mono hc p.1, tdiv_mono hc p.2⟩
  | .rem a b, l, h, k => by
    simp only [X.rng] at k
    cases ra : a.rng bd with
    | none =>
      rw [ra] at k
      cases b <;> simp at k
      obtain ⟨hc, k⟩ := k
      rename_i c
      simp only [X.den, D.int]
      obtain ⟨rfl, rfl⟩ := k
      have t1 := Int.lt_tmod_of_pos (X.den ρ a).int hc
      have t2 := Int.tmod_lt_of_pos (X.den ρ a).int hc
      simp only [D.int] at t1 t2
      omega
    | some x =>
      obtain ⟨x1, x2⟩ := x
      have p := rng_ok hb ra
      rw [ra] at k
      cases b <;> simp at k
      obtain ⟨hc, k⟩ := k
      simp only [X.den, D.int] at p ⊢
      split at k
      · rename_i e
        injection k with k
        injection k with k1 k2
        subst k1 k2 e
        have e2 := Int.le_antisymm p.2 p.1
        rw [e2]
        exact ⟨Int.le_refl _, Int.le_refl _⟩
      · injection k with k
        injection k with k1 k2
        subst k1 k2
        exact tmod_rng hc p.1 p.2
  | .wr k a, l, h, q => by
    simp only [X.rng, Option.some.injEq, Prod.mk.injEq] at q
    obtain ⟨rfl, rfl⟩ := q
    simp only [X.den, D.int]
    exact wrap_rng k _
  | .len a, l, h, k => by
    simp only [X.rng, Option.some.injEq, Prod.mk.injEq] at k
    simp only [X.den, D.int, D.len]
    omega
  | .slen a, l, h, k => by
    simp only [X.rng, Option.some.injEq, Prod.mk.injEq] at k
    simp only [X.den, D.int, D.slen]
    omega
  | .sat a b, l, h, k => by
    simp only [X.rng, Option.some.injEq, Prod.mk.injEq] at k
    simp only [X.den, D.int]
    have := UInt8.toNat_lt ((X.den ρ a).str.data.toList.getD (X.den ρ b).int.toNat 0)
    simp only [D.int] at this
    omega
  | .cond c a b, l, h, k => by
    simp only [X.rng] at k
    cases ra : a.rng bd with
    | none => rw [ra] at k; simp at k
    | some x =>
      cases rb : b.rng bd with
      | none => rw [ra, rb] at k; simp at k
      | some y =>
        obtain ⟨x1, x2⟩ := x
        obtain ⟨y1, y2⟩ := y
        rw [ra, rb] at k
        simp only [Option.some.injEq, Prod.mk.injEq] at k
        have p := rng_ok hb ra
        have q := rng_ok hb rb
        obtain ⟨rfl, rfl⟩ := k
        simp only [X.den]
        split <;> omega
  | .B _, _, _, k | .S _, _, _, k | .rep _ _, _, _, k | .ssub _ _ _, _, _, k | .slt _ _, _, _, k | .sbytes _, _, _, k | .bstr _, _, _, k | .not _, _, _, k | .lt _ _, _, _, k | .eq _ _, _, _, k | .beq _ _, _, _, k | .and _ _, _, _, k | .seq _ _, _, _, k | .at _ _ _, _, _, k | .app _ _, _, _, k | .put _ _ _ _, _, _, k | .rows _, _, _, k | .take _ _, _, _, k | .drop _ _, _, _, k | .scat _ _, _, _, k => by
    simp [X.rng] at k
/-- the expression denotes a number -/
def X.isInt : X → Bool
  | .N _ | .add .. | .sub .. | .mul .. | .quo .. | .rem .. | .mx .. | .mn .. | .wr .. | .len _ => true
  | _ => false
theorem nf_den {ρ : List D} {bd : Bds} (hb : BdOk ρ bd) (e : X) : ((e.nf bd).den ρ).int = (e.den ρ).int := by
  unfold X.nf
  split
  · rename_i l h hr
    split
    · have := rng_ok hb hr
      simp only [X.den, D.int] at *
      omega
    · rfl
  · rfl
theorem remX_den {ρ : List D} {bd : Bds} (hb : BdOk ρ bd) (a b : X) : ((remX bd a b).den ρ).int = ((X.rem a b).den ρ).int := by
  unfold remX
  split
  · rename_i l h c hr
    split
    · have := rng_ok hb hr
      simp only [X.den]
      show (a.den ρ).int = ((a.den ρ).int).tmod c
      exact (Int.tmod_eq_of_lt (by omega) (by omega)).symm
    · exact nf_den hb _
  · exact nf_den hb _
theorem mk_den {ρ : List D} {bd : Bds} (hb : BdOk ρ bd) (k : IntKind) (e : X) : ((mk bd k e).den ρ).int = k.wrap (e.den ρ).int := by
  unfold mk
  split
  · rename_i l h hr
    split
    · rename_i hk
      have := rng_ok hb hr
      rw [wrap_in k _ (by omega) (by omega)]
      split
      · simp only [X.den, D.int] at *; omega
      · rfl
    · rfl
  · rfl
theorem subX_den {ρ : List D} {bd : Bds} (hb : BdOk ρ bd) (k : IntKind) (a b : X) : ((subX bd k a b).den ρ).int = k.wrap ((a.den ρ).int - (b.den ρ).int) := by
  unfold subX
  split
  · rename_i e
    rw [X.same_eq e, Int.sub_self, wrap_in k 0 (by cases k <;> simp [IntKind.min, IntKind.bits, IntKind.signed]) (by cases k <;> simp [IntKind.max, IntKind.bits, IntKind.signed])]
    simp [X.den, D.int]
  · rw [mk_den hb]; simp only [X.den, D.int]
theorem bLt_den {ρ : List D} {bd : Bds} (hb : BdOk ρ bd) (a b : X) : ((bLt bd a b).den ρ).boo = decide ((a.den ρ).int < (b.den ρ).int) := by
  unfold bLt
  split
  · rename_i ra rb
    have p := rng_ok hb ra
    have q := rng_ok hb rb
    split
    · exact (decide_eq_true (by omega)).symm
    · split
      · exact (decide_eq_false (by omega)).symm
      · simp only [X.den, D.boo]
  · simp only [X.den, D.boo]
theorem bNot_den (ρ : List D) (b : X) : ((bNot b).den ρ).boo = !(b.den ρ).boo := by
  unfold bNot
  split <;> simp [X.den, D.boo]
theorem bLe_den {ρ : List D} {bd : Bds} (hb : BdOk ρ bd) (a b : X) : ((bLe bd a b).den ρ).boo = decide ((a.den ρ).int ≤ (b.den ρ).int) := by
  unfold bLe
  rw [bNot_den, bLt_den hb]
  by_cases h : (a.den ρ).int ≤ (b.den ρ).int
  · rw [decide_eq_true h, decide_eq_false (by omega)]; rfl
  · rw [decide_eq_false h, decide_eq_true (by omega)]; rfl
theorem bEq_den {ρ : List D} {bd : Bds} (hb : BdOk ρ bd) (a b : X) : ((bEq bd a b).den ρ).boo = decide ((a.den ρ).int = (b.den ρ).int) := by
  unfold bEq
  split
  · rename_i e; rw [X.same_eq e]; simp [X.den, D.boo]
  split
  · rename_i ra rb
    have p := rng_ok hb ra
    have q := rng_ok hb rb
    split
    · exact (decide_eq_false (by omega)).symm
    · split
      · exact (decide_eq_true (by omega)).symm
      · simp only [X.den, D.boo]
  · simp only [X.den, D.boo]
theorem bAnd_den (ρ : List D) (a b : X) : ((bAnd a b).den ρ).boo = ((a.den ρ).boo && (b.den ρ).boo) := by
  unfold bAnd
  split <;> simp [X.den, D.boo]
theorem BdOk.set {ρ : List D} {bd : Bds} (hb : BdOk ρ bd) {i : Nat} {l h : Int} (hi : l ≤ (ρ.getD i (.i 0)).int ∧ (ρ.getD i (.i 0)).int ≤ h) : BdOk ρ (bd.set i (some (l, h))) := by
  intro j l' h' k
  rw [List.getElem?_set] at k
  split at k
  · rename_i e
    subst e
    split at k
    · simp only [Option.some.injEq, Prod.mk.injEq] at k
      obtain ⟨rfl, rfl⟩ := k
      exact hi
    · cases k
  · exact hb j l' h' k
theorem lower_ok {ρ : List D} {bd : Bds} (hb : BdOk ρ bd) {e : X} {z : Int} (h : z ≤ (e.den ρ).int) : BdOk ρ (lower bd e z) := by
  unfold lower
  split
  · split
    · rename_i l h' k
      have := hb _ _ _ k
      simp only [X.den] at h
      exact hb.set (by omega)
    · exact hb
  · exact hb
theorem upper_ok {ρ : List D} {bd : Bds} (hb : BdOk ρ bd) {e : X} {z : Int} (h : (e.den ρ).int ≤ z) : BdOk ρ (upper bd e z) := by
  unfold upper
  split
  · split
    · rename_i l h' k
      have := hb _ _ _ k
      simp only [X.den] at h
      exact hb.set (by omega)
    · exact hb
  · exact hb
theorem less_ok {ρ : List D} {bd : Bds} (hb : BdOk ρ bd) {a b : X} {d : Int} (h : (a.den ρ).int < (b.den ρ).int + d) : BdOk ρ (less bd a b d) := by
  unfold less
  have h1 : BdOk ρ (match b.rng bd with | some (_, h) => upper bd a (h + d - 1) | none => bd) := by
    split
    · rename_i k
      have := rng_ok hb k
      exact upper_ok hb (by omega)
    · exact hb
  simp only
  split
  · rename_i k
    have := rng_ok hb k
    exact lower_ok h1 (by omega)
  · exact h1
theorem differ_ok {ρ : List D} {bd : Bds} (hb : BdOk ρ bd) {a : X} {z : Int} (h : (a.den ρ).int ≠ z) : BdOk ρ (differ bd a z) := by
  unfold differ
  split
  · split
    · rename_i l h' k
      have := hb _ _ _ k
      simp only [X.den] at h
      split
      · exact hb.set (by omega)
      · split
        · exact hb.set (by omega)
        · exact hb
    · exact hb
  · exact hb
theorem tell_ok {ρ : List D} : ∀ {b : X} {bd : Bds} {t : Bool}, BdOk ρ bd → (b.den ρ).boo = t → BdOk ρ (tell bd b t)
  | .not b, bd, t, hb, h => by simp only [tell]; exact tell_ok hb (by have k : (!(b.den ρ).boo) = t := h; cases t <;> simpa using k)
  | .lt a b, bd, t, hb, h => by
    simp only [X.den, D.boo] at h
    cases t
    · simp only [tell]; exact less_ok hb (by have := of_decide_eq_false h; omega)
    · simp only [tell]; exact less_ok hb (by have := of_decide_eq_true h; omega)
  | .eq a b, bd, t, hb, h => by
    simp only [X.den, D.boo] at h
    cases t
    · have := of_decide_eq_false h
      simp only [tell]
      split
      · exact differ_ok hb this
      · exact differ_ok hb (fun e => this (by simpa [X.den, D.int] using e.symm))
      · exact hb
    · have := of_decide_eq_true h
      simp only [tell]
      exact less_ok (less_ok hb (by omega)) (by omega)
  | .and a b, bd, t, hb, h => by
    simp only [X.den, D.boo] at h
    cases t
    · simp only [tell]; exact hb
    · simp only [Bool.and_eq_true] at h
      simp only [tell]
      exact tell_ok (tell_ok hb h.1) h.2
  | .V _, _, t, hb, _ | .N _, _, t, hb, _ | .B _, _, t, hb, _ | .S _, _, t, hb, _ | .add _ _, _, t, hb, _ | .sub _ _, _, t, hb, _ | .mul _ _, _, t, hb, _ | .quo _ _, _, t, hb, _ | .rem _ _, _, t, hb, _ | .mx _ _, _, t, hb, _ | .mn _ _, _, t, hb, _ | .wr _ _, _, t, hb, _
  | .beq _ _, _, t, hb, _ | .seq _ _, _, t, hb, _ | .at _ _ _, _, t, hb, _ | .len _, _, t, hb, _ | .app _ _, _, t, hb, _ | .put _ _ _ _, _, t, hb, _ | .rows _, _, t, hb, _ | .take _ _, _, t, hb, _ | .drop _ _, _, t, hb, _ | .slen _, _, t, hb, _ | .sat _ _, _, t, hb, _ | .scat _ _, _, t, hb, _ | .rep _ _, _, t, hb, _ | .cond _ _ _, _, t, hb, _ | .ssub _ _ _, _, t, hb, _ | .slt _ _, _, t, hb, _ | .sbytes _, _, t, hb, _ | .bstr _, _, t, hb, _ => by cases t <;> simpa only [tell] using hb
end Fx
end Go.Proofs.Ytlhnhidoljfnnaa
