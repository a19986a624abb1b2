/- Loops in trees. -/
import Derived.Test.YtlhnhidoljfnnaaFw
set_option linter.unusedVariables false
namespace Go.Proofs.Ytlhnhidoljfnnaa
open Go.RowKit Fx
theorem loopE_to {B : List D → Option (Bool × List D)} {I : Nat → List D → Prop} {R : List D → Prop} (step : ∀ m l, I m l → ∃ b l', B l = some (b, l') ∧ ((b = true ∧ ∃ m', m = m' + 1 ∧ I m' l') ∨ (b = false ∧ R l'))) :
    ∀ (m N : Nat) (l : List D), m < N → I m l → ∃ r, loopE B N l = some r ∧ R r := by
  intro m
  induction m with
  | zero =>
    intro N l hN h
    obtain ⟨N, rfl⟩ := Nat.exists_eq_succ_of_ne_zero (show N ≠ 0 by omega)
    obtain ⟨b, l', e, h | h⟩ := step 0 l h
    · obtain ⟨_, m', e', _⟩ := h
      omega
    · obtain ⟨rfl, h⟩ := h
      exact ⟨l', by simp only [loopE, e], h⟩
  | succ m ih =>
    intro N l hN h
    obtain ⟨N, rfl⟩ := Nat.exists_eq_succ_of_ne_zero (show N ≠ 0 by omega)
    obtain ⟨b, l', e, h | h⟩ := step (m + 1) l h
    · obtain ⟨rfl, m', e', hI⟩ := h
      have em : m' = m := by omega
      rw [em] at hI
      obtain ⟨r, h1, h2⟩ := ih N l' (by omega) hI
      exact ⟨r, by simp only [loopE, e]; exact h1, h2⟩
    · obtain ⟨rfl, h⟩ := h
      exact ⟨l', by simp only [loopE, e], h⟩
/-- a loop, by what its rounds keep and how many are left -/
theorem To.loop {M : Models} {N : Nat} {α : Type} {ρ : List D} {Q : α → List D → Prop} {init : List X} {body : T (Bool × List X)} {k : Nat} {x : T α} (I : Nat → List D → Prop) (R : List D → Prop) (n : Nat) (hN : n < N) (h0 : I n (X.dens ρ init))
    (step : ∀ m l, I m l → body.To M N (ρ ++ l) fun p ρ' => (p.1 = true ∧ ∃ m', m = m' + 1 ∧ I m' (X.dens ρ' p.2)) ∨ (p.1 = false ∧ R (X.dens ρ' p.2)))
    (after : ∀ l, R l → l.length = k ∧ x.To M N (ρ ++ l) Q) : (T.loop init body k x).To M N ρ Q := by
  obtain ⟨r, h1, h2⟩ := loopE_to (B := fun l => match body.eval M N (ρ ++ l) with | some ((b, xs), ρ') => some (b, X.dens ρ' xs) | none => none) (I := I) (R := R) (fun m l h => by
    obtain ⟨⟨b, xs⟩, ρ', h1, h2⟩ := step m l h
    exact ⟨b, X.dens ρ' xs, by simp only [h1], h2⟩) n N (X.dens ρ init) hN h0
  obtain ⟨h3, a, ρ', h4, h5⟩ := after r h2
  refine ⟨a, ρ', ?_, h5⟩
  simp only [T.eval]
  split
  · rename_i l e
    have e' : some l = some r := e.symm.trans h1
    injection e' with e'
    subst e'
    simp only [h3, if_true]
    exact h4
  · rename_i e
    have e' : none = some r := e.symm.trans h1
    cases e'
end Go.Proofs.Ytlhnhidoljfnnaa
