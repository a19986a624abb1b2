/- Trees, walked by one tactic: rules whose goals stay small. -/
import Derived.Test.YtlhnhidoljfnnaaSN
import Derived.Test.YtlhnhidoljfnnaaLoopF
set_option linter.unusedVariables false
set_option linter.unusedSimpArgs false
namespace Go.Proofs.Ytlhnhidoljfnnaa
open Go.RowKit
namespace Fx
section
variable {M : Models} {N : Nat} {α : Type} {ρ : List D} {Q : α → List D → Prop}
/-- a join: what stands behind it is kept out of the goal -/
theorem To.subK {b : T (List X)} {k : Nat} {x : T α} (h : ∀ K : List D → Prop, (∀ l ρ2, ρ ++ l = ρ2 → x.To M N ρ2 Q → K l) → b.To M N ρ fun xs ρ' => xs.length = k ∧ K (X.dens ρ' xs)) : (T.sub b k x).To M N ρ Q :=
  To.sub (h (fun l => x.To M N (ρ ++ l) Q) (fun l ρ2 e hx => by subst e; exact hx))
theorem To.viaK {f : FuncId} {xs : List X} {k : Nat} {x : T α} {R : List D → Prop} (h : ∃ l, M f (X.dens ρ xs) = some l ∧ R l) (j : ∀ l ρ2, R l → ρ ++ l = ρ2 → l.length = k ∧ x.To M N ρ2 Q) : (T.call f xs k x).To M N ρ Q := by
  obtain ⟨l, h1, h2⟩ := h
  exact To.call h1 (j l _ h2 rfl).1 (j l _ h2 rfl).2
theorem To.callK {f : FuncId} {xs : List X} {k : Nat} {x : T α} {l : List D} (e : M f (X.dens ρ xs) = some l) (hl : l.length = k) (ρ2 : List D) (h2 : ρ ++ l = ρ2) (h : x.To M N ρ2 Q) : (T.call f xs k x).To M N ρ Q := by
  subst h2
  exact To.call e hl h
theorem To.loopK {init : List X} {body : T (Bool × List X)} {k : Nat} {x : T α} (I : Nat → List D → Prop) (R : List D → Prop) (n : Nat) (hN : n < N) (h0 : I n (X.dens ρ init))
    (step : ∀ m l ρ2, I m l → ρ ++ l = ρ2 → body.To M N ρ2 fun p ρ' => (p.1 = true ∧ ∃ m', m = m' + 1 ∧ I m' (X.dens ρ' p.2)) ∨ (p.1 = false ∧ R (X.dens ρ' p.2)))
    (after : ∀ l ρ2, R l → ρ ++ l = ρ2 → l.length = k ∧ x.To M N ρ2 Q) : (T.loop init body k x).To M N ρ Q :=
  To.loop I R n hN h0 (fun m l h => step m l _ h rfl) fun l h => after l _ h rfl
/-- a join through what is known of its value, the goals kept small -/
theorem To.joinK {b : T (List X)} {k : Nat} {x : T α} (R : List D → Prop) (h : b.To M N ρ fun xs ρ' => xs.length = k ∧ R (X.dens ρ' xs)) (j : ∀ l ρ2, R l → ρ ++ l = ρ2 → x.To M N ρ2 Q) : (T.sub b k x).To M N ρ Q :=
  To.join R h fun l hl => j l _ hl rfl
end
end Fx
end Go.Proofs.Ytlhnhidoljfnnaa
