/- Functions that are known in full, as models; a call of such a one in a tree. -/
import Derived.Test.YtlhnhidoljfnnaaAuto
import Derived.Test.YtlhnhidoljfnnaaRnd
set_option linter.unusedVariables false
set_option linter.unusedSimpArgs false
namespace Go.Proofs.Ytlhnhidoljfnnaa
open Go.RowKit
namespace Fx
abbrev ia (ds : List D) (n : Nat) : Int := (ds.getD n (.i 0)).int
def F1 (f : Int → Int) : List D → Option (List D) := fun ds => some [.i (f (ia ds 0))]
def F2 (f : Int → Int → Int) : List D → Option (List D) := fun ds => some [.i (f (ia ds 0) (ia ds 1))]
def F3 (f : Int → Int → Int → Int) : List D → Option (List D) := fun ds => some [.i (f (ia ds 0) (ia ds 1) (ia ds 2))]
def B1 (f : Int → Bool) : List D → Option (List D) := fun ds => some [.b (f (ia ds 0))]
def B2 (f : Int → Int → Bool) : List D → Option (List D) := fun ds => some [.b (f (ia ds 0) (ia ds 1))]
def B3 (f : Int → Int → Int → Bool) : List D → Option (List D) := fun ds => some [.b (f (ia ds 0) (ia ds 1) (ia ds 2))]
def B4 (f : Int → Int → Int → Int → Bool) : List D → Option (List D) := fun ds => some [.b (f (ia ds 0) (ia ds 1) (ia ds 2) (ia ds 3))]
theorem len4 {l : List D} (h : l.length = 4) : ∃ a b c d, l = [a, b, c, d] := by
  match l, h with
  | [a, b, c, d], _ => exact ⟨a, b, c, d, rfl⟩
section
variable {M : Models} {N : Nat} {α : Type} {ρ : List D} {Q : α → List D → Prop}
theorem To.callX {f : FuncId} {xs : List X} {k : Nat} {x : T α} {l : List D} (e : M f (X.dens ρ xs) = some l) (h : ∀ ρ2, ρ ++ l = ρ2 → l.length = k ∧ x.To M N ρ2 Q) : (T.call f xs k x).To M N ρ Q :=
  To.call e (h _ rfl).1 (h _ rfl).2
end
/-- the contract of a function that has no bounds, by a tree: for all data -/
theorem con_tot {P : Program} (hm : P.follows .mixedOrders = true) {M : Models} {cons : List Con} (hM : ∀ k ∈ cons, ConOk P k (M k.f)) {cuts : Cuts} {k : Con} {t : T (List X)} (ht : runS P cons cuts k = t) (hb : k.bd = []) (N : Nat) {m : List D → Option (List D)}
    (h : ∀ ds outs, ds.length = lenP k.ps → m ds = some outs → t.To M N ds fun xs ρ' => X.dens ρ' xs = outs) : ConOk P k m :=
  con_of hm hM ht fun ds outs hl ho => ⟨fun i l h e => by rw [hb] at e; simp at e, N, h ds outs hl ho⟩
end Fx
end Go.Proofs.Ytlhnhidoljfnnaa
