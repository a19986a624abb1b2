/- Contracts within bounds of what goes in. -/
import Derived.Test.YthfagiihfkjamaaPrg
set_option linter.unusedVariables false
set_option linter.unusedSimpArgs false
namespace Go.Proofs.Ythfagiihfkjamaa
open Go.RowKit Fx
def BdAll : List D → Bds → Prop
  | _, [] => True
  | [], _ => False
  | d :: ds, some (l, h) :: bd => l ≤ d.int ∧ d.int ≤ h ∧ BdAll ds bd
  | _ :: ds, none :: bd => BdAll ds bd
theorem BdAll.ok : ∀ {ds : List D} {bd : Bds}, BdAll ds bd → BdOk ds bd
  | _, [], _, i, l, h, e => by simp at e
  | [], _ :: _, q, _, _, _, _ => by simp [BdAll] at q
  | d :: ds, some (l0, h0) :: bd, q, i, l, h, e => by
    simp only [BdAll] at q
    cases i with
    | zero => simp at e; obtain ⟨rfl, rfl⟩ := e; exact ⟨q.1, q.2.1⟩
    | succ i => simp at e; have := BdAll.ok q.2.2 i l h e; simpa using this
  | d :: ds, none :: bd, q, i, l, h, e => by
    simp only [BdAll] at q
    cases i with
    | zero => simp at e
    | succ i => simp at e; have := BdAll.ok q i l h e; simpa using this
open Classical in
/-- what a tree gives, within bounds -/
noncomputable def runB (bd : Bds) (M : Models) (N : Nat) (t : T (List X)) (ds : List D) : Option (List D) := if BdOk ds bd then t.run M N ds else none
theorem con_runB {P : Program} (hm : P.follows .mixedOrders = true) {M : Models} {cons : List Con} (hM : ∀ k ∈ cons, ConOk P k (M k.f)) {cuts : List FuncId} {k : Con} {t : T (List X)} (ht : runS P cons cuts k = t) (N : Nat) : ConOk P k (runB k.bd M N t) :=
  run_con hm hM ht fun ds outs h1 h2 => by
    unfold runB at h2
    split at h2
    · rename_i hb
      refine ⟨hb, N, ?_⟩
      simp only [T.run, Option.map_eq_some_iff] at h2
      obtain ⟨⟨xs, ρ'⟩, h3, h4⟩ := h2
      exact ⟨xs, ρ', h3, h4⟩
    · cases h2
end Go.Proofs.Ythfagiihfkjamaa
