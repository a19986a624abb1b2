/- How XSym's trees are used. -/
import Derived.Test.YthfagiihfkjamaaSymH
import Derived.Test.YthfagiihfkjamaaProg
namespace Go.Proofs.Ythfagiihfkjamaa
open Go.RowKit
namespace Sym
/-- numbers within their bounds, one by one -/
def BdL : List Int → Bds → Prop
  | _, [] => True
  | [], _ :: _ => False
  | x :: xs, some (l, h) :: bd => (l ≤ x ∧ x ≤ h) ∧ BdL xs bd
  | _ :: xs, none :: bd => BdL xs bd
theorem BdL.ok {bs : List Bool} {vs : List Value} : ∀ {is : List Int} {bd : Bds}, BdL is bd → BdOk ⟨is, bs, vs⟩ bd
  | is, [], _ => fun i l h k => by simp at k
  | [], _ :: _, h => h.elim
  | x :: xs, some (l, h) :: bd, k => fun i a b q => by
    cases i with
    | zero => simp at q; obtain ⟨rfl, rfl⟩ := q; simpa using k.1
    | succ i => have := BdL.ok (bs := bs) (vs := vs) k.2 i a b (by simpa using q); simpa using this
  | x :: xs, none :: bd, k => fun i a b q => by
    cases i with
    | zero => simp at q
    | succ i => have := BdL.ok (bs := bs) (vs := vs) (bd := bd) k i a b (by simpa using q); simpa using this
theorem follows : Try.prog.follows .mixedOrders = true := by kernel_rfl
/-- A function by its tree: of every call, in whatever world. -/
theorem calls {z : Beg} {f : FuncId} {t : T SV} (ht : runS Try.prog z f = t) (ρ : Env) (hi : ρ.is.length = z.ni) (hb : ρ.bs.length = z.nb) (hv : ρ.vs.length = z.nv) (hd : BdL ρ.is z.bd) (hsl : SlOk ρ.is ρ.vs z.sl) (hsk : SkOk ρ.vs z.sk) {s : Sp} {n0 : Nat} (F : Inv n0 s) {w : World} (hS : s.S w)
    {R : Ending → World → Prop} (h : t.holds Try.prog n0 s ρ noInv fun sv ρ' s' => ∀ w', s.S w' → s'.S w' → R (.returned (sv.den ρ' [])) w') : Calls Try.prog f (SV.dens ρ [] z.args).toArray w R :=
  run_calls follows ht F ⟨hi, hb, hv, by cases ρ; exact BdL.ok hd, by simp, hsl, hsk⟩ hS h
theorem slNil (is : List Int) (vs : List Value) : SlOk is vs [] := fun p h => by cases h
theorem skNil (vs : List Value) : SkOk vs [] := fun p h => by cases h
/-- ..of numbers and booleans alone, whose result is a value that is told, and that leaves what there was as it was -/
theorem fixed {z : Beg} {f : FuncId} {t : T SV} (ht : runS Try.prog z f = t) (ρ : Env) (hi : ρ.is.length = z.ni) (hb : ρ.bs.length = z.nb) (hv : ρ.vs.length = z.nv) (hd : BdL ρ.is z.bd) (hsl : SlOk ρ.is ρ.vs z.sl) (hsk : SkOk ρ.vs z.sk) (w : World) (v : Value)
    (h : t.holds Try.prog w.heap.size (spB w) ρ noInv fun sv ρ' _ => sv.den ρ' [] = v) : Calls Try.prog f (SV.dens ρ [] z.args).toArray w fun e w' => e = .returned v ∧ Below w.heap.size w w' :=
  calls ht ρ hi hb hv hd hsl hsk (inv_below w) (Below.refl _ _) (holds_mono (fun _ _ _ h2 w' hw _ => ⟨by rw [h2], hw⟩) h)
/-- a contract of a call that leaves what there was as it was -/
theorem got {w0 w : World} {ρ : Env} {β : List Nat} {hp : List Blk} (hH : HRel (spB w0) w0.heap.size ρ β hp w) {f : FuncId} {args : Array Value} {v : Value} (h : Calls Try.prog f args w fun e w' => e = .returned v ∧ Below w.heap.size w w') :
    Calls Try.prog f args w (Got (spB w0) β w (· = v)) :=
  h.mono fun _ _ ⟨he, hb⟩ => ⟨v, he, rfl, Below.trans hH.inv (hb.mono (Below.size hH.inv)), hb.size, fun b hb' => hb.block b (hH.lo b hb').2.1⟩
theorem same_below {f : FuncId} {args : Array Value} {w : World} {v : Value} (h : Calls Try.prog f args w fun e w' => e = .returned v ∧ w = w') : Calls Try.prog f args w fun e w' => e = .returned v ∧ Below w.heap.size w w' :=
  h.mono fun _ _ ⟨he, hw⟩ => ⟨he, by subst hw; exact Below.refl _ _⟩
end Sym
end Go.Proofs.Ythfagiihfkjamaa
