/- The program draws its orders. -/
import Derived.Test.YtlhnhidoljfnnaaFw
import Derived.Test.YtlhnhidoljfnnaaProg
import Derived.Test.YtlhnhidoljfnnaaKit
set_option linter.unusedVariables false
set_option linter.unusedSimpArgs false
namespace Go.Proofs.Ytlhnhidoljfnnaa
open Go.RowKit Fx
theorem follows : Try.prog.follows .mixedOrders = true := by kernel_rfl
/-- numbers as data -/
def numD (zs : List Int) : D := .l (zs.map fun z => [.i z])
theorem args_ints {w : World} {G : Nat → Prop} {k : IntKind} {v : Value} {zs : List Int} {ps : List PK} {vs : List Value} {ds : List D} {pb : List Nat} (hv : IntsIn w w.heap.size v k zs) (hG : ∀ b, b < w.heap.size → G b) (h : Args w G ps vs ds pb) : Args w G (.val false [.sl [.int k]] :: ps) (v :: vs) (numD zs :: ds) pb := by
  obtain ⟨A, c, rfl, h1, h2, h3, h4⟩ := hv
  refine ⟨[.slice A zs.length c], [numD zs], ds, rfl, by simp [cellsV], ⟨?_, trivial⟩, h⟩
  simp only [RepC, numD, D.rows_l, List.length_map]
  refine ⟨A, c, rfl, h1, h2, ?_⟩
  rcases Nat.eq_zero_or_pos zs.length with e | e
  · exact .inl e
  · obtain ⟨b, o, ha, hb, hc⟩ := h4 e
    refine .inr ⟨b, o, ha, .inr (hG b hb), fun i row hi => ?_⟩
    rw [List.getElem?_map, Option.map_eq_some_iff] at hi
    obtain ⟨z, hz, rfl⟩ := hi
    have hl : i < zs.length := lt_of_get hz
    have := hc i hl
    rw [List.getD_eq_getElem?_getD, hz, Option.getD_some] at this
    simp only [RepR, List.length_singleton, Nat.mul_one]
    exact ⟨.i z, [], rfl, ⟨_, this, rfl⟩, rfl⟩
end Go.Proofs.Ytlhnhidoljfnnaa
