/- ControlExact: for every input the law returns true, and each argument reads behind the call as it read before. The row's step over the law's theorem for all data. -/
import Derived.Test.YtlhnhidoljfnnaaRows
import Derived.Test.YtlhnhidoljfnnaaWCtExact
import Derived.WalkKit
import Derived.ProofKit
import Derived.OpenShut
namespace Go.Proofs.Ytlhnhidoljfnnaa.controlExact
open Go.ChangeShapes Go.WideShapes Go.ChangeAt Go.RowKit
theorem own : ownKnob Try.prog.godebug = none := by kernel_rfl
theorem laidOut : laidOutB Try.prog = true := by kernel_rfl
/-- the first value of a type -/
noncomputable def wit (t : TypeId) : Value := ((Try.prog.info? t).bind (·.zero)).getD undef
set_option maxRecDepth 100000 in
theorem lifted (os : Os) (started : os.Started) (H : Type) (enc : TypeId × Value → H) :
    ReturnsInHanded {} Try.checked os 11 .any (Rows.controlExactSpec.pre6 enc Try.prog Try.f11 Rows.controlExactRow.domain false) (Rows.controlExactSpec.post enc Try.prog Try.f11 false true false false) := by
  refine returnsInHanded_of_change (C := Try.checked) own started (by kernel_rfl) Try.func11
    (ChangeSpec.witness6 (enc := enc) (C := Try.checked) false ⟨#[], #[.slice none 0 0, (wit 68), (wit 70), (wit 58), .int .i64 0, (wit 72)], []⟩ 8 (by kernel_rfl) (by kernel_rfl) (by kernel_rfl) (by kernel_rfl)) ?_
  intro W base args ds gs before hval0 hW _ _
  have hW' := hW
  obtain ⟨p, q, hA0, hV, rfl, _, _⟩ := hW
  obtain ⟨rfl, rfl⟩ := trodVars_none hV
  have hlt : ∀ x ∈ p, x.block < W.heap.size := fun x hx => hW'.lt x (by simp [hx])
  have hA : DataW.TrodAll enc Try.prog W 0 (fun _ => true) true [22, 68, 70, 58, 3, 72] args.toList ds p := by
    have h : DataW.TrodAll enc Try.prog W 0 (fun _ => true) true Try.f11.params.toList args.toList ds p := hA0
    rw [Try.params11] at h
    exact h
  have hval : ∀ (j : Nat) t v, ([22, 68, 70, 58, 3, 72] : List TypeId)[j]? = some t → args.toList[j]? = some v → Value.okWide Try.prog W .any base t v := fun j t v h1 h2 =>
    hval0 j t v (by show Try.f11.params[j]? = some t; rw [Try.params11]; simpa using h1) (by simpa using h2)
  obtain ⟨dd, hw, hargs⟩ := Fx.args_of laidOut (ps := ControlExact_ps) (by kernel_rfl) (by kernel_rfl) (by rw [← List.all_eq_true (p := isVar Try.prog)]; kernel_rfl) hval hA hlt
  obtain ⟨d0, d1, d2, d3, d4, d5, rfl⟩ : ∃ d0 d1 d2 d3 d4 d5, ds = [d0, d1, d2, d3, d4, d5] := by
    obtain ⟨_, _, d0, s0, _, _, _, e0, _, _, r0⟩ := trodAll_cons hA
    obtain ⟨_, _, d1, s1, _, _, _, e1, _, _, r1⟩ := trodAll_cons r0
    obtain ⟨_, _, d2, s2, _, _, _, e2, _, _, r2⟩ := trodAll_cons r1
    obtain ⟨_, _, d3, s3, _, _, _, e3, _, _, r3⟩ := trodAll_cons r2
    obtain ⟨_, _, d4, s4, _, _, _, e4, _, _, r4⟩ := trodAll_cons r3
    obtain ⟨_, _, d5, s5, _, _, _, e5, _, _, r5⟩ := trodAll_cons r4
    obtain ⟨_, en, _⟩ := trodAll_nil r5
    exact ⟨d0, d1, d2, d3, d4, d5, by rw [e0, e1, e2, e3, e4, e5, en]⟩
  refine (ControlExact_all W args.toList dd hw hargs (Fx.gl_none rfl)).mono fun e W' ⟨he, hnx⟩ => ?_
  subst he
  refine ⟨_, rfl, _, _, _, [], p, [], hW', ?_, ?_, rfl, hnx.frame _, fun h => by cases h⟩
  · exact trodAll_cons_mk (shut_bool Try.underlying4 _) trodAll_mk0
  · show DataW.TrodAll enc Try.prog W' 0 (fun b => decide (b < W.heap.size)) true Try.f11.params.toList args.toList _ p
    rw [Try.params11]
    exact Fx.below_trodAll laidOut hnx (by kernel_rfl) hA hlt
theorem over : Rows.controlExactRow.holds Try.pinned (OpenSpec.ofChange Rows.controlExactSpec) :=
  OpenClaim.holds_of_wide 11 Try.f11 rfl rfl rfl rfl rfl rfl rfl ⟨rfl, rfl, rfl, rfl, rfl⟩ rfl rfl rfl rfl rfl (by kernel_rfl) Try.func11 (by kernel_rfl)
    (of_decide_eq_true (by kernel_rfl)) (by unfold Func.isWrapper; first | (rw [if_pos (by decide +kernel)]; kernel_rfl) | (rw [if_neg (by decide +kernel)]; exact ⟨rfl, rfl⟩))
    (fun os started H enc _ => lifted os started H enc)
theorem proved : Rows.ControlExactSaid :=
  over
#print axioms proved
end Go.Proofs.Ytlhnhidoljfnnaa.controlExact
