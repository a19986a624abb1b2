/- OperationExact: for every input the law returns true, and each argument reads behind the call as it read before. The row's step over the law's theorem for all data. -/
import Derived.Test.YtkapaokcgbgjfaaDoorRows
import Derived.Test.YtkapaokcgbgjfaaDoorWOExact
import Derived.Test.YtkapaokcgbgjfaaDoorOpG
import Derived.Test.YtkapaokcgbgjfaaDoorCards
import Derived.Test.YtkapaokcgbgjfaaDoorTie
import Derived.WalkKit
import Derived.ProofKit
import Derived.OpenShut
namespace Go.Proofs.YtkapaokcgbgjfaaDoor.operationExact
open Go.ChangeShapes Go.WideShapes Go.ChangeAt Go.RowKit
theorem own : ownKnob Tryd.prog.godebug = none := by kernel_rfl
theorem laidOut : laidOutB Tryd.prog = true := by kernel_rfl
/-- the first value of a type -/
noncomputable def wit (t : TypeId) : Value := ((Tryd.prog.info? t).bind (·.zero)).getD undef
set_option maxRecDepth 100000 in
theorem lifted (os : Os) (started : os.Started) (H : Type) (enc : TypeId × Value → H) :
    ReturnsInHanded {} Tryd.checked os 3 .any (fun w args => (Rows.operationExactSpec.pre enc Tryd.prog Tryd.f3 Rows.operationExactRow.domain false w args ∧ laidMetH Tryd.prog laidL w) ∧ sizedMet enc Tryd.prog Tryd.f3 (OpenSpec.ofChange Rows.operationExactSpec) false w args) (Rows.operationExactSpec.post enc Tryd.prog Tryd.f3 false true false false) := by
  refine returnsInHanded_of_change_and (C := Tryd.checked) (X := fun w _ => laidMetH Tryd.prog laidL w) (fun _ _ _ hh h => h.of_heap hh) own started (by kernel_rfl) Tryd.func3
    (ChangeSpec.witness_shaped (enc := enc) (C := Tryd.checked) (os := os) (X := fun w _ => laidMetH Tryd.prog laidL w) false (World.doorLaid Tryd.prog 400 os) #[.slice none 0 0, (wit 28), .int .i64 0, .int .i64 0, .int .i64 0, .int .i64 0, .bool false, .slice none 0 0, .slice none 0 0] 8 rfl (World.shaped_of_RefB (by kernel_rfl) (by kernel_rfl)) (by kernel_rfl) (by kernel_rfl) (by kernel_rfl) (door_met os _)) ?_
  intro W base args ds gs before hval0 hW _ _ hL _
  have hgl := gl_of_laid hL
  have hW' := hW
  obtain ⟨p, q, hA0, hV, rfl, _, _⟩ := hW
  obtain ⟨rfl, rfl⟩ := trodVars_none hV
  have hlt : ∀ x ∈ p, x.block < W.heap.size := fun x hx => hW'.lt x (by simp [hx])
  have hA : DataW.TrodAll enc Tryd.prog W 0 (fun _ => true) true [22, 28, 3, 3, 3, 3, 4, 22, 22] args.toList ds p := by
    have h : DataW.TrodAll enc Tryd.prog W 0 (fun _ => true) true Tryd.f3.params.toList args.toList ds p := hA0
    rw [Tryd.params3] at h
    exact h
  have hval : ∀ (j : Nat) t v, ([22, 28, 3, 3, 3, 3, 4, 22, 22] : List TypeId)[j]? = some t → args.toList[j]? = some v → Value.okWide Tryd.prog W .any base t v := fun j t v h1 h2 =>
    hval0 j t v (by show Tryd.f3.params[j]? = some t; rw [Tryd.params3]; simpa using h1) (by simpa using h2)
  obtain ⟨dd, hw, hargs⟩ := Fx.args_of laidOut (ps := OperationExact_ps) (by kernel_rfl) (by kernel_rfl) (by rw [← List.all_eq_true (p := isVar Tryd.prog)]; kernel_rfl) hval hA hlt
  obtain ⟨d0, d1, d2, d3, d4, d5, d6, d7, d8, rfl⟩ : ∃ d0 d1 d2 d3 d4 d5 d6 d7 d8, ds = [d0, d1, d2, d3, d4, d5, d6, d7, d8] := by
    obtain ⟨_, _, d0, s0, _, _, _, e0, _, _, r0⟩ := trodAll_cons hA
    obtain ⟨_, _, d1, s1, _, _, _, e1, _, _, r1⟩ := trodAll_cons r0
    obtain ⟨_, _, d2, s2, _, _, _, e2, _, _, r2⟩ := trodAll_cons r1
    obtain ⟨_, _, d3, s3, _, _, _, e3, _, _, r3⟩ := trodAll_cons r2
    obtain ⟨_, _, d4, s4, _, _, _, e4, _, _, r4⟩ := trodAll_cons r3
    obtain ⟨_, _, d5, s5, _, _, _, e5, _, _, r5⟩ := trodAll_cons r4
    obtain ⟨_, _, d6, s6, _, _, _, e6, _, _, r6⟩ := trodAll_cons r5
    obtain ⟨_, _, d7, s7, _, _, _, e7, _, _, r7⟩ := trodAll_cons r6
    obtain ⟨_, _, d8, s8, _, _, _, e8, _, _, r8⟩ := trodAll_cons r7
    obtain ⟨_, en, _⟩ := trodAll_nil r8
    exact ⟨d0, d1, d2, d3, d4, d5, d6, d7, d8, by rw [e0, e1, e2, e3, e4, e5, e6, e7, e8, en]⟩
  refine (OperationExact_all W args.toList dd hw hargs hgl).mono fun e W' ⟨he, hnx⟩ => ?_
  subst he
  refine ⟨_, rfl, _, _, _, [], p, [], hW', ?_, ?_, rfl, hnx.frame _, fun h => by cases h⟩
  · exact trodAll_cons_mk (shut_bool Tryd.underlying4 _) trodAll_mk0
  · show DataW.TrodAll enc Tryd.prog W' 0 (fun b => decide (b < W.heap.size)) true Tryd.f3.params.toList args.toList _ p
    rw [Tryd.params3]
    exact Fx.below_trodAll laidOut hnx (by kernel_rfl) hA hlt
theorem over : Rows.operationExactRow.holds Tryd.pinned (OpenSpec.ofChange Rows.operationExactSpec) :=
  OpenClaim.holds_of_wide 3 Tryd.f3 rfl rfl rfl rfl rfl rfl rfl ⟨rfl, rfl, rfl, rfl, rfl⟩ rfl rfl rfl rfl rfl (by kernel_rfl) Tryd.func3 (by kernel_rfl)
    (of_decide_eq_true (by kernel_rfl)) (by unfold Func.isWrapper; first | (rw [if_pos (by decide +kernel)]; kernel_rfl) | (rw [if_neg (by decide +kernel)]; exact ⟨rfl, rfl⟩))
    (fun os started H enc _ => lifted os started H enc)
theorem proved : Rows.OperationExactCardSaid :=
  Claim7.holds_tied_plain_at .later [] [.data] true (true, "291e4688b077ac40b50126dfba52f7f5bd4bee5e27bcada6531afe8cd4eb14d5") false
    over (fun _ h => by cases h) (by kernel_rfl) (fun _ h => by cases h) operationExact_row_tie rfl ⟨rfl, rfl⟩ (by kernel_rfl) rfl
    (fun f fn hf hfn => by
      obtain rfl : f = 3 := Option.some.inj ((show Tryd.prog.funcNamed "dynpos/dynposlaw30.OperationExact" = some 3 by kernel_rfl).symm.trans hf) |>.symm
      obtain rfl : fn = Tryd.f3 := (Option.some.inj (Tryd.func3.symm.trans hfn)).symm
      exact ⟨by kernel_rfl, fun j t ht => by
        rw [Tryd.params3] at ht
        have hm : t ∈ [22, 28, 3, 3, 3, 3, 4, 22, 22] := by simpa using Array.mem_of_getElem? ht
        have hall : ([22, 28, 3, 3, 3, 3, 4, 22, 22].all fun u => !Tryd.prog.wantsStandIn u) = true := by kernel_rfl
        exact (show Tryd.prog.wantsStandIn t = false by simpa using List.all_eq_true.1 hall t (by simpa using hm))⟩)
    (by kernel_rfl)
#print axioms proved
end Go.Proofs.YtkapaokcgbgjfaaDoor.operationExact
