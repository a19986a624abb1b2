/- XSym is sound: calls, regions, code, functions. -/
import Derived.Test.YthfagiihfkjamaaSymE
namespace Go.Proofs.Ythfagiihfkjamaa
open Go.RowKit
namespace Sym
section
variable {P : Program} {s : Sp} {n0 : Nat} {A : Inva}
theorem callFunc_run {f : FuncId} (h : callable P f = true) (args : Array Value) (w : World) : (callFunc f args).run P w = .ok (.enter f args) w := by
  unfold callable at h
  split at h
  · rename_i fn hf
    simp only [Bool.and_eq_true, Bool.not_eq_true'] at h
    obtain ⟨h1, h2⟩ := h
    have h3 : fn.body.isNone = false := by cases e : fn.body <;> simp_all
    simp only [callFunc, Sem.run_bind, run_program, Result.andThen_ok, hf, h2, Bool.false_eq_true, if_false, h3, Sem.run_pure]
  · cases h
/-- what a call leaves -/
def CallPost (s : Sp) (n0 : Nat) (ρ : Env) (β : List Nat) (st : St) (Q : SV × St → Env → Sp → Prop) (e : Ending) (w' : World) : Prop :=
  ∃ sv st' ρ' γ s', e = .returned (sv.den ρ' γ) ∧ PRel ρ' st' ∧ st'.tm = st.tm ∧ SV.dens ρ' γ st.tm = SV.dens ρ β st.tm ∧ ρ.le ρ' ∧ Le β γ ∧ Inv n0 s' ∧ s.le s' ∧ HRel s' n0 ρ' γ st'.hp w' ∧ Q (sv, st') ρ' s'
def CallerOk (P : Program) (call : Caller) : Prop := ∀ {s : Sp} {n0 : Nat} {A : Inva}, Inv n0 s → ∀ f args st ρ Q, PRel ρ st → (call f args st).holds P n0 s ρ A Q → callable P f = true ∧
  ∀ β w, HRel s n0 ρ β st.hp w → Calls P f (SV.dens ρ β args).toArray w (CallPost s n0 ρ β st Q)
theorem den_nil {ρ : Env} {x : SV} (β : List Nat) (h : x.sc ρ.is.length ρ.bs.length ρ.vs.length 0 = true) : x.den ρ β = x.den ρ [] := SV.den_le (Env.le_refl ρ) (β := []) (γ := β) ⟨β, by simp⟩ h
/-- what is told of new numbers and values, beside those that there were -/
theorem grow_rel {ρ : Env} {st : St} (hP : PRel ρ st) (hs : st.scoped = true) (hbl : st.bd.length = st.ni) {n : New} (hsl : ∀ p ∈ n.sl, p.1 < n.nv ∧ ∃ i, p.2 = .v i ∧ i < n.ni) (hsk : ∀ i ∈ n.sk, i < n.nv)
    {is : List Int} {bs : List Bool} {vs js : List Value} (h : NewOk n is bs vs) : PRel (ρ.ext is bs (vs ++ js)) { st.grow n with nv := st.nv + n.nv + js.length } := by
  have p := prel_ext (bs := bs) (vs := vs ++ js) hP hs hbl h.bd
  refine ⟨by rw [p.ni]; simp [St.grow, h.ni], by rw [p.nb]; simp [St.grow, h.nb], by rw [p.nv]; simp [h.nv]; omega, p.bd, p.kn, ?_, ?_⟩
  · intro q hq
    simp only [St.grow, List.mem_append, List.mem_map] at hq
    rcases hq with hq | ⟨x, hx, rfl⟩
    · exact p.sl q hq
    · obtain ⟨k1, i, hi, k2⟩ := hsl x hx
      obtain ⟨a, m, c, h1, h2, h3⟩ := h.sl x hx
      refine ⟨a, m, c, ?_, ?_, h3⟩
      · simp only [Env.ext, List.getD_eq_getElem?_getD]
        rw [List.getElem?_append_right (by rw [hP.nv]; omega), hP.nv, Nat.add_sub_cancel_left, List.getElem?_append_left (by rw [h.nv]; exact k1), ← List.getD_eq_getElem?_getD]
        exact h1
      · rw [h2, hi]
        simp only [E.shift, E.den, Env.ext, List.getD_eq_getElem?_getD]
        rw [List.getElem?_append_right (by rw [hP.ni]; omega), hP.ni, Nat.add_sub_cancel_left]
  · intro q hq
    simp only [St.grow, List.mem_append, List.mem_map] at hq
    rcases hq with hq | ⟨x, hx, rfl⟩
    · exact p.sk q hq
    · have := h.sk x hx
      have k1 := hsk x hx
      simp only [Env.ext, List.getD_eq_getElem?_getD] at this ⊢
      rw [List.getElem?_append_right (by rw [hP.nv]; omega), hP.nv, Nat.add_sub_cancel_left, List.getElem?_append_left (by rw [h.nv]; exact k1)]
      exact this
theorem con_core {k : Con} {args : List SV} {st : St} {ρ : Env} {Q : SV × St → Env → Sp → Prop} (hP : PRel ρ st) (h : (conS P k args st).holds P n0 s ρ A Q) :
    callable P k.f = true ∧ st.scoped = true ∧ (conS P k args st) = .call k.fixed k.f args st.hp (k.sh.shift st.ni st.nb st.nv) k.n (.ret (k.sh.shift st.ni st.nb st.nv, st.grow k.n)) ∧
    ∀ is bs vs, NewOk k.n is bs vs → PRel (ρ.ext is bs vs) (st.grow k.n) ∧ (k.sh.shift st.ni st.nb st.nv).sc (ρ.ext is bs vs).is.length (ρ.ext is bs vs).bs.length (ρ.ext is bs vs).vs.length 0 = true := by
  unfold conS at h ⊢
  simp only at h ⊢
  split at h
  · rename_i hc
    rw [if_pos hc]
    simp only [Bool.and_eq_true, beq_iff_eq, List.all_eq_true] at hc
    obtain ⟨⟨⟨⟨⟨⟨⟨h1, h2⟩, h3⟩, _⟩, h5⟩, _⟩, h7⟩, h8⟩ := hc
    refine ⟨h1, h2, rfl, fun is bs vs hn => ?_⟩
    have p := grow_rel (js := []) hP h2 h5 (fun p hp => by
      obtain ⟨k1, k2⟩ := h7 p hp
      refine ⟨of_decide_eq_true k1, ?_⟩
      split at k2
      · rename_i i hi
        exact ⟨i, hi, of_decide_eq_true k2⟩
      · cases k2) (fun i hi => of_decide_eq_true (h8 i hi)) hn
    simp only [List.append_nil, List.length_nil, Nat.add_zero] at p
    refine ⟨p, ?_⟩
    rw [p.ni, p.nb, p.nv]
    exact h3
  · exact h.elim
theorem con_ok {k : Con} {args : List SV} {st : St} {ρ : Env} {Q : SV × St → Env → Sp → Prop} (F : Inv n0 s) (hP : PRel ρ st) (h : (conS P k args st).holds P n0 s ρ A Q) :
    callable P k.f = true ∧ ∀ β w, HRel s n0 ρ β st.hp w → Calls P k.f (SV.dens ρ β args).toArray w (CallPost s n0 ρ β st Q) := by
  obtain ⟨h1, h2, he, h4⟩ := con_core hP h
  refine ⟨h1, fun β w hH => ?_⟩
  rw [he] at h
  simp only [St.scoped, Bool.and_eq_true] at h2
  have s1 := h2.1.1.1.1
  have s2 := h2.1.1.1.2
  rw [← hP.ni, ← hP.nb, ← hP.nv] at s1 s2
  have fin : ∀ is bs vs s' w', NewOk k.n is bs vs → Inv n0 s' → s.le s' → s'.S w' → (∀ b, b ∈ β → ¬ s'.bad b) → w.heap.size ≤ w'.heap.size → (∀ b, b ∈ β → w'.heap[b]? = w.heap[b]?) →
      Q (k.sh.shift st.ni st.nb st.nv, st.grow k.n) (ρ.ext is bs vs) s' →
      CallPost s n0 ρ β st Q (.returned ((k.sh.shift st.ni st.nb st.nv).den (ρ.ext is bs vs) [])) w' := by
    intro is bs vs s' w' hn F' hle hS hbad hz hk hq
    obtain ⟨p, hsc⟩ := h4 is bs vs hn
    have hH' : HRel s' n0 ρ β st.hp w' := ⟨hS, hH.len, fun b hb => ⟨(hH.lo b hb).1, Nat.lt_of_lt_of_le (hH.lo b hb).2.1 hz, hbad b hb⟩, hH.inj,
      fun i blk hi j v hv => by rw [World.cell?_of_block (hk _ (hH.mem hi).1)]; exact hH.cells i blk hi j v hv,
      fun i blk hi hw j => by rw [World.frozen?_of_block (hk _ (hH.mem hi).1)]; exact hH.frz i blk hi hw j⟩
    refine ⟨_, _, _, β, s', ?_, p, rfl, SV.dens_le (Env.le_ext ρ is bs vs) (.refl β) (by rw [hH.len]; exact s1), Env.le_ext ρ is bs vs,   .refl β, F', hle, hH'.le (Env.le_ext ρ is bs vs) s2, hq⟩
    rw [den_nil β hsc]
  cases ht : k.fixed with
  | true =>
    rw [ht] at h
    obtain ⟨is, bs, vs, hn, hc, hq⟩ := h
    refine (hc β w hH).mono fun e w' ⟨v, hv, hR, hS, hz, hk⟩ => ?_
    subst hv hR
    exact fin is bs vs s w' hn F (Sp.le_refl s) hS (fun b hb => (hH.lo b hb).2.2) hz hk hq
  | false =>
    rw [ht] at h
    obtain ⟨R, hc, hq⟩ := h
    refine (hc β w hH).mono fun e w' ⟨is, bs, vs, s', hn, hR, F', hle, hv, hS, hb, hz, hk⟩ => ?_
    subst hv
    exact fin is bs vs s' w' hn F' hle hS hb hz hk (hq is bs vs s' hn F' hle hR)
end
end Sym
end Go.Proofs.Ythfagiihfkjamaa
