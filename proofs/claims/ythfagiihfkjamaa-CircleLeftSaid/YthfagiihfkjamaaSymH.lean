/- XSym is sound: functions. -/
import Derived.Test.YthfagiihfkjamaaSymK
namespace Go.Proofs.Ythfagiihfkjamaa
open Go.RowKit
namespace Sym
section
variable {P : Program} {s : Sp} {n0 : Nat} {A : Inva}
theorem asAddr_run (a : Addr) (w : World) : (asAddr (.pointer (some a))).run P w = .ok a w := rfl
theorem res_run {ρ : Env} {β : List Nat} {st : St} {a : Act} {w : World} (hR : SRel s n0 ρ β st a w) : ∀ {l : List ResultVar} {vs : List SV}, resS P st l = some vs →
    (l.mapM fun r => (match r with | .tmp t => pure (a.tmps.getD t undef) | .cell c t => do loadVar t (← asAddr (a.tmps.getD c undef)) : Sem Value)).run P w = .ok (SV.dens ρ β vs) w
  | [], vs, h => by simp only [resS, Option.some.injEq] at h; subst h; simp [SV.dens]
  | .tmp t :: rest, vs, h => by
    simp only [resS, Option.map_eq_some_iff] at h
    obtain ⟨l, hl, rfl⟩ := h
    simp only [List.mapM_cons, Sem.run_bind, Sem.run_pure, Result.andThen_ok, res_run hR hl, SV.dens]
    rw [hR.tm, getD_dens]
  | .cell c t :: rest, vs, h => by
    simp only [resS] at h
    split at h
    · rename_i i o hc
      split at h
      · rename_i v l hv hl
        injection h with h
        subst h
        have e : a.tmps.getD c undef = .pointer (some ⟨β.getD i 0, o, none⟩) := by rw [hR.tm, getD_dens, hc]; rfl
        simp only [List.mapM_cons, Sem.run_bind, e, asAddr_run, Sem.run_pure, Result.andThen_ok, load_run hR.h hv, res_run hR hl, SV.dens]
      · cases h
    · cases h
theorem results_run {fn : Func} {ρ : Env} {β : List Nat} {st : St} {a : Act} {w : World} (hR : SRel s n0 ρ β st a w) {vs : List SV} (h : resS P st fn.results.toList = some vs) (v : SV) (hv : vs = [v] ∨ (vs.length ≠ 1 ∧ v = .tuple vs)) :
    (results fn a.tmps).run P w = .ok (v.den ρ β) w := by
  unfold results
  rw [Array.mapM_eq_mapM_toList]
  simp only [Sem.run_bind, Sem.run_map]
  erw [res_run hR h]
  simp only [Result.andThen_ok, Sem.run_pure]
  rcases hv with rfl | ⟨hl, rfl⟩
  · simp [SV.dens]
  · rw [dif_neg (by simp [dens_len]; exact hl)]
    simp [SV.den]
theorem body_ok {call : Caller} (hc : CallerOk P call) (hm : P.follows .mixedOrders = true) (F : Inv n0 s) {cut : Cut} {n : Nat} {f : FuncId} {fn : Func} (hf : P.funcs[f]? = some fn) {args : List SV} {st : St} {ρ : Env} {Q : SV × St → Env → Sp → Prop}
    (hP : PRel ρ st) (h : (bodyS P call cut n fn args st).holds P n0 s ρ A Q) {β : List Nat} {w : World} (hH : HRel s n0 ρ β st.hp w) :
    Calls P f (SV.dens ρ β args).toArray w fun e w' => ∃ sv st' ρ' γ s', e = .returned (sv.den ρ' γ) ∧ PRel ρ' st' ∧ ρ.le ρ' ∧ Le β γ ∧ Inv n0 s' ∧ s.le s' ∧ HRel s' n0 ρ' γ st'.hp w' ∧ Q (sv, st') ρ' s' := by
  unfold bodyS at h
  split at h
  · rename_i c hb
    have hR : SRel s n0 ρ β { st with tm := args ++ List.replicate (fn.ntmps - args.length) (.con undef) } { tmps := (SV.dens ρ β args).toArray ++ Array.replicate (fn.ntmps - (SV.dens ρ β args).toArray.size) undef, defers := [] } w := by
      refine ⟨F, ⟨hP.ni, hP.nb, hP.nv, hP.bd, hP.kn, hP.sl, hP.sk⟩, hH, ?_, rfl⟩
      apply Array.ext'
      simp [dens_eq, SV.den]
    refine calls_of_wp hf hb (wp_mono ((code_ok hc hm cut n).1 hR (bind_dn _ h)) fun e a' w' ⟨⟨x, st'⟩, ρ', γ, s', he, hR', l1, l2, l3, A', hq⟩ => ?_)
    subst he
    simp only at hq hR'
    have fin : ∀ {vs : List SV} (v : SV), resS P st' fn.results.toList = some vs → (vs = [v] ∨ (vs.length ≠ 1 ∧ v = .tuple vs)) → Q (v, st') ρ' s' →
        a'.defers = [] ∧ ∃ u, (results fn a'.tmps).run P w' = .ok u w' ∧ ∃ sv st' ρ' γ s', Ending.returned u = .returned (sv.den ρ' γ) ∧ PRel ρ' st' ∧ ρ.le ρ' ∧ Le β γ ∧ Inv n0 s' ∧ s.le s' ∧ HRel s' n0 ρ' γ st'.hp w' ∧ Q (sv, st') ρ' s' := by
      intro vs v h1 h2 h3
      exact ⟨hR'.df, _, results_run hR' h1 v h2, v, st', ρ', γ, s', rfl, hR'.p, l1, l2, hR'.f, l3, hR'.h, h3⟩
    split at hq
    · exact hq.elim
    · rename_i hx
      have key : bodyPost P fn (fun e w' => ∃ sv st' ρ' γ s', e = .returned (sv.den ρ' γ) ∧ PRel ρ' st' ∧ ρ.le ρ' ∧ Le β γ ∧ Inv n0 s' ∧ s.le s' ∧ HRel s' n0 ρ' γ st'.hp w' ∧ Q (sv, st') ρ' s') .ret a' w' := by
        split at hq
        · rename_i v hv
          exact fin v hv (.inl rfl) hq
        · rename_i vs hne hv
          exact fin _ hv (.inr ⟨fun e => by
            match vs, e with
            | [v], _ => exact hne v rfl, rfl⟩) hq
        · exact hq.elim
      cases x with
      | exit i => exact absurd rfl (hx i)
      | normal => exact key
      | ret => exact key
  · exact h.elim
theorem caller_ok (hm : P.follows .mixedOrders = true) (cons : List Con) (cuts : FuncId → Cut) : ∀ n, CallerOk P (callS P cons cuts n)
  | 0 => fun _ _ _ _ _ _ _ h => h.elim
  | n + 1 => fun F f args st ρ Q hP h => by
    have ih : CallerOk P (callS P cons cuts n) := caller_ok hm cons cuts n
    simp only [callS] at h
    split at h
    · rename_i k _
      split at h
      · rename_i e
        simp only [beq_iff_eq] at e
        subst e
        exact con_ok F hP h
      · exact h.elim
    · split at h
      · rename_i fn hf
        split at h
        · exact h.elim
        · rename_i hcnd
          simp only [Bool.or_eq_true, Bool.not_eq_true', not_or, Bool.not_eq_false] at hcnd
          obtain ⟨h1, h2⟩ := hcnd
          refine ⟨h1, fun β w hH => ?_⟩
          refine (body_ok ih hm F hf hP (bind_dn _ h) hH).mono fun e w' ⟨sv, st', ρ', γ, s', he, p, l1, l2, F', l3, hH', A', hq⟩ => ?_
          refine ⟨sv, { st' with tm := st.tm }, ρ', γ, s', he, ⟨p.ni, p.nb, p.nv, p.bd, p.kn, p.sl, p.sk⟩, rfl, SV.dens_le l1 l2 (by rw [hH.len, hP.ni, hP.nb, hP.nv]; exact h2), l1, l2, F', l3, hH', hq⟩
      · exact h.elim
/-- no invariant is known at the start -/
def noInv : Inva := fun _ _ _ _ _ => False
/-- A function of a program, run over expressions: what its tree of cases says holds of every call. -/
theorem run_calls (hm : P.follows .mixedOrders = true) {z : Beg} {f : FuncId} {t : T SV} (ht : runS P z f = t) (F : Inv n0 s) {ρ : Env} (hP : PRel ρ ⟨[], [], z.ni, z.nb, z.nv, 0, z.bd, [], z.sl, z.sk⟩) {w : World} (hS : s.S w)
    {R : Ending → World → Prop} (h : t.holds P n0 s ρ noInv fun sv ρ' s' => ∀ w', s.S w' → s'.S w' → R (.returned (sv.den ρ' [])) w') : Calls P f (SV.dens ρ [] z.args).toArray w R := by
  subst ht
  unfold runS at h
  split at h
  · rename_i fn hf
    have hH : HRel s n0 ρ [] (⟨[], [], z.ni, z.nb, z.nv, 0, z.bd, [], z.sl, z.sk⟩ : St).hp w := ⟨hS, rfl, by simp, by simp, by simp, by simp⟩
    refine (body_ok (caller_ok hm z.cons z.cut 40) hm F hf hP (bind_dn _ h) hH).mono fun e w' ⟨sv, st', ρ', γ, s', he, p, l1, l2, _, l3, hH', A', hq⟩ => ?_
    split at hq
    · rename_i hs
      rw [he, den_nil γ (by rw [p.ni, p.nb, p.nv]; exact hs)]
      exact hq w' (l3.1 _ hH'.inv) hH'.inv
    · exact hq.elim
  · exact h.elim
end
end Sym
end Go.Proofs.Ythfagiihfkjamaa
