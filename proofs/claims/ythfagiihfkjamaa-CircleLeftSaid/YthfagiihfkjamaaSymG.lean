/- XSym is sound: regions, code, functions. -/
import Derived.Test.YthfagiihfkjamaaSymF
namespace Go.Proofs.Ythfagiihfkjamaa
open Go.RowKit
namespace Sym
section
variable {P : Program} {s : Sp} {n0 : Nat} {A : Inva}
theorem conSame_eq {a b : Value} (h : conSame a b = true) : a = b := by
  unfold conSame at h
  split at h
  · simp only [Bool.and_eq_true, beq_iff_eq] at h; rw [h.1, h.2]
  · simp only [beq_iff_eq] at h; rw [h]
  · rw [of_decide_eq_true h]
  · simp only [beq_iff_eq] at h; rw [h]
  · rfl
  · rfl
  · simp only [Bool.and_eq_true, beq_iff_eq] at h; rw [h.1.1, h.1.2, h.2]
  · rename_i a b
    simp only [Bool.and_eq_true, beq_iff_eq] at h
    rw [Array.eq_empty_of_size_eq_zero h.1, Array.eq_empty_of_size_eq_zero h.2]
  · cases h
mutual
theorem same_eq : ∀ {x y : SV}, x.same y = true → x = y
  | .int k a, y, h => by
    cases y <;> simp only [SV.same, Bool.false_eq_true] at h
    simp only [Bool.and_eq_true, beq_iff_eq, decide_eq_true_eq] at h; rw [h.1, h.2]
  | .bool a, y, h => by
    cases y <;> simp only [SV.same, Bool.false_eq_true] at h
    simp only [decide_eq_true_eq] at h; rw [h]
  | .con a, y, h => by
    cases y <;> simp only [SV.same, Bool.false_eq_true] at h
    rw [conSame_eq h]
  | .var i, y, h => by
    cases y <;> simp only [SV.same, Bool.false_eq_true] at h
    simp only [beq_iff_eq] at h; rw [h]
  | .el i e o, y, h => by
    cases y <;> simp only [SV.same, Bool.false_eq_true] at h
    simp only [Bool.and_eq_true, beq_iff_eq, decide_eq_true_eq] at h; rw [h.1.1, h.1.2, h.2]
  | .ptr i o, y, h => by
    cases y <;> simp only [SV.same, Bool.false_eq_true] at h
    simp only [Bool.and_eq_true, beq_iff_eq] at h; rw [h.1, h.2]
  | .row i o l c, y, h => by
    cases y <;> simp only [SV.same, Bool.false_eq_true] at h
    simp only [Bool.and_eq_true, beq_iff_eq] at h; rw [h.1.1.1, h.1.1.2, h.1.2, h.2]
  | .agg l, y, h => by
    cases y <;> simp only [SV.same, Bool.false_eq_true] at h
    rw [sames_eq h]
  | .tuple l, y, h => by
    cases y <;> simp only [SV.same, Bool.false_eq_true] at h
    rw [sames_eq h]
  | .fn f a b, y, h => by
    cases y <;> simp only [SV.same, Bool.false_eq_true] at h
    simp only [Bool.and_eq_true, beq_iff_eq] at h
    rw [h.1.1, sames_eq h.1.2, sames_eq h.2]
theorem sames_eq : ∀ {x y : List SV}, SV.sames x y = true → x = y
  | [], y, h => by cases y <;> simp only [SV.sames, Bool.false_eq_true] at h; rfl
  | x :: xs, y, h => by
    cases y <;> simp only [SV.sames, Bool.false_eq_true] at h
    simp only [Bool.and_eq_true] at h
    rw [same_eq h.1, sames_eq h.2]
end
structure SRel (s : Sp) (n0 : Nat) (ρ : Env) (β : List Nat) (st : St) (a : Act) (w : World) : Prop where
  f : Inv n0 s
  p : PRel ρ st
  h : HRel s n0 ρ β st.hp w
  tm : a.tmps = (SV.dens ρ β st.tm).toArray
  df : a.defers = []
theorem getD_dens {ρ : Env} {β : List Nat} (l : List SV) (t : Nat) : (SV.dens ρ β l).toArray.getD t undef = (l.getD t (.con undef)).den ρ β := by
  simp only [Array.getD_eq_getD_getElem?, List.getElem?_toArray, dens_get, List.getD_eq_getElem?_getD]
  cases l[t]? <;> simp [SV.den]
theorem eval_of {ρ : Env} {β : List Nat} {st : St} {a : Act} (h : a.tmps = (SV.dens ρ β st.tm).toArray) (x : Operand) : a.eval x = (evalO st x).den ρ β := by
  cases x with
  | tmp t => simp only [Act.eval, evalO, h, getD_dens]
  | const v => simp only [Act.eval, evalO, den_ofVal]
  | global g => simp only [Act.eval, evalO, SV.den]
  | func f => simp [Act.eval, evalO, SV.den, SV.dens]
theorem put_tm {ρ : Env} {β : List Nat} {st : St} {a : Act} (h : a.tmps = (SV.dens ρ β st.tm).toArray) (d : Option Tmp) (v : SV) : (a.put d (v.den ρ β)).tmps = (SV.dens ρ β (st.put d v).tm).toArray := by
  cases d with
  | none => exact h
  | some d => simp only [Act.put, St.put, h, List.setIfInBounds_toArray, dens_eq, List.map_set]
theorem put_df {a : Act} (d : Option Tmp) (v : Value) : (a.put d v).defers = a.defers := by cases d <;> rfl
theorem put_rel {ρ : Env} {st : St} (d : Option Tmp) (v : SV) (h : PRel ρ st) : PRel ρ (st.put d v) := by cases d <;> exact ⟨h.ni, h.nb, h.nv, h.bd, h.kn, h.sl, h.sk⟩
theorem put_hp {st : St} (d : Option Tmp) (v : SV) : (st.put d v).hp = st.hp := by cases d <;> rfl
theorem yield_ok {ρ : Env} {β : List Nat} {st : St} {a : Act} {ops : Array Oper} {j : Nat} {b : B} (h : a.tmps = (SV.dens ρ β st.tm).toArray) (hy : yieldS ops st j = some b) : yielded ops a.tmps j = some (b.den ρ) := by
  unfold yieldS at hy
  unfold yielded
  cases hd : (ops[j]?).bind (·.dst) with
  | none => rw [hd] at hy; simp at hy
  | some d =>
    rw [hd] at hy
    simp only [Option.bind_some] at hy ⊢
    rw [h]
    simp only [List.getElem?_toArray, dens_get]
    cases ht : st.tm[d]? with
    | none => rw [ht] at hy; simp at hy
    | some x =>
      rw [ht] at hy
      cases x <;> simp at hy
      subst hy
      simp [SV.den]
theorem undef_ok {ρ : Env} {β : List Nat} {st : St} {a : Act} {ops : Array Oper} {j : Nat} (h : a.tmps = (SV.dens ρ β st.tm).toArray) (hy : undefS ops st j = true) : yielded ops a.tmps j = none := by
  unfold undefS at hy
  unfold yielded
  cases hd : (ops[j]?).bind (·.dst) with
  | none => rfl
  | some d =>
    rw [hd] at hy
    simp only [Option.bind_some] at hy ⊢
    rw [h]
    simp only [List.getElem?_toArray, dens_get]
    cases ht : st.tm[d]? with
    | none => rfl
    | some x =>
      rw [ht] at hy
      cases x with
      | con v => cases v <;> simp at hy; simp [SV.den]
      | _ => simp at hy
/-- one operation -/
theorem step_ok {call : Caller} (hc : CallerOk P call) {ρ : Env} {β : List Nat} {st : St} {a : Act} {w : World} {o : Oper} {Q : SV × St → Env → Sp → Prop} {next : Act → World → Prop} {K : Exit → Act → World → Prop}
    (hR : SRel s n0 ρ β st a w) (h : (stepS P call st o).holds P n0 s ρ A Q)
    (hn : ∀ sv st' ρ' γ s' w', PRel ρ' st' → st'.tm = st.tm → SV.dens ρ' γ st.tm = SV.dens ρ β st.tm → ρ.le ρ' → Le β γ → Inv n0 s' → s.le s' → HRel s' n0 ρ' γ st'.hp w' → Q (sv, st') ρ' s' → next (a.put o.dst (sv.den ρ' γ)) w') :
    o.wp P a w next K := by
  have plain : (opS P st o.op).holds P n0 s ρ A Q → o.wp P a w next K := fun h => by
    obtain ⟨sv, st', ρ', p, l1, htm, _, hq, hr⟩ := opS_ok hR.f hR.p h
    obtain ⟨γ, w', nx, hrun, hv, hl, hH, hz, hd, _⟩ := hr β a w hR.h (eval_of hR.tm)
    unfold Oper.wp
    rw [hrun]
    have k := hn sv st' ρ' γ s w' p htm hd l1 hl hR.f (Sp.le_refl s) hH hq
    rcases hv with rfl | ⟨rfl, rfl⟩
    · exact k
    · simpa [Oper.upon, SV.den] using k
  unfold stepS at h
  split at h
  · rename_i c hop
    split at h
    · rename_i b hb
      obtain ⟨sv, ⟨_, hq⟩, hr⟩ := built_ok hR.p (bind_dn _ h)
      have e : (execOp a.eval o).run P w = .ok (.value (sv.den ρ β)) w := by
        simp only [execOp, hop, resolve, hb, Sem.run_bind, Sem.run_pure, Result.andThen_ok, invoke, eval_map (eval_of hR.tm), hr]
      unfold Oper.wp
      rw [e]
      exact hn sv st ρ β s w hR.p rfl rfl (Env.le_refl ρ) (.refl β) hR.f (Sp.le_refl s) hR.h hq
    · rename_i f hf
      split at h
      · rename_i g first cap hg
        obtain ⟨h1, h2⟩ := hc hR.f _ _ _ _ _ hR.p h
        have e : (execOp a.eval o).run P w = .ok (.enter g (SV.dens ρ β (first ++ c.args.toList.map (evalO st) ++ cap)).toArray) w := by
          simp only [execOp, hop, resolve, hf, eval_of hR.tm, hg, SV.den, Deferred.ofValue, Sem.run_bind, Sem.run_pure, Result.andThen_ok, invoke, callFunc_run h1, Result.ok.injEq, Next.enter.injEq, true_and, and_true]
          apply Array.ext'
          simp [dens_eq, Function.comp_def, eval_of hR.tm]
        unfold Oper.wp
        rw [e, Oper.upon_enter]
        refine (h2 β w hR.h).mono fun e w' ⟨sv, st', ρ', γ, s', he, p, htm, hd, hl, hb, F', hle, hH, hq⟩ => ?_
        subst he
        exact hn sv st' ρ' γ s' w' p htm hd hl hb F' hle hH hq
      · exact h.elim
    · exact h.elim
  · exact plain h
/-- where a stretch of code leads -/
def Post (s : Sp) (n0 : Nat) (ρ : Env) (β : List Nat) {α : Type} (to : α → St × Exit) (Q : α → Env → Sp → Prop) (e : Exit) (a' : Act) (w' : World) : Prop :=
  ∃ x ρ' γ s', e = (to x).2 ∧ SRel s' n0 ρ' γ (to x).1 a' w' ∧ ρ.le ρ' ∧ Le β γ ∧ s.le s' ∧ Q x ρ' s'
theorem reg_ok {call : Caller} (hc : CallerOk P call) {ops : Array Oper} {K : Exit → Act → World → Prop} : ∀ {l : List Oper} {s : Sp} {A : Inva} {ρ : Env} {β : List Nat} {st : St} {a : Act} {w : World} {Q : St → Env → Sp → Prop},
    SRel s n0 ρ β st a w → (regS P call ops l st).holds P n0 s ρ A Q →
    (∀ st' ρ' γ s' a' w', SRel s' n0 ρ' γ st' a' w' → ρ.le ρ' → Le β γ → s.le s' → Q st' ρ' s' → K .normal a' w') → wpList P ops K l a w
  | [], s, A, ρ, β, st, a, w, Q, hR, h, hk => hk st ρ β s a w hR (Env.le_refl ρ) (.refl β) (Sp.le_refl s) h
  | o :: rest, s, A, ρ, β, st, a, w, Q, hR, h, hk => by
    simp only [regS] at h
    replace h := bind_dn _ h
    have go : ∀ {st1 : St}, Like st st1 → PRel ρ st1 → Region.wanted o (yielded ops a.tmps) = true →
        ((stepS P call st1 o).bind fun r => .ret (r.2.put o.dst r.1)).holds P n0 s ρ A (fun st' ρ' s' => ∃ A', (regS P call ops rest st').holds P n0 s' ρ' A' Q) → wpList P ops K (o :: rest) a w := by
      intro st1 hl hp hw h
      replace h := bind_dn _ h
      have hR1 : SRel s n0 ρ β st1 a w := ⟨hR.f, hp, by rw [hl.hp]; exact hR.h, by rw [hl.tm]; exact hR.tm, hR.df⟩
      simp only [wpList, hw, if_true]
      refine .inl (step_ok hc hR1 h fun sv st' ρ' γ s' w' p htm hd hle hLe F' hsl hH hq => ?_)
      obtain ⟨_, A', hq⟩ := hq
      refine reg_ok hc (ρ := ρ') (β := γ) (st := st'.put o.dst sv) ⟨F', put_rel _ _ p, by rw [put_hp]; exact hH, put_tm (by rw [hR1.tm, htm, hd]) _ _, (put_df _ _).trans hR.df⟩ hq fun st2 ρ2 γ2 s2 a2 w2 r l1 l2 l3 q =>
        hk st2 ρ2 γ2 s2 a2 w2 r (Env.le_trans hle l1) (hLe.trans l2) (Sp.le_trans hsl l3) q
    have skip : ∀ {st1 : St}, Like st st1 → PRel ρ st1 → Region.wanted o (yielded ops a.tmps) = false →
        (T.ret (st1.put o.dst (.con undef)) : T St).holds P n0 s ρ A (fun st' ρ' s' => ∃ A', (regS P call ops rest st').holds P n0 s' ρ' A' Q) → wpList P ops K (o :: rest) a w := by
      intro st1 hl hp hw ⟨A', h⟩
      simp only [wpList, hw, Bool.false_eq_true, if_false]
      have e := put_tm (ρ := ρ) (β := β) (st := st1) (a := a) (by rw [hl.tm]; exact hR.tm) o.dst (.con undef)
      simp only [SV.den] at e
      exact reg_ok hc (ρ := ρ) (β := β) ⟨hR.f, put_rel _ _ hp, by rw [put_hp, hl.hp]; exact hR.h, e, (put_df _ _).trans hR.df⟩ h hk
    unfold turnS at h
    simp only at h
    split at h
    · rename_i hg
      exact go (.refl _) hR.p (by simp [Region.wanted, hg]) h
    · rename_i j want hg
      split at h
      · rename_i b hb
        have hy := yield_ok hR.tm hb
        obtain ⟨st1, p, l, ⟨hbd, h⟩ | ⟨hbd, h⟩⟩ := tIte_holds hR.p h
        · cases want with
          | true => exact go l p (by simp [Region.wanted, hg, hy, hbd]) (by simpa using h)
          | false => exact skip l p (by simp [Region.wanted, hg, hy, hbd]) (by simpa using h)
        · cases want with
          | true => exact skip l p (by simp [Region.wanted, hg, hy, hbd]) (by simpa using h)
          | false => exact go l p (by simp [Region.wanted, hg, hy, hbd]) (by simpa using h)
      · split at h
        · rename_i hu
          exact skip (.refl _) hR.p (by simp [Region.wanted, hg, undef_ok hR.tm hu]) h
        · exact h.elim
def X.to : X → Exit
  | .normal => .normal
  | .exit id => .exit id
  | .ret => .ret
/-- an operation of a region, wanted or not -/
theorem turn_ok {call : Caller} (hc : CallerOk P call) {ops : Array Oper} {ρ : Env} {β : List Nat} {st : St} {a : Act} {w : World} {i : Nat} {o : Oper} {Q : St → Env → Sp → Prop} {K : Exit → Act → World → Prop} {next : Act → World → Prop} (hi : ops[i]? = some o)
    (hR : SRel s n0 ρ β st a w) (h : (turnS P call ops st o).holds P n0 s ρ A Q)
    (hn : ∀ st' ρ' γ s' a' w', SRel s' n0 ρ' γ st' a' w' → ρ.le ρ' → Le β γ → s.le s' → Q st' ρ' s' → next a' w') : wpOp P ops K i next a w := by
  have go : ∀ {st1 : St}, Like st st1 → PRel ρ st1 → Region.wanted o (yielded ops a.tmps) = true →
      ((stepS P call st1 o).bind fun r => .ret (r.2.put o.dst r.1)).holds P n0 s ρ A Q → wpOp P ops K i next a w := by
    intro st1 hl hp hw h
    replace h := bind_dn _ h
    have hR1 : SRel s n0 ρ β st1 a w := ⟨hR.f, hp, by rw [hl.hp]; exact hR.h, by rw [hl.tm]; exact hR.tm, hR.df⟩
    simp only [wpOp, hi, hw, if_true]
    refine .inl (step_ok hc hR1 h fun sv st' ρ' γ s' w' p htm hd hle hLe F' hsl hH hq => ?_)
    obtain ⟨_, hq⟩ := hq
    exact hn (st'.put o.dst sv) ρ' γ s' _ w' ⟨F', put_rel _ _ p, by rw [put_hp]; exact hH, put_tm (by rw [hR1.tm, htm, hd]) _ _, (put_df _ _).trans hR.df⟩ hle hLe hsl hq
  have skip : ∀ {st1 : St}, Like st st1 → PRel ρ st1 → Region.wanted o (yielded ops a.tmps) = false →
      (T.ret (st1.put o.dst (.con undef)) : T St).holds P n0 s ρ A Q → wpOp P ops K i next a w := by
    intro st1 hl hp hw h
    simp only [wpOp, hi, hw, Bool.false_eq_true, if_false]
    have e := put_tm (ρ := ρ) (β := β) (st := st1) (a := a) (by rw [hl.tm]; exact hR.tm) o.dst (.con undef)
    simp only [SV.den] at e
    exact hn (st1.put o.dst (.con undef)) ρ β s _ w ⟨hR.f, put_rel _ _ hp, by rw [put_hp, hl.hp]; exact hR.h, e, (put_df _ _).trans hR.df⟩ (Env.le_refl ρ) (.refl β) (Sp.le_refl s) h
  unfold turnS at h
  simp only at h
  split at h
  · rename_i hg
    exact go (.refl _) hR.p (by simp [Region.wanted, hg]) h
  · rename_i j want hg
    split at h
    · rename_i b hb
      have hy := yield_ok hR.tm hb
      obtain ⟨st1, p, l, ⟨hbd, h⟩ | ⟨hbd, h⟩⟩ := tIte_holds hR.p h
      · cases want with
        | true => exact go l p (by simp [Region.wanted, hg, hy, hbd]) (by simpa using h)
        | false => exact skip l p (by simp [Region.wanted, hg, hy, hbd]) (by simpa using h)
      · cases want with
        | true => exact skip l p (by simp [Region.wanted, hg, hy, hbd]) (by simpa using h)
        | false => exact go l p (by simp [Region.wanted, hg, hy, hbd]) (by simpa using h)
    · split at h
      · rename_i hu
        exact skip (.refl _) hR.p (by simp [Region.wanted, hg, undef_ok hR.tm hu]) h
      · exact h.elim
theorem sameH_eq : ∀ {x y : List Blk}, sameH x y = true → ∃ l, y = x ++ l
  | [], y, _ => ⟨y, rfl⟩
  | _ :: _, [], h => by cases h
  | x :: xs, y :: ys, h => by
    simp only [sameH, Bool.and_eq_true, beq_iff_eq] at h
    obtain ⟨l, rfl⟩ := sameH_eq h.2
    refine ⟨l, ?_⟩
    obtain ⟨c1, w1⟩ := x
    obtain ⟨c2, w2⟩ := y
    simp only at h
    rw [sames_eq h.1.1, h.1.2]
    rfl
/-- what was so of the first blocks is so, where it is so of all -/
theorem HRel.drop {s s' : Sp} {ρ ρ' : Env} {β γ : List Nat} {hp l : List Blk} {w : World} (hβ : β.length = hp.length) (hl : ρ.le ρ') (hs : scH ρ.is.length ρ.bs.length ρ.vs.length hp = true) (hb : Le β γ) (hle : s.le s') (h : HRel s' n0 ρ' γ (hp ++ l) w) : HRel s n0 ρ β hp w := by
  obtain ⟨d, rfl⟩ := hb
  have hlt : ∀ {i : Nat} {blk : Blk}, hp[i]? = some blk → i < hp.length := fun {i blk} hi => by
    rcases Nat.lt_or_ge i hp.length with q | q
    · exact q
    · rw [List.getElem?_eq_none q] at hi; cases hi
  refine ⟨hle.1 w h.inv, hβ, fun b hb => ?_, (List.nodup_append.1 h.inj).1, fun i blk hi j v hv => ?_, fun i blk hi hw j => ?_⟩
  · obtain ⟨h1, h2, h3⟩ := h.lo b (List.mem_append_left _ hb)
    exact ⟨h1, h2, fun k => h3 (hle.2 b k)⟩
  · have k := h.cells i blk (by rw [List.getElem?_append_left (hlt hi)]; exact hi) j v hv
    rw [getD_le (by rw [hβ]; exact hlt hi)] at k
    rw [k]
    simp only [scH, List.all_eq_true] at hs
    have hsc := hs blk (List.mem_of_getElem? hi)
    rw [scs_eq, List.all_eq_true] at hsc
    rw [SV.den_le hl ⟨d, rfl⟩ (by rw [hβ]; exact hsc v (List.mem_of_getElem? hv))]
  · have k := h.frz i blk (by rw [List.getElem?_append_left (hlt hi)]; exact hi) hw j
    rw [getD_le (by rw [hβ]; exact hlt hi)] at k
    exact k
end
end Sym
end Go.Proofs.Ythfagiihfkjamaa
