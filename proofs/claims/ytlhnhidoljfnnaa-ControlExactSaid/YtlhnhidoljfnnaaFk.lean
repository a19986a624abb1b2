/- XFd is sound: built-in functions, one operation of a region, regions in their order. -/
import Derived.Test.YtlhnhidoljfnnaaFj
import Derived.Scope
import Derived.LoopN
set_option linter.unusedVariables false
set_option linter.unusedSimpArgs false
namespace Go.Proofs.Ytlhnhidoljfnnaa
open Go.RowKit
namespace Fx
structure TmRel (ρ : Env) (tm : List SV) (a : Act) : Prop where
  size : a.tmps.size = tm.length
  at_ : ∀ (t : Nat) (x : SV), tm[t]? = some x → x.isUnd = false → a.tmps[t]? = some (x.den ρ)
structure SRel (F : Fr) (ρ : Env) (st : St) (a : Act) (w : World) : Prop where
  p : PRel ρ.ds st
  h : HRel F ρ st.hp st.sl w
  tm : TmRel ρ st.tm a
  df : a.defers = []
theorem eval_of {ρ : Env} {st : St} {a : Act} (h : TmRel ρ st.tm a) (x : Operand) (hu : (evalO st x).isUnd = false) : a.eval x = (evalO st x).den ρ := by
  cases x with
  | tmp t =>
    simp only [evalO, getR_eq] at hu ⊢
    rw [List.getD_eq_getElem?_getD] at hu ⊢
    cases e : st.tm[t]? with
    | none => rw [e] at hu; cases hu
    | some y =>
      rw [e, Option.getD_some] at hu
      rw [Option.getD_some]
      simp only [Act.eval, Array.getD_eq_getD_getElem?, h.at_ t y e hu, Option.getD_some]
  | const v => simp only [Act.eval, evalO, den_ofVal]
  | global g => simp only [Act.eval, evalO, SV.den]
  | func f => simp [Act.eval, evalO, SV.den, SV.dens]
theorem put_df {a : Act} (d : Option Tmp) (v : Value) : (a.put d v).defers = a.defers := by cases d <;> rfl
theorem put_hp {st : St} (d : Option Tmp) (v : SV) : (st.put d v).hp = st.hp := by cases d <;> rfl
theorem put_sl {st : St} (d : Option Tmp) (v : SV) : (st.put d v).sl = st.sl := by cases d <;> rfl
theorem put_p {ρ : List D} {st : St} (d : Option Tmp) (v : SV) (h : PRel ρ st) : PRel ρ (st.put d v) := by cases d <;> exact ⟨h.nd, h.bd, h.kn⟩
theorem put_tm {ρ : Env} {st : St} {a : Act} (h : TmRel ρ st.tm a) (d : Option Tmp) (v : Value) (x : SV) (hx : x.isUnd = false → v = x.den ρ) : TmRel ρ (st.put d x).tm (a.put d v) := by
  cases d with
  | none => exact h
  | some d =>
    refine ⟨by simp [Act.put, St.put, h.size], fun t y hy hu => ?_⟩
    simp only [St.put] at hy
    simp only [Act.put]
    by_cases e : t = d
    · subst e
      have hl := lt_of_get hy
      simp only [List.length_set] at hl
      rw [List.getElem?_set_self hl] at hy
      injection hy with hy
      subst hy
      rw [Array.getElem?_setIfInBounds_self_of_lt (by rw [h.size]; exact hl), hx hu]
    · rw [List.getElem?_set_ne (fun q => e q.symm)] at hy
      rw [Array.getElem?_setIfInBounds_ne (fun q => e q.symm)]
      exact h.at_ t y hy hu
theorem TmRel.of {ρ ρ' : Env} {tm : List SV} {a : Act} (h : TmRel ρ tm a) (k : ∀ x ∈ tm, x.isUnd = false → x.den ρ' = x.den ρ) : TmRel ρ' tm a :=
  ⟨h.size, fun t x hx hu => by rw [h.at_ t x hx hu, k x (List.mem_of_getElem? hx) hu]⟩
section
variable {M : Models} {N : Nat} {P : Program} {F : Fr}
theorem most_run {ρ : Env} {bd : Bds} (hb : BdOk ρ.ds bd) {k : IntKind} {f : X → X → X} {g : Int → Int → Int} {m : Value → Value → Sem Value} (hf : ∀ a b, ((f a b).den ρ.ds).int = g (a.den ρ.ds).int (b.den ρ.ds).int)
    (hm : ∀ x y w, (m (.int k x) (.int k y)).run P w = .ok (.int k (g x y)) w) (w : World) : ∀ {rest : List SV} {a : X} {v : SV}, mostS bd f k a rest = some v →
    ((SV.dens ρ rest).foldlM m (.int k (a.den ρ.ds).int)).run P w = .ok (v.den ρ) w ∧ v.isUnd = false ∧ ∀ x ∈ rest, x.isUnd = false
  | [], a, v, h => by simp only [mostS, Option.some.injEq] at h; subst h; exact ⟨by simp [SV.dens, SV.den], rfl, fun x hx => by cases hx⟩
  | x :: rest, a, v, h => by
    cases x <;> simp only [mostS] at h <;> try cases h
    rename_i k' b
    split at h
    · rename_i e
      subst e
      obtain ⟨ih, hv, hu⟩ := most_run hb hf hm w h
      rw [nf_den hb, hf] at ih
      refine ⟨by simp only [SV.dens, SV.den, List.foldlM_cons, Sem.run_bind, hm, Result.andThen_ok, ih], hv, fun x hx => ?_⟩
      rcases List.mem_cons.1 hx with rfl | hx
      · rfl
      · exact hu x hx
    · cases h
theorem max2_run (k : IntKind) (x y : Int) (w : World) : (Builtin.max2 (.int k x) (.int k y)).run P w = .ok (.int k (max x y)) w := by
  simp only [Builtin.max2, Sem.run_pure]
  congr 2
  split <;> omega
theorem min2_run (k : IntKind) (x y : Int) (w : World) : (Builtin.min2 (.int k x) (.int k y)).run P w = .ok (.int k (min x y)) w := by
  simp only [Builtin.min2, Sem.run_pure]
  congr 2
  split <;> omega
theorem built_ok {ρ : Env} {st st' : St} {sv : SV} {ds' : List D} {w : World} (hP : PRel ρ.ds st) (hH : HRel F ρ st.hp st.sl w) {b : Builtin} {ts : Array TypeId} {args : List SV} (h : (builtS P st b ts args).eval M N ρ.ds = some ((sv, st'), ds')) :
    sv.isUnd = false ∧ ∃ ρ' w', ρ'.ds = ds' ∧ Stp F ρ ρ' st st' w w' ∧ ∀ (vs : List Value) (t : TypeId) (cs : Array Bool), vs.length = args.length → (∀ (j : Nat) (x : SV), args[j]? = some x → x.isUnd = false → vs[j]? = some (x.den ρ)) → (builtin b ts t cs vs.toArray).run P w = .ok (.value (sv.den ρ')) w' := by
  have one : ∀ {x : SV} {vs : List Value}, x.isUnd = false → vs.length = [x].length → (∀ (j : Nat) (y : SV), [x][j]? = some y → y.isUnd = false → vs[j]? = some (y.den ρ)) → vs = [x.den ρ] := by
    intro x vs hu hl hv
    have := hv 0 x rfl hu
    match vs, hl with
    | [v], _ => simp at this; rw [this]
  have all : ∀ {l : List SV} {vs : List Value}, (∀ x ∈ l, x.isUnd = false) → vs.length = l.length → (∀ (j : Nat) (y : SV), l[j]? = some y → y.isUnd = false → vs[j]? = some (y.den ρ)) → vs = SV.dens ρ l := by
    intro l vs hu hl hv
    apply List.ext_getElem?
    intro i
    rw [dens_get]
    cases e : l[i]? with
    | none => rw [Option.map_none, List.getElem?_eq_none]; rw [hl]; exact List.getElem?_eq_none_iff.1 e
    | some x => rw [hv i x e (hu x (List.mem_of_getElem? e)), Option.map_some]
  unfold builtS at h
  split at h
  · rename_i i o l c
    split at h
    · rename_i e hu
      rw [Option.bind_eq_some_iff] at hu
      obtain ⟨t0, ht, hu⟩ := hu
      simp only [T.eval, Option.some.injEq, Prod.mk.injEq] at h
      obtain ⟨⟨rfl, rfl⟩, rfl⟩ := h
      refine ⟨rfl, ρ, w, rfl, Stp.like hP hH (.refl _), fun vs t cs hl hv => ?_⟩
      rw [one rfl hl hv]
      simp [builtin, Builtin.len_, ht, SV.dens, SV.den, hu, underlying, goInt, X.den, D.int]
    · simp [T.eval] at h
  · rename_i i
    split at h
    · rename_i e0 cs0 x r hu he
      rw [Option.bind_eq_some_iff] at hu
      obtain ⟨t0, ht, hu⟩ := hu
      simp only [T.eval, Option.some.injEq, Prod.mk.injEq] at h
      obtain ⟨⟨rfl, rfl⟩, rfl⟩ := h
      refine ⟨rfl, ρ, w, rfl, Stp.like hP hH (.refl _), fun vs t cs hl hv => ?_⟩
      rw [one rfl hl hv]
      have T := hH.told he
      have tl := T.len
      obtain ⟨av, c, t1, _⟩ := T.sh
      simp only [SV.den, t1, xLen_den, tl]
      simp [builtin, Builtin.len_, ht, hu, underlying, goInt]
    · simp [T.eval] at h
  · rename_i s
    split at h
    · rename_i e hu
      rw [Option.bind_eq_some_iff] at hu
      obtain ⟨t0, ht, hu⟩ := hu
      obtain ⟨hw, s1, p, l, h⟩ := tNeed_some hP h
      rw [bLe_den hP.bd] at hw
      have hw := of_decide_eq_true hw
      have hw : (X.den ρ.ds (xSlen s)).int ≤ 9223372036854775807 := hw
      simp only [T.eval, Option.some.injEq, Prod.mk.injEq] at h
      obtain ⟨⟨rfl, rfl⟩, rfl⟩ := h
      refine ⟨rfl, ρ, w, rfl, Stp.like p hH l, fun vs t cs hl hv => ?_⟩
      rw [one rfl hl hv]
      rw [xSlen_den] at hw
      have es : (X.den ρ.ds s).slen = (X.den ρ.ds s).str.size := by unfold D.slen at hw ⊢; omega
      simp [builtin, Builtin.len_, ht, SV.dens, SV.den, hu, underlying, goInt, xSlen_den, es]
    · simp [T.eval] at h
  · rename_i x y
    split at h
    · rename_i t0 t1 e h0 h1 hu
      split at h
      · rename_i e01
        subst e01
        rw [h0] at hu
        simp only [Option.bind_some] at hu
        obtain ⟨u1, ua, ub, ρ', w', hd, S, hr⟩ := appendS_ok (ty := default) hP hH hu h
        refine ⟨u1, ρ', w', hd, S, fun vs t cs hl hv => ?_⟩
        obtain ⟨_, _, _, ρ2, w2, _, _, hr2⟩ := appendS_ok (ty := t) hP hH hu h
        have e := all (l := [x, y]) (fun z hz => by simp at hz; rcases hz with rfl | rfl <;> assumption) hl hv
        rw [e]
        simp only [SV.dens]
        have key : ∀ ts' : Array TypeId, ts'[0]? = some t0 → ts'[1]? = some t0 → (Builtin.append_ ts' t #[SV.den ρ x, SV.den ρ y]) = (Builtin.append_ #[t0, t0] default #[SV.den ρ x, SV.den ρ y]) := fun ts' a b => by
          unfold Builtin.append_
          rw [a, b]
          rfl
        simp only [builtin, Sem.run_bind, key ts h0 h1, hr, Result.andThen_ok, Sem.run_pure]
      · simp [T.eval] at h
    · simp [T.eval] at h
  · rename_i x y
    split at h
    · rename_i e hu
      rw [Option.bind_eq_some_iff] at hu
      obtain ⟨t0, ht, hu⟩ := hu
      obtain ⟨u1, ua, ub, ρ', w', hd, S, hr⟩ := copyS_ok (ty := default) hP hH ht hu h
      refine ⟨u1, ρ', w', hd, S, fun vs t cs hl hv => ?_⟩
      have e := all (l := [x, y]) (fun z hz => by simp at hz; rcases hz with rfl | rfl <;> assumption) hl hv
      rw [e]
      simp only [SV.dens]
      have key : (Builtin.copy_ ts t #[SV.den ρ x, SV.den ρ y]) = (Builtin.copy_ ts default #[SV.den ρ x, SV.den ρ y]) := rfl
      simp only [builtin, Sem.run_bind, key, hr, Result.andThen_ok, Sem.run_pure]
    · simp [T.eval] at h
  · split at h
    · rename_i hu _ _ _
      rw [Option.bind_eq_some_iff] at hu
      obtain ⟨t0, ht, hu⟩ := hu
      simp only [T.eval, Option.some.injEq, Prod.mk.injEq] at h
      obtain ⟨⟨rfl, rfl⟩, rfl⟩ := h
      refine ⟨rfl, ρ, w, rfl, Stp.like hP hH (.refl _), fun vs t cs hl hv => ?_⟩
      match vs, hl with
      | [v], _ => simp [builtin, Builtin.len_, ht, SV.dens, SV.den, hu, underlying, goInt, X.den, D.int]
    · rename_i hu _ _ _
      rw [Option.bind_eq_some_iff] at hu
      obtain ⟨t0, ht, hu⟩ := hu
      simp only [T.eval, Option.some.injEq, Prod.mk.injEq] at h
      obtain ⟨⟨rfl, rfl⟩, rfl⟩ := h
      refine ⟨rfl, ρ, w, rfl, Stp.like hP hH (.refl _), fun vs t cs hl hv => ?_⟩
      rw [one rfl hl hv]
      simp [builtin, Builtin.len_, ht, SV.dens, SV.den, hu, underlying, goInt, X.den, D.int]
    · simp [T.eval] at h
  · rename_i k e rest
    obtain ⟨v, d1, h1, h2⟩ := bind_some h
    unfold opt at h1
    split at h1
    · rename_i v' hv'
      simp only [T.eval, Option.some.injEq, Prod.mk.injEq] at h1 h2
      obtain ⟨rfl, rfl⟩ := h1
      obtain ⟨⟨rfl, rfl⟩, rfl⟩ := h2
      obtain ⟨hr, hu, hus⟩ := most_run (P := P) (ρ := ρ) hP.bd (g := max) (fun a b => rfl) (max2_run k) w hv'
      refine ⟨hu, ρ, w, rfl, Stp.like hP hH (.refl _), fun vs t cs hl hv => ?_⟩
      rw [all (fun x hx => (List.mem_cons.1 hx).elim (fun e => by subst e; rfl) (hus x)) hl hv]
      simp only [builtin, Builtin.max_, SV.dens, SV.den, Sem.run_bind, hr, Result.andThen_ok, Sem.run_pure]
    · simp [T.eval] at h1
  · rename_i k e rest
    obtain ⟨v, d1, h1, h2⟩ := bind_some h
    unfold opt at h1
    split at h1
    · rename_i v' hv'
      simp only [T.eval, Option.some.injEq, Prod.mk.injEq] at h1 h2
      obtain ⟨rfl, rfl⟩ := h1
      obtain ⟨⟨rfl, rfl⟩, rfl⟩ := h2
      obtain ⟨hr, hu, hus⟩ := most_run (P := P) (ρ := ρ) hP.bd (g := min) (fun a b => rfl) (min2_run k) w hv'
      refine ⟨hu, ρ, w, rfl, Stp.like hP hH (.refl _), fun vs t cs hl hv => ?_⟩
      rw [all (fun x hx => (List.mem_cons.1 hx).elim (fun e => by subst e; rfl) (hus x)) hl hv]
      simp only [builtin, Builtin.min_, SV.dens, SV.den, Sem.run_bind, hr, Result.andThen_ok, Sem.run_pure]
    · simp [T.eval] at h1
  · simp [T.eval] at h
theorem callFunc_run {f : FuncId} (h : callable P f = true) (args : Array Value) (w : World) : (callFunc f args).run P w = .ok (.enter f args) w := by
  unfold callable at h
  split at h
  · rename_i fn hf
    simp only [Bool.and_eq_true, Bool.not_eq_true'] at h
    obtain ⟨h1, h2⟩ := h
    have h3 : fn.body.isNone = false := by cases e : fn.body <;> simp_all
    simp only [callFunc, Sem.run_bind, run_program, Result.andThen_ok, hf, h2, Bool.false_eq_true, if_false, h3, Sem.run_pure]
  · cases h
def CallerOk (P : Program) (M : Models) (N : Nat) (call : Caller) : Prop := ∀ {F : Fr}, F.Ok → ∀ (f : FuncId) (args : List SV) (st st' : St) (sv : SV) (ρ : Env) (ds' : List D) (w : World), PRel ρ.ds st → HRel F ρ st.hp st.sl w → (call f args st).eval M N ρ.ds = some ((sv, st'), ds') →
  callable P f = true ∧ (∀ x ∈ args, x.isUnd = false) ∧ Calls P f (SV.dens ρ args).toArray w fun e w' => ∃ ρ', e = .returned (sv.den ρ') ∧ sv.isUnd = false ∧ ρ'.ds = ds' ∧ Stp F ρ ρ' st st' w w'
/-- one operation -/
theorem step_ok {call : Caller} (hc : CallerOk P M N call) (FO : F.Ok) {ρ : Env} {st st' : St} {sv : SV} {ds' : List D} {a : Act} {w : World} {o : Oper} {next : Act → World → Prop} {K : Exit → Act → World → Prop}
    (hR : SRel F ρ st a w) (h : (stepS P call st o).eval M N ρ.ds = some ((sv, st'), ds'))
    (hn : ∀ ρ' v w', ρ'.ds = ds' → (sv.isUnd = false → v = sv.den ρ') → Stp F ρ ρ' st st' w w' → next (a.put o.dst v) w') : o.wp P a w next K := by
  have ha := eval_of hR.tm
  have plain : (opS P st o.op).eval M N ρ.ds = some ((sv, st'), ds') → o.wp P a w next K := fun h => by
    obtain ⟨ρ', nx, w', hd, hrun, hv, S⟩ := opS_ok hR.p hR.h ha h
    unfold Oper.wp
    rw [hrun]
    rcases hv with ⟨v, rfl, hv⟩ | ⟨rfl, rfl⟩
    · exact hn ρ' v w' hd hv S
    · exact hn ρ' undef w' hd (fun _ => by simp [SV.den]) S
  unfold stepS at h
  split at h
  · rename_i c hop
    split at h
    · rename_i b hb
      obtain ⟨hu, ρ', w', hd, S, hr⟩ := built_ok hR.p hR.h h
      have e : (execOp a.eval o).run P w = .ok (.value (sv.den ρ')) w' := by
        have key : ∀ (t : TypeId) (cs : Array Bool), (builtin b c.argTypes t cs (c.args.map a.eval)).run P w = .ok (.value (sv.den ρ')) w' := fun t cs => by
          have := hr (c.args.toList.map a.eval) t cs (by simp) (fun j x hj hx => by
            rw [List.getElem?_map, Option.map_eq_some_iff] at hj
            obtain ⟨y, hy, rfl⟩ := hj
            rw [List.getElem?_map, hy, Option.map_some, ha y hx])
          rwa [show (c.args.toList.map a.eval).toArray = c.args.map a.eval by apply Array.ext'; simp] at this
        simp only [execOp, hop, resolve, hb, Sem.run_bind, Sem.run_pure, Result.andThen_ok, invoke, key]
      unfold Oper.wp
      rw [e]
      exact hn ρ' _ w' hd (fun _ => rfl) S
    · rename_i f hf
      split at h
      · rename_i g first cap hg
        obtain ⟨h1, h2, h3⟩ := hc FO g _ st st' sv ρ ds' w hR.p hR.h h
        have hfe : a.eval f = (SV.fn g first cap).den ρ := by rw [ha f (by rw [hg]; rfl), hg]
        have hargs : c.args.toList.map a.eval = SV.dens ρ (c.args.toList.map (evalO st)) := by
          rw [dens_eq, List.map_map]
          apply List.map_congr_left
          intro x hx
          exact ha x (h2 (evalO st x) (by simp only [List.mem_append, List.mem_map]; exact .inl (.inr ⟨x, hx, rfl⟩)))
        have e : (execOp a.eval o).run P w = .ok (.enter g (SV.dens ρ (first ++ c.args.toList.map (evalO st) ++ cap)).toArray) w := by
          simp only [execOp, hop, resolve, hf, hfe, SV.den, Deferred.ofValue, Sem.run_bind, Sem.run_pure, Result.andThen_ok, invoke, callFunc_run h1, Result.ok.injEq, Next.enter.injEq, true_and, and_true]
          have hargs' : (c.args.map a.eval).toList = SV.dens ρ (c.args.toList.map (evalO st)) := by rw [← hargs]; simp
          apply Array.ext'
          simp only [Array.toList_append, hargs', dens_eq, List.map_append]
        unfold Oper.wp
        rw [e, Oper.upon_enter]
        refine h3.mono fun e w' ⟨ρ', he, hu, hd, S⟩ => ?_
        subst he
        exact hn ρ' _ w' hd (fun _ => rfl) S
      · simp [T.eval] at h
    · simp [T.eval] at h
  · exact plain h
theorem yield_ok {ρ : Env} {st : St} {a : Act} {ops : Array Oper} {j : Nat} {b : X} (h : TmRel ρ st.tm a) (hy : yieldS ops st j = some b) : yielded ops a.tmps j = some (b.den ρ.ds).boo := by
  unfold yieldS at hy
  unfold yielded
  cases hd : (ops[j]?).bind (·.dst) with
  | none => rw [hd] at hy; simp at hy
  | some d =>
    rw [hd] at hy
    simp only [Option.bind_some] at hy ⊢
    cases ht : st.tm[d]? with
    | none => rw [ht] at hy; simp at hy
    | some x =>
      rw [ht] at hy
      cases x <;> simp at hy
      subst hy
      rw [h.at_ d _ ht rfl]
      simp [SV.den]
theorem undef_ok {ρ : Env} {st : St} {a : Act} {ops : Array Oper} {j : Nat} (h : TmRel ρ st.tm a) (hy : undefS ops st j = true) : yielded ops a.tmps j = none := by
  unfold undefS at hy
  unfold yielded
  cases hd : (ops[j]?).bind (·.dst) with
  | none => rfl
  | some d =>
    rw [hd] at hy
    simp only [Option.bind_some] at hy ⊢
    cases ht : st.tm[d]? with
    | none => rw [ht] at hy; simp at hy
    | some x =>
      rw [ht] at hy
      cases x with
      | con v =>
        cases v <;> simp at hy
        rw [h.at_ d _ ht rfl]
        simp [SV.den]
      | _ => simp at hy
/-- what an operation of a region leaves: the value of its slot, and the state with it -/
structure Turn (F : Fr) (ρ ρ' : Env) (st st' : St) (d : Option Tmp) (v : Value) (w w' : World) : Prop where
  ex : ∃ sv st1, st' = st1.put d sv ∧ (sv.isUnd = false → v = sv.den ρ') ∧ Stp F ρ ρ' st st1 w w'
theorem Turn.rel {ρ ρ' : Env} {st st' : St} {d : Option Tmp} {v : Value} {a : Act} {w w' : World} (hR : SRel F ρ st a w) (h : Turn F ρ ρ' st st' d v w w') : SRel F ρ' st' (a.put d v) w' := by
  obtain ⟨sv, st1, rfl, hv, S⟩ := h.ex
  refine ⟨put_p _ _ S.p, by rw [put_hp, put_sl]; exact S.h, put_tm ?_ d v sv hv, (put_df _ _).trans hR.df⟩
  rw [S.tm]
  exact hR.tm.of S.keep
/-- an operation of a region, wanted or not -/
theorem turn_ok {call : Caller} (hc : CallerOk P M N call) (FO : F.Ok) {ops : Array Oper} {ρ : Env} {st st' : St} {ds' : List D} {a : Act} {w : World} {o : Oper} {next : Act → World → Prop} {K : Exit → Act → World → Prop}
    (hR : SRel F ρ st a w) (h : (turnS P call ops st o).eval M N ρ.ds = some (st', ds'))
    (hn : ∀ ρ' v w', ρ'.ds = ds' → Turn F ρ ρ' st st' o.dst v w w' → next (a.put o.dst v) w') : if Region.wanted o (yielded ops a.tmps) = true then o.wp P a w next K else next (a.put o.dst undef) w := by
  have go : ∀ {st1 : St}, Like st st1 → PRel ρ.ds st1 → Region.wanted o (yielded ops a.tmps) = true →
      (T.then (stepS P call st1 o) fun r => .ret (r.2.put o.dst r.1)).eval M N ρ.ds = some (st', ds') → if Region.wanted o (yielded ops a.tmps) = true then o.wp P a w next K else next (a.put o.dst undef) w := by
    intro st1 hl hp hw h
    rw [if_pos hw]
    obtain ⟨⟨sv, st2⟩, d1, h1, h2⟩ := bind_some h
    simp only [T.eval, Option.some.injEq, Prod.mk.injEq] at h2
    obtain ⟨rfl, rfl⟩ := h2
    have hR1 : SRel F ρ st1 a w := ⟨hp, by rw [hl.hp, hl.sl]; exact hR.h, by rw [hl.tm]; exact hR.tm, hR.df⟩
    exact step_ok hc FO hR1 h1 fun ρ' v w' hd hv S => hn ρ' v w' hd ⟨sv, st2, rfl, hv, S.likeL hl⟩
  have skip : ∀ {st1 : St}, Like st st1 → PRel ρ.ds st1 → Region.wanted o (yielded ops a.tmps) = false →
      (T.ret (st1.put o.dst (.con undef)) : T St).eval M N ρ.ds = some (st', ds') → if Region.wanted o (yielded ops a.tmps) = true then o.wp P a w next K else next (a.put o.dst undef) w := by
    intro st1 hl hp hw h
    rw [if_neg (by rw [hw]; decide)]
    simp only [T.eval, Option.some.injEq, Prod.mk.injEq] at h
    obtain ⟨rfl, rfl⟩ := h
    exact hn ρ undef w rfl ⟨.con undef, st1, rfl, fun _ => by simp [SV.den], Stp.like hp hR.h hl⟩
  unfold turnS at h
  simp only at h
  split at h
  · rename_i hg
    exact go (.refl _) hR.p (by simp [Region.wanted, hg]) h
  · rename_i j want hg
    split at h
    · rename_i b hb
      have hy := yield_ok hR.tm hb
      obtain ⟨st1, p, l, ⟨hbd, h⟩ | ⟨hbd, h⟩⟩ := tIte_some hR.p h
      · cases want with
        | true => exact go l p (by simp [Region.wanted, hg, hy, hbd]) (by simpa using h)
        | false => exact skip l p (by simp [Region.wanted, hg, hy, hbd]) (by simpa using h)
      · cases want with
        | true => exact skip l p (by simp [Region.wanted, hg, hy, hbd]) (by simpa using h)
        | false => exact go l p (by simp [Region.wanted, hg, hy, hbd]) (by simpa using h)
    · split at h
      · rename_i hu
        exact skip (.refl _) hR.p (by simp [Region.wanted, hg, undef_ok hR.tm hu]) h
      · simp [T.eval] at h
/-- where a stretch of code has led -/
structure Went (F : Fr) (fb : Nat × Nat × Nat) (ρ ρ' : Env) (st' : St) (a' : Act) (w w' : World) : Prop where
  r : SRel F ρ' st' a' w'
  ag : Ag fb.1 fb.2.1 fb.2.2 ρ ρ'
  nd : fb.1 ≤ st'.nd
  nv : fb.2.1 ≤ st'.nv
  nh : fb.2.2 ≤ st'.nh
  size : w.heap.size ≤ w'.heap.size
theorem Went.refl {ρ : Env} {st : St} {a : Act} {w : World} (hR : SRel F ρ st a w) : Went F (st.nd, st.nv, st.nh) ρ ρ st a w w :=
  ⟨hR, Ag.refl _ _ _ _, Nat.le_refl _, Nat.le_refl _, Nat.le_refl _, Nat.le_refl _⟩
theorem Went.trans {ρ ρ' ρ'' : Env} {fb : Nat × Nat × Nat} {st1 st2 : St} {a1 a2 : Act} {w w1 w2 : World} (h : Went F fb ρ ρ' st1 a1 w w1) (k : Went F (st1.nd, st1.nv, st1.nh) ρ' ρ'' st2 a2 w1 w2) : Went F fb ρ ρ'' st2 a2 w w2 :=
  ⟨k.r, h.ag.trans k.ag h.nd h.nv h.nh, Nat.le_trans h.nd k.nd, Nat.le_trans h.nv k.nv, Nat.le_trans h.nh k.nh, Nat.le_trans h.size k.size⟩
theorem put_n {st : St} (d : Option Tmp) (v : SV) : (st.put d v).nd = st.nd ∧ (st.put d v).nv = st.nv ∧ (st.put d v).nh = st.nh := by cases d <;> exact ⟨rfl, rfl, rfl⟩
theorem Turn.went {ρ ρ' : Env} {st st' : St} {d : Option Tmp} {v : Value} {a : Act} {w w' : World} (hR : SRel F ρ st a w) (h : Turn F ρ ρ' st st' d v w w') : Went F (st.nd, st.nv, st.nh) ρ ρ' st' (a.put d v) w w' := by
  have r := h.rel hR
  obtain ⟨sv, st1, rfl, hv, S⟩ := h.ex
  obtain ⟨e1, e2, e3⟩ := put_n (st := st1) d sv
  exact ⟨r, S.ag, by rw [e1]; exact S.nd, by rw [e2]; exact S.nv, by rw [e3]; exact S.nh, S.size⟩
theorem regS_ok {call : Caller} (hc : CallerOk P M N call) (FO : F.Ok) {ops : Array Oper} {K : Exit → Act → World → Prop} : ∀ {l : List Oper} {ρ : Env} {st st' : St} {ds' : List D} {a : Act} {w : World}, SRel F ρ st a w → (regS P call ops l st).eval M N ρ.ds = some (st', ds') →
    (∀ ρ' a' w', ρ'.ds = ds' → Went F (st.nd, st.nv, st.nh) ρ ρ' st' a' w w' → K .normal a' w') → wpList P ops K l a w
  | [], ρ, st, st', ds', a, w, hR, h, hk => by
    simp only [regS, T.eval, Option.some.injEq, Prod.mk.injEq] at h
    obtain ⟨rfl, rfl⟩ := h
    exact hk ρ a w rfl (.refl hR)
  | o :: rest, ρ, st, st', ds', a, w, hR, h, hk => by
    simp only [regS] at h
    obtain ⟨st1, d1, h1, h2⟩ := bind_some h
    have key := turn_ok (K := K) (next := wpList P ops K rest) hc FO hR h1 fun ρ' v w' hd t => by
      subst hd
      exact regS_ok hc FO (t.rel hR) h2 fun ρ2 a2 w2 hd2 g => hk ρ2 a2 w2 hd2 ((t.went hR).trans g)
    simp only [wpList]
    split
    · rename_i hw
      rw [if_pos hw] at key
      exact .inl key
    · rename_i hw
      rw [if_neg hw] at key
      exact key
end
end Fx
end Go.Proofs.Ytlhnhidoljfnnaa
