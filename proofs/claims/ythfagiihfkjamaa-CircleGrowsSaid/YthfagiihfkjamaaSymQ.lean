/- XSym is sound: regions that draw their order. -/
import Derived.Test.YthfagiihfkjamaaSymG
namespace Go.Proofs.Ythfagiihfkjamaa
open Go.RowKit
section
variable {P : Program} {ops : Array Oper} {Q : Exit → Act → World → Prop} {md : Region.Mode} {F : Nat → Bool}
/-- one operation waits for another -/
inductive Reach (md : Region.Mode) (ops : Array Oper) : Nat → Nat → Prop where
  | one {j : Nat} {o : Oper} {e : Edge} (h : ops[j]? = some o) (he : e ∈ o.after) (hb : Region.binds md e = true) : Reach md ops j e.on
  | more {j i : Nat} {o : Oper} {e : Edge} (h : ops[j]? = some o) (he : e ∈ o.after) (hb : Region.binds md e = true) (k : Reach md ops e.on i) : Reach md ops j i
/-- an operation that waits for each of F -/
def Late (md : Region.Mode) (ops : Array Oper) (F : Nat → Bool) (j : Nat) : Prop := ∀ i, F i = true → i ≠ j → Reach md ops j i
/-- what is listed waits for what is listed alone -/
def Closed (md : Region.Mode) (ops : Array Oper) (listed : Array Bool) : Prop := ∀ k o e, listed.getD k false = true → ops[k]? = some o → e ∈ o.after → Region.binds md e = true → listed.getD e.on false = true
/-- whatever order is picked, from any world that meets S; behind each operation more is so, or it waits for all of F -/
def wpAnyG (P : Program) (md : Region.Mode) (F : Nat → Bool) (ops : Array Oper) (Q : Exit → Act → World → Prop) : Nat → (World → Prop) → Array Bool → Act → Prop
  | 0, S, listed, a => Region.ready md ops listed = [] ∧ ∀ w, S w → Q .normal a w
  | fuel + 1, S, listed, a =>
    (Region.ready md ops listed = [] → ∀ w, S w → Q .normal a w) ∧
    ∀ i ∈ Region.ready md ops listed, ∀ w, S w → wpOp P ops Q i (fun a' w' => ∃ S' : World → Prop, S' w' ∧ ((∀ u, S' u → S u) ∨ Late md ops F i) ∧ wpAnyG P md F ops Q fuel S' (listed.setIfInBounds i true) a') a w
theorem getD_set {listed : Array Bool} {j k : Nat} : (listed.getD k false = true → (listed.setIfInBounds j true).getD k false = true) ∧ ((listed.setIfInBounds j true).getD k false = true → k = j ∨ listed.getD k false = true) := by
  simp only [Array.getD_eq_getD_getElem?, Array.getElem?_setIfInBounds]
  by_cases h : j = k
  · subst h
    refine ⟨fun h => ?_, fun _ => .inl rfl⟩
    split
    · split
      · rfl
      · simp_all
    · simp_all
  · rw [if_neg h]
    exact ⟨id, .inr⟩
theorem Closed.set {listed : Array Bool} {j : Nat} (h : Closed md ops listed) (hj : j ∈ Region.ready md ops listed) : Closed md ops (listed.setIfInBounds j true) := by
  intro k o e hk ho he hb
  refine getD_set.1 ?_
  rcases getD_set.2 hk with rfl | hk
  · obtain ⟨_, o', ho', hr⟩ := mem_ready.1 hj
    rw [ho] at ho'
    injection ho' with ho'
    subst ho'
    exact hr e he hb
  · exact h k o e hk ho he hb
theorem closed_nil : Closed md ops (Array.replicate ops.size false) := by
  intro k o e hk
  simp only [Array.getD_eq_getD_getElem?, Array.getElem?_replicate] at hk
  split at hk <;> simp at hk
theorem Reach.listed {listed : Array Bool} {j i : Nat} (h : Closed md ops listed) (k : Reach md ops j i) : listed.getD j false = true → listed.getD i false = true := by
  induction k with
  | one ho he hb => exact fun hj => h _ _ _ hj ho he hb
  | more ho he hb _ ih => exact fun hj => ih (h _ _ _ hj ho he hb)
theorem listed_of_ready {listed : Array Bool} {j i : Nat} (h : Closed md ops listed) (hj : j ∈ Region.ready md ops listed) (k : Reach md ops j i) : listed.getD i false = true := by
  obtain ⟨_, o, ho, hr⟩ := mem_ready.1 hj
  cases k with
  | one h1 he hb =>
    rw [ho] at h1
    injection h1 with h1
    subst h1
    exact hr _ he hb
  | more h1 he hb k =>
    rw [ho] at h1
    injection h1 with h1
    subst h1
    exact k.listed h (hr _ he hb)
theorem not_ready_of_listed {listed : Array Bool} {i : Nat} (h : listed.getD i false = true) : ¬ i ∈ Region.ready md ops listed := by
  intro hi
  have := (mem_ready.1 hi).1
  simp only [Array.getD_eq_getD_getElem?] at h this
  cases e : listed[i]? with
  | none => rw [e] at h; cases h
  | some b => rw [e] at h this; simp at h this; rw [h] at this; cases this
theorem wpAny_of_G : ∀ (fuel : Nat) (S : World → Prop) (listed : Array Bool) (a : Act) (w : World), S w → wpAnyG P md F ops Q fuel S listed a → wpAny P md ops Q fuel listed a w
  | 0, _, _, _, w, hS, h => ⟨h.1, h.2 w hS⟩
  | fuel + 1, _, _, _, w, hS, h => ⟨fun hr => h.1 hr w hS, fun i hi => wpOp_mono (fun a' w' ⟨S', h1, _, h3⟩ => wpAny_of_G fuel S' _ a' w' h1 h3) (h.2 i hi w hS)⟩
/-- an operation that leaves the world as it is, and one and the same value -/
def Quiet (P : Program) (ops : Array Oper) (S : World → Prop) (o : Oper) (v : Value) (a : Act) : Prop :=
  (Region.wanted o (yielded ops a.tmps) = true ∧ ∀ w, S w → ∃ nx, (execOp a.eval o).run P w = .ok nx w ∧ (nx = .value v ∨ nx = .skip ∧ v = undef)) ∨ (Region.wanted o (yielded ops a.tmps) = false ∧ v = undef)
theorem Quiet.steady {S S' : World → Prop} {o : Oper} {v : Value} {a : Act} (hs : ∀ w, S' w → S w) (h : Quiet P ops S o v a) : Steady P ops S' o v a := by
  rcases h with ⟨h1, h2⟩ | h
  · exact .inl ⟨h1, fun w hw => by
      obtain ⟨nx, e, rfl | ⟨rfl, hv⟩⟩ := h2 w (hs w hw)
      · rw [e]; exact ⟨rfl, hw⟩
      · rw [e]; exact ⟨hv, hw⟩⟩
  · exact .inr h
theorem Quiet.same {S : World → Prop} {o : Oper} {v : Value} {a a' : Act} (hy : Quiet P ops S o v a) (he : execOp a'.eval o = execOp a.eval o)
    (hw : Region.wanted o (yielded ops a'.tmps) = Region.wanted o (yielded ops a.tmps)) : Quiet P ops S o v a' := by
  unfold Quiet at *
  rw [he, hw]
  exact hy
/-- an operation apart from a quiet one runs the same whether that has been carried out or not, and leaves it as quiet as it was -/
theorem quiet_behind {S : World → Prop} {j : Nat} {oi oj : Oper} {v : Value} (hj : ops[j]? = some oj) (hap : oi.apart ops oj = true)
    (hsi : ∀ cs b, oi.op ≠ .select cs b) (hsj : ∀ cs b, oj.op ≠ .select cs b)
    (hQ : ∀ c a w, Q (.panic c) (a.put oi.dst v) w → Q (.panic c) a w) {K : Act → World → Prop} {a : Act} {w : World}
    (hy : Quiet P ops S oi v a) (h : wpOp P ops Q j K (a.put oi.dst v) w) :
    wpOp P ops Q j (fun a' w' => Quiet P ops S oi v a' ∧ K (a'.put oi.dst v) w') a w := by
  obtain ⟨h1, h2, h3⟩ := Oper.apart_spec hap
  have stays : ∀ a : Act, Quiet P ops S oi v a → ∀ u, Quiet P ops S oi v (a.put oj.dst u) := fun a k u => k.same (execOp_put oi hsi a oj.dst u h3) (wanted_put oi a oj.dst u h3)
  have comm : ∀ (a : Act) (u : Value), (a.put oi.dst v).put oj.dst u = (a.put oj.dst u).put oi.dst v := fun a u => Act.put_comm a v u h2
  have same := execOp_put oj hsj a oi.dst v h1
  unfold wpOp at h ⊢
  simp only [hj, wanted_put oj a oi.dst v h1] at h ⊢
  by_cases hw : Region.wanted oj (yielded ops a.tmps) = true
  · rw [if_pos hw] at h ⊢
    refine h.imp (fun k => ?_) (fun k => ⟨?_, k.2⟩)
    · unfold Oper.wp at k ⊢
      rw [same] at k
      exact upon_behind comm stays (fun a k x => k.same rfl rfl) hQ hy _ k
    · have k1 := k.1
      unfold Oper.asks at k1 ⊢
      rw [same] at k1
      exact k1
  · rw [if_neg hw] at h ⊢
    exact ⟨stays a hy _, comm a undef ▸ h⟩
theorem wpAnyG_first {i : Nat} {oi : Oper} {v : Value} (hF : F i = true) (hi : ops[i]? = some oi) (hsel : ∀ (j : Nat) (o : Oper) cs b, ops[j]? = some o → o.op ≠ .select cs b)
    (hQ : ∀ c a w, Q (.panic c) (a.put oi.dst v) w → Q (.panic c) a w) (fuel : Nat) :
    ∀ (S : World → Prop) (listed : Array Bool) (a : Act), Loose ops md i oi listed → Closed md ops listed → i ∈ Region.ready md ops listed → Quiet P ops S oi v a →
      wpAnyG P md F ops Q fuel S (listed.setIfInBounds i true) (a.put oi.dst v) → wpAnyG P md F ops Q (fuel + 1) S listed a := by
  induction fuel with
  | zero =>
    intro S listed a _ _ hr hy H
    constructor
    · intro h
      rw [h] at hr; cases hr
    intro j hj w hS
    rcases Nat.decEq j i with hne | rfl
    · have k := ready_mono hj hne
      rw [H.1] at k; cases k
    · exact (hy.steady fun _ h => h).op hi hS fun w' hS' => ⟨S, hS', .inl fun _ h => h, H⟩
  | succ fuel ih =>
    intro S listed a hl hcl hr hy H
    constructor
    · intro h
      rw [h] at hr; cases hr
    intro j hj w hS
    rcases Nat.decEq j i with hne | rfl
    · obtain ⟨hun, oj, hoj, _⟩ := mem_ready.1 hj
      have step := quiet_behind hoj (hl.at_ hr hj hoj hne) (fun cs b => hsel i oi cs b hi) (fun cs b => hsel j oj cs b hoj) hQ hy (H.2 j (ready_mono hj hne) w hS)
      refine wpOp_mono (fun a' w' k => ?_) step
      obtain ⟨hq, S', k1, k2, k3⟩ := k
      replace k2 : ∀ u, S' u → S u := by
        rcases k2 with k2 | k2
        · exact k2
        · exact absurd hr (not_ready_of_listed (listed_of_ready hcl hj (k2 i hF (Ne.symm hne))))
      refine ⟨S', k1, .inl k2, ih S' _ a' (hl.set hun) (hcl.set hj) (ready_mono hr (Ne.symm hne)) ?_ ?_⟩
      · rcases hq with ⟨q1, q2⟩ | q
        · exact .inl ⟨q1, fun w hw => q2 w (k2 w hw)⟩
        · exact .inr q
      · rw [Array.setIfInBounds_comm _ _ hne]
        exact k3
    · exact (hy.steady fun _ h => h).op hi hS fun w' hS' => ⟨S, hS', .inl fun _ h => h, H⟩
end
namespace Sym
section
variable {P : Program} {s : Sp} {n0 : Nat} {A : Inva}
theorem hrel_eq {ρ ρ' : Env} {β : List Nat} {hp : List Blk} (hl : ρ.le ρ') (hs : scH ρ.is.length ρ.bs.length ρ.vs.length hp = true) : HRel s n0 ρ' β hp = HRel s n0 ρ β hp :=
  funext fun _ => propext ⟨fun h => h.back hl hs, fun h => h.le hl hs⟩
/-- an operation that reads alone, wanted or not -/
theorem turn_quiet {call : Caller} {ops : Array Oper} {ρ : Env} {β : List Nat} {st : St} {a : Act} {o : Oper} {Q : St → Env → Sp → Prop} (F : Inv n0 s) (hq : steadyOp o = true) (hP : PRel ρ st) (htm : a.tmps = (SV.dens ρ β st.tm).toArray) (hdf : a.defers = [])
    (hw : ∃ w, HRel s n0 ρ β st.hp w) (h : (turnS P call ops st o).holds P n0 s ρ A Q) :
    ∃ st' ρ' v, Quiet P ops (HRel s n0 ρ β st.hp) o v a ∧ PRel ρ' st' ∧ ρ.le ρ' ∧ st'.hp = st.hp ∧ (a.put o.dst v).tmps = (SV.dens ρ' β st'.tm).toArray ∧ (a.put o.dst v).defers = [] ∧ HRel s n0 ρ' β st.hp = HRel s n0 ρ β st.hp ∧ Q st' ρ' s := by
  simp only [steadyOp, Bool.and_eq_true] at hq
  obtain ⟨hq1, hq2⟩ := hq
  have go : ∀ {st1 : St}, Like st st1 → PRel ρ st1 → Region.wanted o (yielded ops a.tmps) = true →
      ((stepS P call st1 o).bind fun r => .ret (r.2.put o.dst r.1)).holds P n0 s ρ A Q → ∃ st' ρ' v, Quiet P ops (HRel s n0 ρ β st.hp) o v a ∧ PRel ρ' st' ∧ ρ.le ρ' ∧ st'.hp = st.hp ∧ (a.put o.dst v).tmps = (SV.dens ρ' β st'.tm).toArray ∧ (a.put o.dst v).defers = [] ∧ HRel s n0 ρ' β st.hp = HRel s n0 ρ β st.hp ∧ Q st' ρ' s := by
    intro st1 hl hp1 hwt h
    replace h := bind_dn _ h
    have htm1 : a.tmps = (SV.dens ρ β st1.tm).toArray := by rw [hl.tm]; exact htm
    have plain : (opS P st1 o.op).holds P n0 s ρ A (fun r ρ' s' => ∃ A', (T.ret (r.2.put o.dst r.1) : T St).holds P n0 s' ρ' A' Q) → ∃ st' ρ' v, Quiet P ops (HRel s n0 ρ β st.hp) o v a ∧ PRel ρ' st' ∧ ρ.le ρ' ∧ st'.hp = st.hp ∧ (a.put o.dst v).tmps = (SV.dens ρ' β st'.tm).toArray ∧ (a.put o.dst v).defers = [] ∧ HRel s n0 ρ' β st.hp = HRel s n0 ρ β st.hp ∧ Q st' ρ' s := by
      intro h
      obtain ⟨sv, st', ρ2, p, l1, ht, hhp, hqq, hr⟩ := opS_ok F hp1 h
      obtain ⟨_, hqq⟩ := hqq
      obtain ⟨w0, hw0⟩ := hw
      have hH0 : HRel s n0 ρ β st1.hp w0 := by rw [hl.hp]; exact hw0
      obtain ⟨γ, w', nx, _, _, _, hH2, _, hd0, hqt⟩ := hr β a w0 hH0 (eval_of htm1)
      obtain ⟨rfl, rfl⟩ := hqt hq1
      have heq : HRel s n0 ρ2 γ st.hp = HRel s n0 ρ γ st.hp := by
        funext u
        refine propext ⟨fun hu => ?_, fun hu => ?_⟩
        · refine ⟨hu.inv, hu.len, hu.lo, hu.inj, fun i blk hi j v hv => ?_, hu.frz⟩
          have e1 := hu.cells i blk hi j v hv
          have e2 := hH2.cells i blk (by rw [hhp hq1, hl.hp]; exact hi) j v hv
          have e3 := hw0.cells i blk hi j v hv
          rw [e2] at e3
          rw [e1, ← e3]
        · refine ⟨hu.inv, hu.len, hu.lo, hu.inj, fun i blk hi j v hv => ?_, hu.frz⟩
          have e1 := hu.cells i blk hi j v hv
          have e2 := hH2.cells i blk (by rw [hhp hq1, hl.hp]; exact hi) j v hv
          have e3 := hw0.cells i blk hi j v hv
          rw [e2] at e3
          rw [e1, e3]
      refine ⟨st'.put o.dst sv, ρ2, sv.den ρ2 γ, .inl ⟨hwt, fun w hS => ?_⟩, put_rel _ _ p, l1, by rw [put_hp, hhp hq1, hl.hp], put_tm (by rw [htm1, ht, hd0]) _ _, (put_df _ _).trans hdf, heq, hqq⟩
      obtain ⟨γ', w', nx, hrun, hv, _, _, _, _, hqt⟩ := hr γ a w (by rw [hl.hp]; exact hS) (eval_of htm1)
      obtain ⟨rfl, rfl⟩ := hqt hq1
      refine ⟨nx, hrun, hv.imp id fun ⟨k1, k2⟩ => ⟨k1, by rw [k2]; simp [SV.den]⟩⟩
    unfold stepS at h
    split at h
    · rename_i c hop
      rw [hop] at hq2
      simp only at hq2
      split at hq2
      · rename_i b hb
        rw [hb] at h
        simp only at h
        obtain ⟨sv, ⟨_, _, hqq⟩, hr⟩ := built_ok hp1 (bind_dn _ h)
        refine ⟨st1.put o.dst sv, ρ, sv.den ρ β, .inl ⟨hwt, fun w hS => ?_⟩, put_rel _ _ hp1, Env.le_refl ρ, by rw [put_hp, hl.hp], put_tm htm1 _ _, (put_df _ _).trans hdf, rfl, hqq⟩
        refine ⟨_, ?_, .inl rfl⟩
        simp only [execOp, hop, resolve, hb, Sem.run_bind, Sem.run_pure, Result.andThen_ok, invoke, eval_map (eval_of htm1), hr]
      · cases hq2
    · exact plain h
  have skip : ∀ {st1 : St}, Like st st1 → PRel ρ st1 → Region.wanted o (yielded ops a.tmps) = false →
      (T.ret (st1.put o.dst (.con undef)) : T St).holds P n0 s ρ A Q → ∃ st' ρ' v, Quiet P ops (HRel s n0 ρ β st.hp) o v a ∧ PRel ρ' st' ∧ ρ.le ρ' ∧ st'.hp = st.hp ∧ (a.put o.dst v).tmps = (SV.dens ρ' β st'.tm).toArray ∧ (a.put o.dst v).defers = [] ∧ HRel s n0 ρ' β st.hp = HRel s n0 ρ β st.hp ∧ Q st' ρ' s := by
    intro st1 hl hp1 hwt h
    have e := put_tm (ρ := ρ) (β := β) (st := st1) (a := a) (by rw [hl.tm]; exact htm) o.dst (.con undef)
    simp only [SV.den] at e
    exact ⟨st1.put o.dst (.con undef), ρ, undef, .inr ⟨hwt, rfl⟩, put_rel _ _ hp1, Env.le_refl ρ, by rw [put_hp, hl.hp], e, (put_df _ _).trans hdf, rfl, h⟩
  unfold turnS at h
  simp only at h
  split at h
  · rename_i hg
    exact go (.refl _) hP (by simp [Region.wanted, hg]) h
  · rename_i j want hg
    split at h
    · rename_i b hb
      have hy := yield_ok htm hb
      obtain ⟨st1, p, l, ⟨hbd, h⟩ | ⟨hbd, h⟩⟩ := tIte_holds hP h
      · cases want with
        | true => exact go l p (by simp [Region.wanted, hg, hy, hbd]) (by simpa using h)
        | false => exact skip l p (by simp [Region.wanted, hg, hy, hbd]) (by simpa using h)
      · cases want with
        | true => exact skip l p (by simp [Region.wanted, hg, hy, hbd]) (by simpa using h)
        | false => exact go l p (by simp [Region.wanted, hg, hy, hbd]) (by simpa using h)
    · split at h
      · rename_i hu
        exact skip (.refl _) hP (by simp [Region.wanted, hg, undef_ok htm hu]) h
      · exact h.elim
theorem bothL_mem {α : Type} {X : Nat → T α} {ρ : Env} {Q : α → Env → Sp → Prop} : ∀ {l : List Nat}, (bothL (l.map X)).holds P n0 s ρ A Q → ∀ i ∈ l, (X i).holds P n0 s ρ A Q
  | [], _, i, hi => by cases hi
  | [x], h, i, hi => by
    simp only [List.mem_cons, List.not_mem_nil, or_false] at hi
    subst hi
    exact h
  | x :: y :: l, h, i, hi => by
    rcases List.mem_cons.1 hi with rfl | hi
    · exact h.1
    · exact bothL_mem (l := y :: l) h.2 i hi
theorem reach_ok {ops : Array Oper} : ∀ {n j i : Nat}, reachS ops n j i = true → Reach .any ops j i
  | 0, _, _, h => by cases h
  | n + 1, j, i, h => by
    simp only [reachS] at h
    split at h
    · rename_i o ho
      rw [Bool.or_eq_true, List.any_eq_true, List.any_eq_true] at h
      rcases h with ⟨e, he, k⟩ | ⟨e, he, k⟩
      · simp only [Bool.and_eq_true, beq_iff_eq] at k
        obtain ⟨k1, rfl⟩ := k
        exact .one ho (Array.mem_toList_iff.1 he) k1
      · simp only [Bool.and_eq_true] at k
        exact .more ho (Array.mem_toList_iff.1 he) k.1 (reach_ok k.2)
    · cases h
theorem late_ok {ops : Array Oper} {j : Nat} (h : lateS ops j = true) : Late .any ops (fun i => (ops[i]?).any steadyOp) j := by
  intro i hi hne
  simp only [lateS, List.all_eq_true, Bool.or_eq_true] at h
  have hs : i < ops.size := by
    rcases Nat.lt_or_ge i ops.size with k | k
    · exact k
    · simp only [Array.getElem?_eq_none k] at hi; cases hi
  rcases h i (List.mem_range.2 hs) with (k | k) | k
  · exact absurd (by simpa using k) hne
  · simp only [hi] at k; cases k
  · exact reach_ok k
theorem regG_ok {call : Caller} (hc : CallerOk P call) {ops : Array Oper} (hsel : Region.noSelect ops = true) {K : Exit → Act → World → Prop} (hK : ∀ (d : Tmp) v c a w, K (.panic c) (a.put (some d) v) w → K (.panic c) a w) :
    ∀ (n : Nat) {listed : Array Bool} {s : Sp} {A : Inva} {ρ : Env} {β : List Nat} {st : St} {a : Act} {Q : St → Env → Sp → Prop}, Closed .any ops listed → Inv n0 s → PRel ρ st → a.tmps = (SV.dens ρ β st.tm).toArray → a.defers = [] → (∃ w, HRel s n0 ρ β st.hp w) →
    (regG P call ops n listed st).holds P n0 s ρ A Q →
    (∀ st' ρ' γ s' a' w', SRel s' n0 ρ' γ st' a' w' → ρ.le ρ' → Le β γ → s.le s' → Q st' ρ' s' → K .normal a' w') →
    wpAnyG P .any (fun i => (ops[i]?).any steadyOp) ops K n (HRel s n0 ρ β st.hp) listed a
  | 0, listed, s, A, ρ, β, st, a, Q, hcl, F, hP, htm, hdf, hw, h, hk => by
    simp only [regG] at h
    split at h
    · rename_i he
      exact ⟨by simpa using he, fun w hH => hk st ρ β s a w ⟨F, hP, hH, htm, hdf⟩ (Env.le_refl ρ) (.refl β) (Sp.le_refl s) h⟩
    · exact h.elim
  | n + 1, listed, s, A, ρ, β, st, a, Q, hcl, F, hP, htm, hdf, hw, h, hk => by
    simp only [regG] at h
    split at h
    · rename_i i hfind
      have hm := List.mem_of_find?_eq_some hfind
      have hp := List.find?_some hfind
      simp only [Bool.and_eq_true] at hp
      obtain ⟨hst, hfree⟩ := hp
      split at h
      · rename_i o ho
        rw [ho] at hst
        simp only [Option.any_some] at hst
        obtain ⟨st', ρ', v, hqt, hP', hl, hhp, htm', hdf', heq, A', hq⟩ := turn_quiet F hst hP htm hdf hw (bind_dn _ h)
        refine wpAnyG_first (F := fun i => (ops[i]?).any steadyOp) (by simp only [ho, Option.any_some]; exact hst) ho (Region.noSelect_spec hsel) (fun c a w hp => by
          cases hdst : o.dst with
          | none => rw [hdst] at hp; exact hp
          | some d => rw [hdst] at hp; exact hK d v c a w hp) n _ listed a (Region.free_spec ho hfree) hcl hm hqt ?_
        have k := regG_ok hc hsel hK n (β := β) (hcl.set hm) F hP' htm' hdf' (by rw [hhp, heq]; exact hw) hq fun st2 ρ2 γ s2 a2 w2 r l1 l2 l3 q => hk st2 ρ2 γ s2 a2 w2 r (Env.le_trans hl l1) l2 l3 q
        rw [hhp, heq] at k
        exact k
      · exact h.elim
    · split at h
      · rename_i hr
        exact ⟨fun _ w hH => hk st ρ β s a w ⟨F, hP, hH, htm, hdf⟩ (Env.le_refl ρ) (.refl β) (Sp.le_refl s) h, fun i hi => by rw [hr] at hi; cases hi⟩
      · rename_i hne
        split at h
        · refine ⟨fun he => absurd he hne, fun i hi w hH => ?_⟩
          have k := bothL_mem h i hi
          split at k
          · rename_i o ho
            refine turn_ok hc ho ⟨F, hP, hH, htm, hdf⟩ (bind_dn _ k) fun st' ρ' γ s' a' w' hR l1 l2 l3 ⟨A', q⟩ => ?_
            split at q
            · rename_i hcnd
              refine ⟨HRel s' n0 ρ' γ st'.hp, hR.h, ?_, regG_ok hc hsel hK n (hcl.set hi) hR.f hR.p hR.tm hR.df ⟨w', hR.h⟩ q fun st2 ρ2 γ2 s2 a2 w2 r m1 m2 m3 q2 => hk st2 ρ2 γ2 s2 a2 w2 r (Env.le_trans l1 m1) (l2.trans m2) (Sp.le_trans l3 m3) q2⟩
              simp only [Bool.or_eq_true, Bool.and_eq_true] at hcnd
              rcases hcnd with c | ⟨c1, c2⟩
              · exact .inr (late_ok c)
              · obtain ⟨d, hd⟩ := sameH_eq c1
                rw [← hP.ni, ← hP.nb, ← hP.nv] at c2
                refine .inl fun u hu => ?_
                rw [hd] at hu
                exact hu.drop hH.len l1 c2 l2 l3
            · exact q.elim
          · exact k.elim
        · exact h.elim
end
end Sym
end Go.Proofs.Ythfagiihfkjamaa
