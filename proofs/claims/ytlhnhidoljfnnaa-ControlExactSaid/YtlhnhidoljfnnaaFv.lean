/- XFd is sound: regions that draw their order. -/
import Derived.Test.YtlhnhidoljfnnaaFu
set_option linter.unusedVariables false
set_option linter.unusedSimpArgs false
set_option linter.unusedSectionVars false
namespace Go.Proofs.Ytlhnhidoljfnnaa
open Go.RowKit
namespace Fx
theorem HRel.less {F : Fr} {ρ : Env} {hp hm : List Blk} {sl sm : List Ent} {w : World} (A : HRel F ρ hp sl w) (sub : ∀ (c : Nat) (b : Blk), hm[c]? = some b → b = .none ∨ hp[c]? = some b) (ssub : ∀ e ∈ sm, e ∈ sl) : HRel F ρ hm sm w := by
  have at_ : ∀ {c b}, blkAt ρ hm c = some b → blkAt ρ hp c = some b := fun h => blkAt_sub sub rfl rfl h
  have gd : ∀ b, Gd F ρ hp w b → Gd F ρ hm w b := fun b g => ⟨g.1, g.2.1, fun c e => g.2.2 c (at_ e)⟩
  exact ⟨A.size, A.keep, fun c b e => A.lo c b (at_ e), fun c cs x hh b e1 e2 => A.npb c cs x hh b ((sub c _ e1).resolve_left (by simp)) (at_ e2), fun c d b e1 e2 => A.inj c d b (at_ e1) (at_ e2), fun c cells wr e => A.fix c cells wr ((sub c _ e).resolve_left (by simp)), fun c cells wr e => A.has c cells wr ((sub c _ e).resolve_left (by simp)), fun c cells e => A.frz c cells ((sub c _ e).resolve_left (by simp)), fun c cs x hh e => (A.rows c cs x hh ((sub c _ e).resolve_left (by simp))).mono (fun b g => ⟨gd b g, rfl⟩) fun _ _ => rfl, fun e he => RepC.mono (fun b g => ⟨gd b g, fun _ => rfl⟩) (A.imm e (ssub e he)), A.io⟩
theorem length_filter_lt {p q : Nat → Bool} (h : ∀ x, q x = true → p x = true) {j : Nat} (hp : p j = true) (hq : q j = false) : ∀ {l : List Nat}, (l.filter q).length ≤ (l.filter p).length ∧ (j ∈ l → (l.filter q).length < (l.filter p).length)
  | [] => by simp
  | x :: l => by
    obtain ⟨h1, h2⟩ := length_filter_lt h hp hq (l := l)
    cases eq : q x with
    | true =>
      rw [List.filter_cons_of_pos (by rw [eq]), List.filter_cons_of_pos (by rw [h x eq])]
      simp only [List.length_cons]
      refine ⟨by omega, fun hm => ?_⟩
      rcases List.mem_cons.1 hm with rfl | hm
      · rw [hq] at eq; cases eq
      · have := h2 hm; omega
    | false =>
      rw [List.filter_cons_of_neg (by rw [eq]; decide)]
      cases ep : p x with
      | true =>
        rw [List.filter_cons_of_pos (by rw [ep])]
        simp only [List.length_cons]
        exact ⟨by omega, fun _ => by omega⟩
      | false =>
        rw [List.filter_cons_of_neg (by rw [ep]; decide)]
        refine ⟨h1, fun hm => ?_⟩
        rcases List.mem_cons.1 hm with rfl | hm
        · rw [hp] at ep; cases ep
        · exact h2 hm
section
variable {P : Program} {M : Models} {N : Nat} {call : Caller} {ops : Array Oper} {bfs : List Nat} {R : Run} {F : Fr}
theorem PI.start (RO : R.Ok P M N call ops bfs) {ρ : Env} {a : Act} {w w1 : World} (hs : Scp (R.S 0)) (hR : SRel F ρ (R.S 0) a w1) (hd : ρ.ds = R.E 0) (hw : w.heap.size ≤ w1.heap.size) {L : Nat → Prop} (hL : ∀ k, k < ops.size → ¬ L k) :
    PI ops bfs R F L ρ w (R.S 0).tm (fun c => (R.S 0).hp.getD c .none) (R.S 0).sl ⟨R.E ops.size, ρ.vs, ρ.β⟩ a w1 := by
  have ad : AgD (R.S 0).nd ρ.ds (R.E ops.size) := by rw [← hR.p.nd, hd]; exact Run.extD RO (by omega)
  have ag : Ag (R.S 0).nd (R.S 0).nv (R.S 0).nh ρ ⟨R.E ops.size, ρ.vs, ρ.β⟩ := ⟨ad, fun _ _ => rfl, fun _ _ => rfl⟩
  have hlt : ∀ {k}, k < ops.size → (R.S 0).nv ≤ (R.S k).nv ∧ (R.S 0).nh ≤ (R.S k).nh := fun hk => Run.le RO (by omega) (by omega)
  refine ⟨rfl, ?_, hR.tm.of fun x hx hu => SV.den_ag ag (hs.tm x hx hu), hR.df, rfl, fun i t hi _ _ hw => ?_, fun i c hi _ _ hw => ?_, fun e he => he, fun k o ho hk => (hL k (op_lt ho) hk).elim, fun k hk _ => ⟨fun x hx => ?_, fun c => ?_, fun e he => ?_⟩, ag, hw⟩
  · refine (HRel.ag hs.hp hs.sl ag hR.h).less (fun c b h => ?_) fun e he => he
    rw [hpOf_get] at h
    split at h
    · injection h with h
      rw [List.getD_eq_getElem?_getD] at h
      cases e : (R.S 0).hp[c]? with
      | none => rw [e] at h; exact .inl h.symm
      | some b' => rw [e, Option.getD_some] at h; exact .inr (by rw [h])
    · cases h
  · have : ∀ d, d ≤ i → (R.S d).tm[t]? = (R.S 0).tm[t]? := by
      intro d
      induction d with
      | zero => intro _; rfl
      | succ d ih => intro h; rw [Run.val_t RO (by omega) fun wt => hL d (by omega) (hw d (by omega) wt), ih (by omega)]
    exact (this i (Nat.le_refl _)).symm
  · have : ∀ d, d ≤ i → (R.S d).hp.getD c .none = (R.S 0).hp.getD c .none := by
      intro d
      induction d with
      | zero => intro _; rfl
      | succ d ih => intro h; rw [Run.val_b RO (by omega) fun wt => hL d (by omega) (hw d (by omega) wt), ih (by omega)]
    exact (this i (Nat.le_refl _)).symm
  · have := SV.ref_und (hs.tm x hx)
    exact ⟨fun i hi h => by have := this.1 i hi; have := hlt hk; omega, fun i hi h => by have := this.2 i hi; have := hlt hk; omega⟩
  · simp only [List.getD_eq_getElem?_getD]
    cases e : (R.S 0).hp[c]? with
    | none => simp [Av, Blk.refV, Blk.refH]
    | some b =>
      have := Blk.ref_lt (hs.hp.at e)
      exact ⟨fun i hi h => by have := this.1 i hi; have := hlt hk; omega, fun i hi h => by have := this.2 i hi; have := hlt hk; unfold St.nh at *; omega⟩
  · refine ⟨fun i hi h => ?_, fun i hi => by cases hi⟩
    simp only [List.mem_singleton] at hi
    subst hi
    have := (hs.sl e he).1
    have := hlt hk
    omega
/-- the states of the canonical run hold of its data -/
theorem Run.prel (RO : R.Ok P M N call ops bfs) (hc : CallerOk P M N call) {ρ : Env} {a : Act} {w : World} (hs : Scp (R.S 0)) (hR : SRel F ρ (R.S 0) a w) (hd : ρ.ds = R.E 0) :
    ∀ i, i ≤ ops.size → PRel (R.E i) (R.S i) ∧ ∃ tm f sl ρ' a' w', PI ops bfs R F (fun k => k < i) ρ w tm f sl ρ' a' w'
  | 0, _ => ⟨by rw [← hd]; exact hR.p, _, _, _, _, _, _, PI.start RO hs hR hd (Nat.le_refl _) (fun k hk h => by omega)⟩
  | i + 1, hi => by
    obtain ⟨p, tm, f, sl, ρ', a', w', I⟩ := Run.prel RO hc hs hR hd i (by omega)
    obtain ⟨o, ho⟩ := op_at (ops := ops) (i := i) (by omega)
    have key := PI.step (L' := fun k => k < i + 1) RO hc ho (fun k => by omega) (by omega) (fun k hk _ => hk) (fun k j _ h1 h2 _ => by omega) p I (K := fun _ _ _ => False)
      (next := fun a' w' => PRel (R.E (i + 1)) (R.S (i + 1)) ∧ ∃ tm f sl ρ' a' w', PI ops bfs R F (fun k => k < i + 1) ρ w tm f sl ρ' a' w') fun tm' f' sl' ρ2 a2 w2 I2 p2 => ⟨p2, tm', f', sl', ρ2, a2, w2, I2⟩
    split at key
    · obtain ⟨_, _, h⟩ := wp_ex key
      exact h
    · exact key
theorem PI.done (RO : R.Ok P M N call ops bfs) {L : Nat → Prop} {ρ0 ρ : Env} {w0 w : World} {tm : List SV} {f : Nat → Blk} {sl : List Ent} {a : Act} (I : PI ops bfs R F L ρ0 w0 tm f sl ρ a w) (hL : ∀ k, L k ↔ k < ops.size)
    (p0 : PRel (R.E 0) (R.S 0)) (p : PRel (R.E ops.size) (R.S ops.size)) : Went F ((R.S 0).nd, (R.S 0).nv, (R.S 0).nh) ρ0 ρ (R.S ops.size) a w0 w := by
  have nL : ¬ L ops.size := fun h => by have := (hL _).1 h; omega
  have et : tm = (R.S ops.size).tm := List.ext_getElem? fun t => I.vt _ t (Nat.le_refl _) (.inl rfl) nL fun k hk _ => (hL k).2 hk
  have hle := Run.le RO (i := 0) (j := ops.size) (by omega) (Nat.le_refl _)
  refine ⟨⟨by rw [I.ds]; exact p, I.h.less (fun c b h => .inr ?_) fun e he => ?_, et ▸ I.tm, I.df⟩, I.ag, ?_, hle.1, hle.2, I.size⟩
  · have e := I.vb _ c (Nat.le_refl _) (.inl rfl) nL fun k hk _ => (hL k).2 hk
    rw [List.getD_eq_getElem?_getD, h, Option.getD_some] at e
    rw [hpOf_get, if_pos (show c < (R.S ops.size).nh from lt_of_get h), e]
  · rcases Run.sl_of RO _ (Nat.le_refl _) e he with q | ⟨k, o, h1, h2, h3⟩
    · exact I.sl0 e q
    · exact I.sln k o h2 ((hL k).2 h1) e h3
  · rw [← p0.nd, ← p.nd]
    obtain ⟨l, e⟩ := Run.ext RO (i := 0) ops.size (by omega)
    rw [Nat.zero_add] at e
    rw [e]
    simp
theorem all_listed {listed : Array Bool} (hback : backOk ops = true) (hr : Region.ready .any ops listed = []) (hz : listed.size = ops.size) : ∀ i, i < ops.size → listed.getD i false = true := by
  intro i
  induction i using Nat.strongRecOn with
  | _ i ih =>
    intro hi
    cases e : listed.getD i false with
    | true => rfl
    | false =>
      obtain ⟨o, ho⟩ := op_at hi
      have : i ∈ Region.ready .any ops listed := by
        refine mem_ready.2 ⟨?_, o, ho, fun ed he hb => ?_⟩
        · have hl : i < listed.size := by omega
          simpa [Array.getD_eq_getD_getElem?, Array.getElem?_eq_getElem hl] using e
        · simp only [backOk, List.all_eq_true, List.mem_range] at hback
          have := hback i hi
          rw [ho] at this
          simp only [List.all_eq_true, Bool.or_eq_true, Bool.not_eq_true', decide_eq_true_eq] at this
          have := (this ed (by simpa using he)).resolve_left (by rw [hb]; decide)
          exact ih _ this (by omega)
      rw [hr] at this
      cases this
theorem any_ok (RO : R.Ok P M N call ops bfs) (hc : CallerOk P M N call) (FO : F.Ok) (hbf : bfs = befL ops.toList []) (hback : backOk ops = true) {ρ0 : Env} {w0 : World} (hp : ∀ i, i ≤ ops.size → PRel (R.E i) (R.S i)) {Q : Exit → Act → World → Prop}
    (hQ : ∀ ρ a w, ρ.ds = R.E ops.size → Went F ((R.S 0).nd, (R.S 0).nv, (R.S 0).nh) ρ0 ρ (R.S ops.size) a w0 w → Q .normal a w) :
    ∀ (fuel : Nat) (listed : Array Bool) (a : Act) (w : World) (tm : List SV) (f : Nat → Blk) (sl : List Ent) (ρ : Env), listed.size = ops.size → Closed ops listed → ((List.range ops.size).filter fun k => !listed.getD k false).length ≤ fuel →
      PI ops bfs R F (fun k => listed.getD k false = true) ρ0 w0 tm f sl ρ a w → wpAny P .any ops Q fuel listed a w := by
  have reach : ∀ {j k}, Bit bfs j k → Reach ops j k := fun {j k} h => by
    rw [hbf] at h
    exact befL_ok ops.toList [] rfl (fun j k h => by simp at h) j k h
  have lt_of : ∀ {listed : Array Bool} {k}, listed.size = ops.size → listed.getD k false = true → k < ops.size := fun {listed k} hz h => by
    rcases Nat.lt_or_ge k listed.size with q | q
    · omega
    · simp [Array.getD_eq_getD_getElem?, Array.getElem?_eq_none q] at h
  have fin : ∀ (listed : Array Bool) (a : Act) (w : World) (tm : List SV) (f : Nat → Blk) (sl : List Ent) (ρ : Env), listed.size = ops.size → PI ops bfs R F (fun k => listed.getD k false = true) ρ0 w0 tm f sl ρ a w → (∀ i, i < ops.size → listed.getD i false = true) → Q .normal a w := fun listed a w tm f sl ρ hz I hall =>
    hQ ρ a w I.ds (I.done RO (fun k => ⟨lt_of hz, hall k⟩) (hp 0 (by omega)) (hp _ (Nat.le_refl _)))
  intro fuel
  induction fuel with
  | zero =>
    intro listed a w tm f sl ρ hz hcl hf I
    have hall : ∀ i, i < ops.size → listed.getD i false = true := fun i hi => by
      cases e : listed.getD i false with
      | true => rfl
      | false =>
        have : i ∈ (List.range ops.size).filter fun k => !listed.getD k false := List.mem_filter.2 ⟨List.mem_range.2 hi, by rw [e]; rfl⟩
        rw [List.eq_nil_of_length_eq_zero (Nat.le_zero.1 hf)] at this
        cases this
    refine ⟨List.eq_nil_iff_forall_not_mem.2 fun i hi => ?_, fin listed a w tm f sl ρ hz I hall⟩
    obtain ⟨h1, o, ho, _⟩ := mem_ready.1 hi
    have h2 := hall i (op_lt ho)
    have hl : i < listed.size := by have := op_lt ho; omega
    simp [Array.getD_eq_getD_getElem?, Array.getElem?_eq_getElem hl] at h1 h2
    rw [h1] at h2
    cases h2
  | succ fuel ih =>
    intro listed a w tm f sl ρ hz hcl hf I
    refine ⟨fun hr => fin listed a w tm f sl ρ hz I (all_listed hback hr hz), fun j hj => ?_⟩
    obtain ⟨h1, o, ho, hre⟩ := mem_ready.1 hj
    have hjl := op_lt ho
    have hnl : ¬ listed.getD j false = true := fun h2 => by
      have hl : j < listed.size := by omega
      simp [Array.getD_eq_getD_getElem?, Array.getElem?_eq_getElem hl] at h1 h2
      rw [h1] at h2
      cases h2
    have key := PI.step (L' := fun k => (listed.setIfInBounds j true).getD k false = true) RO hc ho (fun k => ⟨fun h => getD_set.2 h, fun h => ?_⟩) hnl (fun k hk b => listed_of_ready hcl hj (reach b)) (fun k i hk h1 h2 b => (reach b).listed hcl h1) (hp j (by omega)) I (K := Q) (next := wpAny P .any ops Q fuel (listed.setIfInBounds j true))
      fun tm' f' sl' ρ' a' w' I' _ => ih _ a' w' tm' f' sl' ρ' (by rw [Array.size_setIfInBounds]; exact hz) (hcl.set hj) ?_ I'
    · unfold wpOp
      rw [ho]
      simp only
      split
      · rename_i hw
        rw [if_pos hw] at key
        exact .inl key
      · rename_i hw
        rw [if_neg hw] at key
        exact key
    · rcases h with rfl | h
      · simp [Array.getD_eq_getD_getElem?, Array.getElem?_setIfInBounds, hz, hjl]
      · exact getD_set.1 h
    · have := (length_filter_lt (p := fun k => !listed.getD k false) (q := fun k => !(listed.setIfInBounds j true).getD k false) (fun x hx => ?_) (j := j) (by simpa using hnl) ?_ (l := List.range ops.size)).2 (List.mem_range.2 hjl)
      · omega
      · cases e : listed.getD x false with
        | false => rfl
        | true => rw [getD_set.1 e] at hx; cases hx
      · simp [Array.getD_eq_getD_getElem?, Array.getElem?_setIfInBounds, hz, hjl]
/-- regions that draw their order -/
theorem draw_ok0 (hm : P.follows .mixedOrders = true) (hc : CallerOk P M N call) {F : Fr} (FO : F.Ok) (id : Nat) (ops : Array Oper) (ρ : Env) (st st' : St) (ds' : List D) (a : Act) (w : World) (hsel : Region.noSelect ops = true) (hsc : st.scoped = true) (hback : backOk ops = true) (hR : SRel F ρ st a w) (h : (regD P call ops (befL ops.toList []) ops.toList 0 [] st).eval M N ρ.ds = some (st', ds')) :
    (Code.region id ops true).wp P (CPost F ρ st .normal st' ds' w) a w := by
  obtain ⟨S, E, Mp, RL, s1, s2, s3, s4, s5, s6⟩ := regD_trace P M N call ops _ ops.toList 0 [] st st' ρ.ds ds' h
  simp only [Nat.zero_add, Array.length_toList] at s4 s5 s6
  have RO : (Run.mk S E Mp RL).Ok P M N call ops (befL ops.toList []) := ⟨fun j o ho => s6 j o (by simpa using ho), s3, by show Scq (S 0); rw [s1]; have q := scoped_iff hsc; exact ⟨q.tm, q.hp, q.sl⟩⟩
  have hs0 : Scp ((Run.mk S E Mp RL).S 0) := by show Scp (S 0); rw [s1]; exact scoped_iff hsc
  have hR0 : SRel F ρ ((Run.mk S E Mp RL).S 0) a w := by show SRel F ρ (S 0) a w; rw [s1]; exact hR
  have hp := fun i hi => (Run.prel RO hc hs0 hR0 s2.symm i hi).1
  refine wp_region_any hm ?_
  have I := PI.start RO (w := w) (w1 := w.drew) (L := fun k => (Array.replicate ops.size false).getD k false = true) hs0 ⟨hR0.p, hR0.h.drew, hR0.tm, hR0.df⟩ s2.symm (Nat.le_refl _) (fun k hk => by simp [Array.getD_eq_getD_getElem?, Array.getElem?_replicate, hk])
  refine any_ok RO hc FO rfl hback hp (ρ0 := ρ) (w0 := w) (fun ρ' a' w' hd g => ⟨rfl, ρ', by rw [hd]; exact s5, ?_⟩) ops.size _ a _ _ _ _ _ (by simp) closed_nil (Nat.le_trans (List.length_filter_le _ _) (by simp)) I
  have g' : Went F ((S 0).nd, (S 0).nv, (S 0).nh) ρ ρ' (S ops.size) a' w w' := g
  rw [s1, s4] at g'
  exact g'
/-- how many rows the owned slices have is told rightly -/
theorem lens_ok {F : Fr} {ρ : Env} {hp : List Blk} {sl : List Ent} {w : World} (h : HRel F ρ hp sl w) : ∀ e ∈ lensOf hp, RepC (rdW w) (Gd F ρ hp w) (.sl e.cs) (ρ.vs e.i) (e.x.den ρ.ds) := by
  intro e he
  obtain ⟨b, hb, e1⟩ := List.mem_filterMap.1 he
  obtain ⟨j, hj⟩ := List.getElem?_of_mem hb
  cases b with
  | fix c wr => cases e1
  | none => cases e1
  | rows cs x i =>
    injection e1 with e1
    subst e1
    have hr : ((xRep (xLen x) []).den ρ.ds).rows = List.replicate (x.den ρ.ds).len.toNat [] := by rw [xRep_den, xLen_den]; rfl
    simp only [RepC, hr, List.length_replicate]
    rcases h.rows j cs x i hj with ⟨a, h1, h2⟩ | ⟨b, cp, h1, h2, h3, h4, h5, h6, h7⟩
    · have : (x.den ρ.ds).len.toNat = 0 := by rw [D.len, h2]; rfl
      rw [this]
      exact ⟨a, 0, h1, Nat.le_refl _, Nat.zero_le _, .inl rfl⟩
    · have : (x.den ρ.ds).len.toNat = (x.den ρ.ds).rows.length := by
        unfold maxLen at h4
        unfold D.len
        omega
      rw [this]
      refine ⟨_, cp, h1, h3, h4, .inr ⟨b, 0, rfl, .inl trivial, fun k row hk => ?_⟩⟩
      simp only [RepR]
      exact List.eq_of_mem_replicate (List.mem_of_getElem? hk)
theorem HRel.fewer {F : Fr} {ρ : Env} {hp : List Blk} {sl sl' : List Ent} {w : World} (h : HRel F ρ hp sl w) (k : ∀ e ∈ sl', e ∈ sl) : HRel F ρ hp sl' w :=
  ⟨h.size, h.keep, h.lo, h.npb, h.inj, h.fix, h.has, h.frz, h.rows, fun e he => h.imm e (k e he), h.io⟩
theorem draw_ok (hm : P.follows .mixedOrders = true) (hc : CallerOk P M N call) : DrawOk P M N call := by
  intro F FO id ops ρ st st' ds' a w hsel hsc hback hR h
  unfold regW at h
  split at h
  · rename_i hs
    obtain ⟨s, d1, h1, h2⟩ := bind_some h
    simp only [T.eval, Option.some.injEq, Prod.mk.injEq] at h2
    obtain ⟨rfl, rfl⟩ := h2
    have hR' : SRel F ρ st.withLens a w := ⟨⟨hR.p.nd, hR.p.bd, hR.p.kn⟩, hR.h.add (lens_ok hR.h), hR.tm, hR.df⟩
    refine wp_mono (draw_ok0 hm hc FO id ops ρ st.withLens s d1 a w hsel hs hback hR' h1) fun e a' w' ⟨he, ρ', hd, hW⟩ => ⟨he, ρ', hd, ⟨⟨?_, ?_, hW.r.tm, hW.r.df⟩, hW.ag, hW.nd, hW.nv, hW.nh, hW.size⟩⟩
    · exact ⟨hW.r.p.nd, hW.r.p.bd, hW.r.p.kn⟩
    · exact hW.r.h.fewer fun e he => (List.mem_append.1 he).elim List.mem_of_mem_take List.mem_of_mem_drop
  · simp [T.eval] at h
end
end Fx
end Go.Proofs.Ytlhnhidoljfnnaa
