/- XFd is sound: regions that draw their order. -/
import Derived.Test.YtlhnhidoljfnnaaFm
set_option linter.unusedVariables false
set_option linter.unusedSimpArgs false
namespace Go.Proofs.Ytlhnhidoljfnnaa
open Go.RowKit
namespace Fx
/-- one operation waits for another -/
inductive Reach (ops : Array Oper) : Nat → Nat → Prop where
  | one {j : Nat} {o : Oper} {e : Edge} (h : ops[j]? = some o) (he : e ∈ o.after) (hb : Region.binds .any e = true) : Reach ops j e.on
  | more {j i : Nat} {o : Oper} {e : Edge} (h : ops[j]? = some o) (he : e ∈ o.after) (hb : Region.binds .any e = true) (k : Reach ops e.on i) : Reach ops j i
/-- what is listed waits for what is listed alone -/
def Closed (ops : Array Oper) (listed : Array Bool) : Prop := ∀ k o e, listed.getD k false = true → ops[k]? = some o → e ∈ o.after → Region.binds .any e = true → listed.getD e.on false = true
theorem getD_set {listed : Array Bool} {j k : Nat} : (listed.getD k false = true → (listed.setIfInBounds j true).getD k false = true) ∧ ((listed.setIfInBounds j true).getD k false = true → k = j ∨ listed.getD k false = true) := by
  simp only [Array.getD_eq_getD_getElem?, Array.getElem?_setIfInBounds]
  by_cases h : j = k
  · subst h
    refine ⟨fun h => ?_, fun _ => .inl rfl⟩
    split
    · split
      · rfl
      · simp_all
    · simp_all
  · rw [if_neg h]
    exact ⟨id, .inr⟩
theorem Closed.set {ops : Array Oper} {listed : Array Bool} {j : Nat} (h : Closed ops listed) (hj : j ∈ Region.ready .any ops listed) : Closed ops (listed.setIfInBounds j true) := by
  intro k o e hk ho he hb
  refine getD_set.1 ?_
  rcases getD_set.2 hk with rfl | hk
  · obtain ⟨_, o', ho', hr⟩ := mem_ready.1 hj
    rw [ho] at ho'
    injection ho' with ho'
    subst ho'
    exact hr e he hb
  · exact h k o e hk ho he hb
theorem closed_nil {ops : Array Oper} : Closed ops (Array.replicate ops.size false) := by
  intro k o e hk
  simp only [Array.getD_eq_getD_getElem?, Array.getElem?_replicate] at hk
  split at hk <;> simp at hk
theorem Reach.listed {ops : Array Oper} {listed : Array Bool} {j i : Nat} (h : Closed ops listed) (k : Reach ops j i) : listed.getD j false = true → listed.getD i false = true := by
  induction k with
  | one ho he hb => exact fun hj => h _ _ _ hj ho he hb
  | more ho he hb _ ih => exact fun hj => ih (h _ _ _ hj ho he hb)
theorem listed_of_ready {ops : Array Oper} {listed : Array Bool} {j i : Nat} (h : Closed ops listed) (hj : j ∈ Region.ready .any ops listed) (k : Reach ops j i) : listed.getD i false = true := by
  obtain ⟨_, o, ho, hr⟩ := mem_ready.1 hj
  cases k with
  | one h1 he hb =>
    rw [ho] at h1
    injection h1 with h1
    subst h1
    exact hr _ he hb
  | more h1 he hb k =>
    rw [ho] at h1
    injection h1 with h1
    subst h1
    exact k.listed h (hr _ he hb)
theorem fold_bit {acc : List Nat} {k : Nat} : ∀ (es : List Edge) (s : Nat), (es.foldl (fun s e => if Region.binds .any e then s ||| (2 ^ e.on ||| acc.getD e.on 0) else s) s).testBit k = true → s.testBit k = true ∨ ∃ e ∈ es, Region.binds .any e = true ∧ (e.on = k ∨ (acc.getD e.on 0).testBit k = true)
  | [], s, h => .inl h
  | e :: es, s, h => by
    simp only [List.foldl_cons] at h
    rcases fold_bit es _ h with h | ⟨e', h1, h2⟩
    · split at h
      · rename_i hb
        rw [Nat.testBit_or, Nat.testBit_or, Nat.testBit_two_pow, Bool.or_eq_true, Bool.or_eq_true, decide_eq_true_eq] at h
        rcases h with h | h | h
        · exact .inl h
        · exact .inr ⟨e, by simp, hb, .inl h⟩
        · exact .inr ⟨e, by simp, hb, .inr h⟩
      · exact .inl h
    · exact .inr ⟨e', by simp [h1], h2⟩
theorem befL_ok {ops : Array Oper} : ∀ (l : List Oper) (acc : List Nat), ops.toList.drop acc.length = l → (∀ j k, (acc.getD j 0).testBit k = true → Reach ops j k) → ∀ j k, ((befL l acc).getD j 0).testBit k = true → Reach ops j k
  | [], acc, _, h, j, k, hk => h j k hk
  | o :: l, acc, hd, h, j, k, hk => by
    simp only [befL] at hk
    have ho : ops[acc.length]? = some o := by
      have : ops.toList[acc.length]? = some o := by
        have := congrArg (fun l : List Oper => l[0]?) hd
        simpa using this
      simpa using this
    refine befL_ok l _ (by rw [List.length_append, List.length_singleton, ← List.drop_drop, hd]; rfl) (fun j' k' hk' => ?_) j k hk
    rcases Nat.lt_trichotomy j' acc.length with q | q | q
    · rw [getD_pre q] at hk'
      exact h j' k' hk'
    · subst q
      rw [List.getD_eq_getElem?_getD, List.getElem?_concat_length, Option.getD_some] at hk'
      rcases fold_bit _ _ hk' with h0 | ⟨e, he, hb, h1⟩
      · simp at h0
      · have he' : e ∈ o.after := by simpa using he
        rcases h1 with rfl | h1
        · exact .one ho he' hb
        · exact .more ho he' hb (h _ _ h1)
    · rw [List.getD_eq_getElem?_getD, List.getElem?_eq_none (by simp; omega)] at hk'
      simp at hk'
theorem eval_ext {M : Models} {N : Nat} : ∀ {α : Type} {t : T α} {ρ ρ' : List D} {a : α}, t.eval M N ρ = some (a, ρ') → ∃ l, ρ' = ρ ++ l := by
  intro α t
  induction t with
  | ret a => intro ρ ρ' b h; simp only [T.eval, Option.some.injEq, Prod.mk.injEq] at h; exact ⟨[], by rw [← h.2]; simp⟩
  | ite b x y ix iy => intro ρ ρ' a h; simp only [T.eval] at h; split at h; exact ix h; exact iy h
  | need b x ix => intro ρ ρ' a h; simp only [T.eval] at h; split at h; exact ix h; cases h
  | call f xs k x ix =>
    intro ρ ρ' a h
    simp only [T.eval] at h
    split at h
    · split at h
      · obtain ⟨l, e⟩ := ix h; exact ⟨_, by rw [e, List.append_assoc]⟩
      · cases h
    · cases h
  | sub b k x _ ix =>
    intro ρ ρ' a h
    simp only [T.eval] at h
    split at h
    · split at h
      · obtain ⟨l, e⟩ := ix h; exact ⟨_, by rw [e, List.append_assoc]⟩
      · cases h
    · cases h
  | loop i b k x _ ix =>
    intro ρ ρ' a h
    simp only [T.eval] at h
    split at h
    · split at h
      · obtain ⟨l, e⟩ := ix h; exact ⟨_, by rw [e, List.append_assoc]⟩
      · cases h
    · cases h
  | fail n => intro ρ ρ' a h; simp [T.eval] at h
theorem maskT_get {ts : List Nat} : ∀ (i : Nat) (tm : List SV) (t : Nat), (maskT i ts tm)[t]? = (tm[t]?).map fun x => if ts.contains (i + t) then x else .und
  | _, [], t => by simp [maskT_nil, maskT_cons]
  | i, x :: xs, 0 => by simp [maskT_nil, maskT_cons]
  | i, x :: xs, t + 1 => by simp only [maskT_nil, maskT_cons, List.getElem?_cons_succ, maskT_get (i + 1) xs t, show i + 1 + t = i + (t + 1) by omega]
theorem maskH_get {bs : List Nat} : ∀ (i : Nat) (hp : List Blk) (t : Nat), (maskH i bs hp)[t]? = (hp[t]?).map fun x => if bs.contains (i + t) then x else .none
  | _, [], t => by simp [maskH_nil, maskH_cons]
  | i, x :: xs, 0 => by simp [maskH_nil, maskH_cons]
  | i, x :: xs, t + 1 => by simp only [maskH_nil, maskH_cons, List.getElem?_cons_succ, maskH_get (i + 1) xs t, show i + 1 + t = i + (t + 1) by omega]
theorem mergeH_get {bs : List Nat} : ∀ (i : Nat) (xs ys : List Blk) (t : Nat), xs.length ≤ ys.length → (mergeH i bs xs ys)[t]? = if t < xs.length then (if bs.contains (i + t) then ys[t]? else xs[t]?) else ys[t]?
  | i, [], ys, t, _ => by simp [mergeH]
  | i, x :: xs, [], t, h => by simp at h
  | i, x :: xs, y :: ys, 0, _ => by simp only [mergeH, List.getElem?_cons_zero, Nat.add_zero, List.length_cons, Nat.zero_lt_succ, if_true]; split <;> rfl
  | i, x :: xs, y :: ys, t + 1, h => by
    simp only [mergeH, List.getElem?_cons_succ, mergeH_get (i + 1) xs ys t (by simpa using h), show i + 1 + t = i + (t + 1) by omega, List.length_cons, Nat.add_lt_add_iff_right]
theorem Blk.same_eq {a b : Blk} (h : a.same b = true) : a = b := by
  cases a <;> cases b <;> simp only [Blk.same, Bool.false_eq_true, Bool.and_eq_true, beq_iff_eq] at h
  · rw [SV.sames_eq h.1, h.2]
  · rw [CT.sames_eq h.1.1, X.same_eq h.1.2, h.2]
  · rfl
mutual
theorem SV.den_ref {ρ ρ' : Env} (hd : ρ'.ds = ρ.ds) : ∀ {x : SV}, (∀ i ∈ x.refV, ρ'.vs i = ρ.vs i) → (∀ i ∈ x.refH, ρ'.β i = ρ.β i) → x.den ρ' = x.den ρ
  | .int k e, _, _ | .bool e, _, _ | .str e, _, _ => by simp only [SV.den, hd]
  | .con v, _, _ => by simp only [SV.den]
  | .var i, h, _ => by simp only [SV.den, h i (by simp [SV.refV])]
  | .el i e n o, h, _ => by simp only [SV.den, h i (by simp [SV.refV]), hd]
  | .ptr i o, _, h => by simp only [SV.den, h i (by simp [SV.refH])]
  | .pel i o e l, _, h => by simp only [SV.den, h i (by simp [SV.refH]), hd]
  | .row i o l c, _, h => by simp only [SV.den, h i (by simp [SV.refH])]
  | .agg l, h, k | .tuple l, h, k => by simp only [SV.den, SV.dens_ref hd (fun i hi => h i (by simpa [SV.refV] using hi)) (fun i hi => k i (by simpa [SV.refH] using hi))]
  | .fn f x c, h, k => by
    simp only [SV.den, SV.dens_ref hd (x := x) (fun i hi => h i (by simp [SV.refV, hi])) (fun i hi => k i (by simp [SV.refH, hi])), SV.dens_ref hd (x := c) (fun i hi => h i (by simp [SV.refV, hi])) (fun i hi => k i (by simp [SV.refH, hi]))]
  | .und, _, _ => by simp only [SV.den]
theorem SV.dens_ref {ρ ρ' : Env} (hd : ρ'.ds = ρ.ds) : ∀ {x : List SV}, (∀ i ∈ SV.refVs x, ρ'.vs i = ρ.vs i) → (∀ i ∈ SV.refHs x, ρ'.β i = ρ.β i) → SV.dens ρ' x = SV.dens ρ x
  | [], _, _ => by simp only [SV.dens]
  | x :: xs, h, k => by
    simp only [SV.dens, SV.den_ref hd (x := x) (fun i hi => h i (by simp [SV.refVs, hi])) (fun i hi => k i (by simp [SV.refHs, hi])), SV.dens_ref hd (x := xs) (fun i hi => h i (by simp [SV.refVs, hi])) (fun i hi => k i (by simp [SV.refHs, hi]))]
end
theorem calls_ex {P : Program} {f : FuncId} {args : Array Value} {w : World} {R : Ending → World → Prop} (h : Calls P f args w R) : ∃ e w', R e w' := by
  obtain ⟨e, w', _, hr, _⟩ := h []
  exact ⟨e, w', hr⟩
/-- what an operation leads to is there -/
theorem wp_ex {P : Program} {o : Oper} {a : Act} {w : World} {next : Act → World → Prop} (h : o.wp P a w next fun _ _ _ => False) : ∃ a' w', next a' w' := by
  unfold Oper.wp at h
  generalize (execOp a.eval o).run P w = r at h
  cases r with
  | ok n w' =>
    cases n <;> simp only [Oper.upon] at h
    case value v => exact ⟨_, _, h⟩
    case skip => exact ⟨_, _, h⟩
    case defer d => exact ⟨_, _, h⟩
    case enter f args =>
      obtain ⟨e, w2, h⟩ := calls_ex h
      cases e with
      | returned v => exact ⟨_, _, h⟩
      | panicked c => exact h.elim
      | outgrown => obtain ⟨_, _, h⟩ := h; exact h.elim
    case row row args =>
      obtain ⟨v, w2, h, _⟩ := h (default : Frame) []
      exact ⟨_, _, h⟩
  | halt x w' => cases x <;> simp only [Oper.upon] at h
section
variable (P : Program) (M : Models) (N : Nat) (call : Caller) (ops : Array Oper) (bfs : List Nat)
/-- one operation of the canonical run -/
structure Tr (S : Nat → St) (E : Nat → List D) (Mp : Nat → St) (RL : Nat → List Rec) (i : Nat) (o : Oper) : Prop where
  ev : (turnS P call ops (maskSt ops (bfs.getD i 0) (RL i) i o (S i)) o).eval M N (E i) = some (Mp i, E (i + 1))
  ok : okStep (bfs.getD i 0) (RL i) i o (S i) (maskSt ops (bfs.getD i 0) (RL i) i o (S i)) (Mp i) (recOf ops o (blksOf (S i) o) (S i) (maskSt ops (bfs.getD i 0) (RL i) i o (S i)) (Mp i)) = true
  sv : S (i + 1) = backSt o (blksOf (S i) o) (S i) (maskSt ops (bfs.getD i 0) (RL i) i o (S i)) (Mp i)
  rl : RL (i + 1) = recOf ops o (blksOf (S i) o) (S i) (maskSt ops (bfs.getD i 0) (RL i) i o (S i)) (Mp i) :: RL i
theorem regD_trace : ∀ (l : List Oper) (i : Nat) (rs : List Rec) (st st' : St) (ds ds' : List D), (regD P call ops bfs l i rs st).eval M N ds = some (st', ds') → ∃ (S : Nat → St) (E : Nat → List D) (Mp : Nat → St) (RL : Nat → List Rec), S i = st ∧ E i = ds ∧ RL i = rs ∧ S (i + l.length) = st' ∧ E (i + l.length) = ds' ∧
    ∀ k o, l[k]? = some o → Tr P M N call ops bfs S E Mp RL (i + k) o
  | [], i, rs, st, st', ds, ds', h => by
    simp only [regD, T.eval, Option.some.injEq, Prod.mk.injEq] at h
    obtain ⟨rfl, rfl⟩ := h
    exact ⟨fun _ => st, fun _ => ds, fun _ => st, fun _ => rs, rfl, rfl, rfl, rfl, rfl, fun k o hk => by simp at hk⟩
  | o :: l, i, rs, st, st', ds, ds', h => by
    simp only [regD] at h
    obtain ⟨m', d1, h1, h2⟩ := bind_some h
    split at h2
    · rename_i hok
      obtain ⟨S, E, Mp, RL, s1, s2, s3, s4, s5, s6⟩ := regD_trace l (i + 1) _ _ st' d1 ds' h2
      refine ⟨fun k => if k = i then st else S k, fun k => if k = i then ds else E k, fun k => if k = i then m' else Mp k, fun k => if k = i then rs else RL k, by simp, by simp, by simp, ?_, ?_, fun k o' hk => ?_⟩
      · simp only [List.length_cons, show i + (l.length + 1) = i + 1 + l.length by omega, show i + 1 + l.length ≠ i by omega, if_false]
        exact s4
      · simp only [List.length_cons, show i + (l.length + 1) = i + 1 + l.length by omega, show i + 1 + l.length ≠ i by omega, if_false]
        exact s5
      · cases k with
        | zero =>
          simp at hk
          subst hk
          simp only [Nat.add_zero]
          refine ⟨?_, ?_, ?_, ?_⟩
          · simp only [if_true, show i + 1 ≠ i by omega, if_false, s2]; exact h1
          · simp only [if_true]; exact hok
          · simp only [if_true, show i + 1 ≠ i by omega, if_false, s1]
          · simp only [if_true, show i + 1 ≠ i by omega, if_false, s3]
        | succ k =>
          simp at hk
          have t := s6 k o' hk
          rw [show i + (k + 1) = i + 1 + k by omega]
          refine ⟨?_, ?_, ?_, ?_⟩
          · simp only [show i + 1 + k ≠ i by omega, show i + 1 + k + 1 ≠ i by omega, if_false]; exact t.ev
          · simp only [show i + 1 + k ≠ i by omega, show i + 1 + k + 1 ≠ i by omega, if_false]; exact t.ok
          · simp only [show i + 1 + k ≠ i by omega, show i + 1 + k + 1 ≠ i by omega, if_false]; exact t.sv
          · simp only [show i + 1 + k ≠ i by omega, show i + 1 + k + 1 ≠ i by omega, if_false]; exact t.rl
    · simp [T.eval] at h2
end
end Fx
end Go.Proofs.Ytlhnhidoljfnnaa
