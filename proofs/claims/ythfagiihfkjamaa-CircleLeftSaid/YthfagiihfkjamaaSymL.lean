/- XSym is sound: the head of a loop. -/
import Derived.Test.YthfagiihfkjamaaSymQ
namespace Go.Proofs.Ythfagiihfkjamaa
open Go.RowKit
namespace Sym
section
variable {P : Program} {s : Sp} {n0 : Nat} {A : Inva}
/-- the head's environment: ρ before the loop, ρ2 where the values are read off -/
structure Lay (t : Sub) (ρ ρ2 : Env) (β2 γ : List Nat) (ρ' : Env) : Prop where
  le : ρ.le ρ2
  ni : ρ.is.length = t.ni
  nb : ρ.bs.length = t.nb
  nv : ρ.vs.length = t.nv
  e : ρ' = ρ.ext (t.is.map (E.den ρ2)) (t.bs.map (B.den ρ2)) (t.vs.map (SV.den ρ2 β2))
  b : γ = β2.take t.nh
theorem getD_le2 {α : Type} {a l : List α} {i : Nat} {d : α} (h : ¬ i < a.length) : (a ++ l).getD i d = l.getD (i - a.length) d := by
  simp [List.getD_eq_getElem?_getD, List.getElem?_append_right (Nat.le_of_not_lt h)]
theorem getD_map {α γ : Type} (f : α → γ) (l : List α) (i : Nat) (d : α) : (l.map f).getD i (f d) = f (l.getD i d) := by
  simp only [List.getD_eq_getElem?_getD, List.getElem?_map]
  cases l[i]? <;> rfl
theorem lay_int {t : Sub} {ρ ρ2 ρ' : Env} {β2 γ : List Nat} (L : Lay t ρ ρ2 β2 γ ρ') : ∀ (e : E), (e.lay t).den ρ2 = e.den ρ' := by
  obtain ⟨⟨is, bs, vs, rfl⟩, h1, h2, h3, rfl, rfl⟩ := L
  intro e
  induction e with
  | v i =>
    simp only [E.lay, E.den, Env.ext]
    split
    · rename_i h
      simp only [E.den]
      rw [getD_le (by omega), getD_le (by omega)]
    · rename_i h
      rw [getD_le2 (by omega), h1]
      exact (getD_map (E.den _) t.is _ (.n 0)).symm
  | n z => rfl
  | wr k a ih => simp only [E.lay, E.den, ih]
  | add a b ia ib | sub a b ia ib | mul a b ia ib | quo a b ia ib | rem a b ia ib | mx a b ia ib | mn a b ia ib => simp only [E.lay, E.den, ia, ib]
theorem lay_bool {t : Sub} {ρ ρ2 ρ' : Env} {β2 γ : List Nat} (L : Lay t ρ ρ2 β2 γ ρ') : ∀ (e : B), (e.lay t).den ρ2 = e.den ρ' := by
  intro e
  induction e with
  | v i =>
    obtain ⟨⟨is, bs, vs, rfl⟩, h1, h2, h3, rfl, rfl⟩ := L
    simp only [B.lay, B.den, Env.ext]
    split
    · rename_i h
      simp only [B.den]
      rw [getD_le (by omega), getD_le (by omega)]
    · rename_i h
      rw [getD_le2 (by omega), h2]
      exact (getD_map (B.den _) t.bs _ (.c false)).symm
  | c z => rfl
  | not a ih => simp only [B.lay, B.den, ih]
  | lt a b | eq a b => simp only [B.lay, B.den, lay_int L]
  | beq a b ia ib | and a b ia ib => simp only [B.lay, B.den, ia, ib]
theorem lay_vs {t : Sub} {ρ ρ2 ρ' : Env} {β2 γ : List Nat} (L : Lay t ρ ρ2 β2 γ ρ') (i : Nat) : ρ'.vs.getD i undef = (if i < t.nv then ρ2.vs.getD i undef else (t.vs.getD (i - t.nv) (.con undef)).den ρ2 β2) := by
  obtain ⟨⟨is, bs, vs, rfl⟩, h1, h2, h3, rfl, rfl⟩ := L
  simp only [Env.ext]
  split
  · rename_i h
    rw [getD_le (by omega), getD_le (by omega)]
  · rename_i h
    rw [getD_le2 (by omega), h3]
    exact getD_map (SV.den _ β2) t.vs _ (.con undef)
mutual
theorem lay_val {t : Sub} {ρ ρ2 ρ' : Env} {β2 γ : List Nat} (L : Lay t ρ ρ2 β2 γ ρ') : ∀ {x y : SV}, x.lay t = some y → y.den ρ2 β2 = x.den ρ' γ
  | .int k e, y, h => by simp only [SV.lay, Option.some.injEq] at h; subst h; simp only [SV.den, lay_int L]
  | .bool b, y, h => by simp only [SV.lay, Option.some.injEq] at h; subst h; simp only [SV.den, lay_bool L]
  | .con v, y, h => by simp only [SV.lay, Option.some.injEq] at h; subst h; simp only [SV.den]
  | .var i, y, h => by
    simp only [SV.lay, Option.some.injEq] at h
    subst h
    simp only [SV.den, lay_vs L]
    split <;> rfl
  | .el i e o, y, h => by
    simp only [SV.lay] at h
    split at h
    · rename_i hi
      injection h with h
      subst h
      simp only [SV.den, lay_vs L, hi, if_true, lay_int L]
    · cases h
  | .ptr i o, y, h => by
    simp only [SV.lay] at h
    split at h
    · rename_i hi
      injection h with h
      subst h
      simp only [SV.den, L.b, List.getD_eq_getElem?_getD, List.getElem?_take_of_lt hi]
    · cases h
  | .row i o l c, y, h => by
    simp only [SV.lay] at h
    split at h
    · rename_i hi
      injection h with h
      subst h
      simp only [SV.den, L.b, List.getD_eq_getElem?_getD, List.getElem?_take_of_lt hi]
    · cases h
  | .agg l, y, h => by
    simp only [SV.lay] at h
    split at h
    · rename_i l' hl
      injection h with h
      subst h
      simp only [SV.den, lay_vals L hl]
    · cases h
  | .tuple l, y, h => by
    simp only [SV.lay] at h
    split at h
    · rename_i l' hl
      injection h with h
      subst h
      simp only [SV.den, lay_vals L hl]
    · cases h
  | .fn f a b, y, h => by
    simp only [SV.lay] at h
    split at h
    · rename_i a' b' ha hb
      injection h with h
      subst h
      simp only [SV.den, lay_vals L ha, lay_vals L hb]
    · cases h
theorem lay_vals {t : Sub} {ρ ρ2 ρ' : Env} {β2 γ : List Nat} (L : Lay t ρ ρ2 β2 γ ρ') : ∀ {x y : List SV}, SV.lays t x = some y → SV.dens ρ2 β2 y = SV.dens ρ' γ x
  | [], y, h => by simp only [SV.lays, Option.some.injEq] at h; subst h; simp only [SV.dens]
  | x :: xs, y, h => by
    simp only [SV.lays] at h
    split at h
    · rename_i a b ha hb
      injection h with h
      subst h
      simp only [SV.dens, lay_val L ha, lay_vals L hb]
    · cases h
end
theorem fitS_den {t : Sub} {ρ ρ2 ρ' : Env} {β2 γ : List Nat} (L : Lay t ρ ρ2 β2 γ ρ') {x y : SV} (h : fitS t x y = true) : x.den ρ' γ = y.den ρ2 β2 := by
  unfold fitS at h
  split at h
  · rename_i z hz
    rw [← same_eq h]
    exact (lay_val L hz).symm
  · cases h
theorem fitL_den {t : Sub} {ρ ρ2 ρ' : Env} {β2 γ : List Nat} (L : Lay t ρ ρ2 β2 γ ρ') : ∀ {x y : List SV}, fitL t x y = true → SV.dens ρ' γ x = SV.dens ρ2 β2 y
  | [], [], _ => rfl
  | [], _ :: _, h => by cases h
  | _ :: _, [], h => by cases h
  | x :: xs, y :: ys, h => by
    simp only [fitL, Bool.and_eq_true] at h
    simp only [SV.dens, fitS_den L h.1, fitL_den L h.2]
theorem fitH_at {t : Sub} : ∀ {x y : List Blk}, fitH t x y = true → ∀ (i : Nat) (b : Blk), x[i]? = some b → ∃ c : Blk, y[i]? = some c ∧ fitL t b.cells c.cells = true ∧ (b.wr = true → c.wr = true)
  | [], _, _, i, b, hi => by simp at hi
  | x :: xs, [], h, _, _, _ => by cases h
  | x :: xs, y :: ys, h, i, b, hi => by
    simp only [fitH, Bool.and_eq_true, Bool.or_eq_true, Bool.not_eq_true'] at h
    cases i with
    | zero =>
      simp at hi
      subst hi
      exact ⟨y, by simp, h.1.1, fun hb => by rcases h.1.2 with k | k; rw [hb] at k; cases k; exact k⟩
    | succ i =>
      simp at hi
      obtain ⟨c, h1, h2⟩ := fitH_at h.2 i b hi
      exact ⟨c, by simpa using h1, h2⟩
theorem headS_eq (st : St) (ds : List Nat) (bd : Bds) : ∃ tm hp, (headS st ds bd).1 = { st.grow (headS st ds bd).2 with tm := tm, hp := hp, nv := st.nv + (headS st ds bd).2.nv + (headS st ds bd).2.nj, lv := st.lv + 1 } := by
  unfold headS
  exact ⟨_, _, rfl⟩
/-- A state that fits the head of a loop is one of its states, with what is new there read off it. -/
theorem fit_rel {ρ : Env} {st hd : St} (hP : PRel ρ st) (hs : st.scoped = true) (hbl : st.bd.length = st.ni) {n : New} (hn : newB n = true) {tm : List SV} {hp : List Blk} (hhd : hd = { st.grow n with tm := tm, hp := hp, nv := st.nv + n.nv + n.nj, lv := st.lv + 1 })
    {ρ2 : Env} {β2 : List Nat} {st2 : St} {a : Act} {w : World} (hR : SRel s n0 ρ2 β2 st2 a w) (hle : ρ.le ρ2) {t : Sub} (t1 : t.ni = st.ni) (t2 : t.nb = st.nb) (t3 : t.nv = st.nv) (hf : fits hd n st2 t = true)
    (hbd : BdOk ⟨t.is.map (E.den ρ2), [], []⟩ n.bd) :
    ∃ js, js.length = n.nj ∧ NewOk n (t.is.map (E.den ρ2)) (t.bs.map (B.den ρ2)) ((t.vs.take n.nv).map (SV.den ρ2 [])) ∧
      SRel s n0 (ρ.ext (t.is.map (E.den ρ2)) (t.bs.map (B.den ρ2)) ((t.vs.take n.nv).map (SV.den ρ2 []) ++ js)) (β2.take hd.hp.length) hd a w := by
  simp only [fits, Bool.and_eq_true, beq_iff_eq] at hf
  obtain ⟨⟨⟨⟨⟨⟨⟨f1, f2⟩, f3⟩, f4⟩, f5⟩, f6⟩, f7⟩, f8⟩ := hf
  simp only [newB, Bool.and_eq_true, beq_iff_eq, List.all_eq_true] at hn
  obtain ⟨⟨n1, n2⟩, n3⟩ := hn
  have evs : (t.vs.take n.nv).map (SV.den ρ2 []) = (t.vs.take n.nv).map (SV.den ρ2 β2) := by
    apply List.map_congr_left
    intro x hx
    rw [scs_eq, List.all_eq_true] at f5
    exact (den_nil β2 (by rw [hR.p.ni, hR.p.nb, hR.p.nv]; exact f5 x hx)).symm
  have L : Lay t ρ ρ2 β2 (β2.take hd.hp.length) (ρ.ext (t.is.map (E.den ρ2)) (t.bs.map (B.den ρ2)) ((t.vs.take n.nv).map (SV.den ρ2 []) ++ (t.vs.drop n.nv).map (SV.den ρ2 β2))) :=
    ⟨hle, by rw [hP.ni, t1], by rw [hP.nb, t2], by rw [hP.nv, t3], by rw [evs, ← List.map_append, List.take_append_drop], by rw [f4]⟩
  have hnew : NewOk n (t.is.map (E.den ρ2)) (t.bs.map (B.den ρ2)) ((t.vs.take n.nv).map (SV.den ρ2 [])) := by
    have hsl : SlOk (t.is.map (E.den ρ2)) ((t.vs.take n.nv).map (SV.den ρ2 [])) n.sl := by
      intro p hp
      obtain ⟨k1, k2⟩ := n2 p hp
      have k1 := of_decide_eq_true k1
      simp only [fitN, List.all_eq_true] at f8
      have q := f8 p hp
      split at q
      · rename_i j hj
        split at q
        · rename_i j' e hfind
          split at q
          · rename_i i hi
            have q := of_decide_eq_true q
            have hm := List.mem_of_find?_eq_some hfind
            have he := List.find?_some hfind
            simp only [beq_iff_eq] at he
            subst he
            obtain ⟨a0, m, c0, h1, h2, h3⟩ := hR.p.sl _ hm
            refine ⟨a0, m, c0, ?_, ?_, h3⟩
            · have : ((t.vs.take n.nv).map (SV.den ρ2 [])).getD p.1 undef = ((t.vs.take n.nv).getD p.1 (.con undef)).den ρ2 [] := getD_map (SV.den ρ2 []) _ _ (.con undef)
              rw [this]
              simp only [List.getD_eq_getElem?_getD, List.getElem?_take_of_lt k1] at hj ⊢
              rw [hj]
              exact h1
            · rw [h2, hi]
              simp only [E.den]
              have : (t.is.map (E.den ρ2)).getD i 0 = (t.is.getD i (.n 0)).den ρ2 := getD_map (E.den ρ2) _ _ (.n 0)
              rw [this, ← q]
              exact (E.den_is e).symm
          · cases q
        · cases q
      · cases q
    refine ⟨by simp [f1], by simp [f2], by simp [f3], hbd, hsl, fun i hi => ?_⟩
    obtain ⟨k1, k2⟩ := n3 i hi
    rw [List.any_eq_true] at k2
    obtain ⟨p, hp, hpi⟩ := k2
    simp only [beq_iff_eq] at hpi
    obtain ⟨a0, m, c0, h1, _, _⟩ := hsl p hp
    rw [hpi] at h1
    rw [h1]
    rfl
  refine ⟨(t.vs.drop n.nv).map (SV.den ρ2 β2), by simp [f3], hnew, ?_⟩
  have hps : PRel (ρ.ext (t.is.map (E.den ρ2)) (t.bs.map (B.den ρ2)) ((t.vs.take n.nv).map (SV.den ρ2 []) ++ (t.vs.drop n.nv).map (SV.den ρ2 β2))) { st.grow n with nv := st.nv + n.nv + ((t.vs.drop n.nv).map (SV.den ρ2 β2)).length } :=
    grow_rel hP hs hbl (fun p hp => by
      obtain ⟨k1, k2⟩ := n2 p hp
      refine ⟨of_decide_eq_true k1, ?_⟩
      split at k2
      · rename_i i hi
        exact ⟨i, hi, of_decide_eq_true k2⟩
      · cases k2) (fun i hi => by
      exact of_decide_eq_true (n3 i hi).1) hnew
  have hjl : ((t.vs.drop n.nv).map (SV.den ρ2 β2)).length = n.nj := by simp [f3]
  rw [hjl] at hps
  subst hhd
  refine ⟨hR.f, ⟨hps.ni, hps.nb, hps.nv, hps.bd, hps.kn, hps.sl, hps.sk⟩, ?_, ?_, hR.df⟩
  · refine ⟨hR.h.inv, ?_, fun b hb => hR.h.lo b (List.mem_of_mem_take hb), hR.h.inj.sublist (List.take_sublist _ _), fun i blk hi j v hv => ?_, fun i blk hi hw j => ?_⟩
    · have : hp.length ≤ st2.hp.length := by
        rcases Nat.lt_or_ge st2.hp.length hp.length with q | q
        · obtain ⟨c, hc, _⟩ := fitH_at f7 st2.hp.length _ (List.getElem?_eq_getElem q)
          rw [List.getElem?_eq_none (Nat.le_refl _)] at hc
          cases hc
        · exact q
      simp [hR.h.len]
      omega
    · obtain ⟨c, hc, hl, hw⟩ := fitH_at f7 i blk hi
      have hil : i < hp.length := by
        rcases Nat.lt_or_ge i hp.length with q | q
        · exact q
        · simp only at hi; rw [List.getElem?_eq_none q] at hi; cases hi
      have eb : (β2.take hp.length).getD i 0 = β2.getD i 0 := by simp only [List.getD_eq_getElem?_getD, List.getElem?_take_of_lt hil]
      have hd := fitL_den L hl
      have hj := congrArg (fun l : List Value => l[j]?) hd
      simp only [dens_get, hv, Option.map_some] at hj
      obtain ⟨u, hu, hue⟩ := Option.map_eq_some_iff.1 hj.symm
      rw [eb, hR.h.cells i c hc j u hu, hue]
    · obtain ⟨c, hc, hl, hw'⟩ := fitH_at f7 i blk hi
      have hil : i < hp.length := by
        rcases Nat.lt_or_ge i hp.length with q | q
        · exact q
        · simp only at hi; rw [List.getElem?_eq_none q] at hi; cases hi
      have eb : (β2.take hp.length).getD i 0 = β2.getD i 0 := by simp only [List.getD_eq_getElem?_getD, List.getElem?_take_of_lt hil]
      rw [eb]
      exact hR.h.frz i c hc (hw' hw) j
  · rw [hR.tm, ← fitL_den L f6]
end
end Sym
end Go.Proofs.Ythfagiihfkjamaa
