/- XFd is sound: calls, whole functions. -/
import Derived.Test.YtlhnhidoljfnnaaFn
set_option linter.unusedVariables false
set_option linter.unusedSimpArgs false
namespace Go.Proofs.Ytlhnhidoljfnnaa
open Go.RowKit
namespace Fx
section
variable {M : Models} {N : Nat} {P : Program} {F : Fr}
theorem argX_okG {ρ : Env} {st : St} {w : World} (hH : HRel F ρ st.hp st.sl w) {own : Bool} {G : Nat → Prop} (hG : ∀ b, Gd F ρ st.hp w b → G b) (hO : own = true → ∀ j cs x h b, st.hp[j]? = some (Blk.rows cs x h) → blkAt ρ st.hp j = some b → G b) {c : CT} {x : SV} {e : X} (h : argX st own c x = some e) : RepC (rdW w) G c (x.den ρ) (e.den ρ.ds) ∧ x.isUnd = false := by
  have weak : argX st false c x = some e → RepC (rdW w) G c (x.den ρ) (e.den ρ.ds) ∧ x.isUnd = false := fun h => by
    obtain ⟨h1, h2⟩ := argX_ok hH h
    exact ⟨RepC.mono (fun b g => ⟨hG b g, fun _ => rfl⟩) h1, h2⟩
  cases own with
  | false => exact weak h
  | true =>
    unfold argX at h
    split at h
    · split at h
      · rename_i ek; subst ek; injection h with h; subst h; exact ⟨by simp only [RepC, SV.den], rfl⟩
      · cases h
    · injection h with h; subst h; exact ⟨by simp only [RepC, SV.den], rfl⟩
    · injection h with h; subst h; exact ⟨by simp only [RepC, SV.den], rfl⟩
    · rename_i cs i
      split at h
      · rename_i cs' x' r he
        split at h
        · rename_i hc
          simp only [Bool.and_eq_true] at hc
          have hcs := CT.sames_eq hc.1
          subst hcs
          injection h with h
          subst h
          cases r with
          | none => exact weak (by simp only [argX, he]; rw [if_pos (by simp [hc.1])])
          | some j =>
            refine ⟨?_, rfl⟩
            unfold St.ent at he
            split at he
            · rename_i j' cs' x'' hf
              simp only [Option.some.injEq, Prod.mk.injEq] at he
              obtain ⟨rfl, rfl, rfl⟩ := he
              obtain ⟨m, e0, hm⟩ := findR_spec hf
              simp only [SV.den, RepC]
              rcases hH.rows m _ _ i hm with ⟨a, q1, q2⟩ | ⟨b, cp, q1, q2, q3, q4, q5, q6, q7⟩
              · exact ⟨a, 0, by rw [q1, q2]; rfl, by simp [q2], by simp [maxLen], .inl (by simp [q2])⟩
              · refine ⟨_, cp, q1, q3, q4, .inr ⟨b, 0, rfl, ?_, fun i' row hi => ?_⟩⟩
                · refine .inr (hO rfl m _ _ i b hm ?_)
                  rw [blkAt_rows hm, q1]
                  obtain ⟨c, rfl⟩ := Nat.exists_eq_succ_of_ne_zero (Nat.pos_iff_ne_zero.1 q2)
                  rfl
                · rw [Nat.zero_add]
                  exact RepR.mono' (fun b g => ⟨hG b g, fun _ => rfl⟩) (fun _ => rfl) (q7 i' row hi)
            · split at he
              · simp at he
              · cases he
        · cases h
      · cases h
    · rename_i cs
      injection h with h
      subst h
      exact ⟨by simp only [RepC, SV.den, X.den, X.denss, D.rows]; exact ⟨none, 0, rfl, Nat.le_refl _, Nat.zero_le _, .inl rfl⟩, rfl⟩
    · cases h
theorem argXs_okG {ρ : Env} {st : St} {w : World} (hH : HRel F ρ st.hp st.sl w) {own : Bool} {G : Nat → Prop} (hG : ∀ b, Gd F ρ st.hp w b → G b) (hO : own = true → ∀ j cs x h b, st.hp[j]? = some (Blk.rows cs x h) → blkAt ρ st.hp j = some b → G b) : ∀ {cs : List CT} {l : List SV} {r : List X}, argXs st own cs l = some r → RepCs (rdW w) G cs (SV.dens ρ l) (X.dens ρ.ds r) ∧ ∀ x ∈ l, x.isUnd = false
  | [], [], r, h => by simp only [argXs, Option.some.injEq] at h; subst h; exact ⟨trivial, fun x hx => by cases hx⟩
  | [], _ :: _, _, h => by cases h
  | _ :: _, [], _, h => by cases h
  | c :: cs, x :: l, r, h => by
    simp only [argXs] at h
    split at h
    · rename_i a m ha hm
      injection h with h
      subst h
      obtain ⟨h1, h2⟩ := argX_okG hH hG hO ha
      obtain ⟨h3, h4⟩ := argXs_okG hH hG hO hm
      exact ⟨⟨h1, h3⟩, fun y hy => (List.mem_cons.1 hy).elim (fun e => by subst e; exact h2) (h4 y)⟩
    · cases h
theorem argsS_ok {ρ : Env} {st : St} {w : World} (hH : HRel F ρ st.hp st.sl w) {own : Bool} {G : Nat → Prop} (hG : ∀ b, Gd F ρ st.hp w b → G b) (hO : own = true → ∀ j cs x h b, st.hp[j]? = some (Blk.rows cs x h) → blkAt ρ st.hp j = some b → G b) : ∀ {ps : List PK} {args : List SV} {xs : List X} {bs : List (Nat × List CT)}, argsS st own ps args = some (xs, bs) →
    Args w G ps (SV.dens ρ args) (X.dens ρ.ds xs) (bs.map fun b => ρ.β b.1) ∧ (∀ x ∈ args, x.isUnd = false) ∧ ∀ b ∈ bs, ∃ c, st.hp[b.1]? = some (.fix c true) ∧ c.length = b.2.length
  | [], [], xs, bs, h => by simp only [argsS, Option.some.injEq, Prod.mk.injEq] at h; obtain ⟨rfl, rfl⟩ := h; exact ⟨trivial, (fun x hx => by cases hx), fun x hx => by cases hx⟩
  | .val agg cs :: ps, x :: args, xs, bs, h => by
    simp only [argsS] at h
    split at h
    · rename_i a l bs' ha hl
      simp only [Option.some.injEq, Prod.mk.injEq] at h
      obtain ⟨rfl, rfl⟩ := h
      obtain ⟨k1, k2, k3⟩ := argsS_ok hH hG hO hl
      have happ : X.dens ρ.ds (a ++ l) = X.dens ρ.ds a ++ X.dens ρ.ds l := by simp [xdens_eq]
      split at ha
      · rename_i m
        obtain ⟨q1, q2⟩ := argXs_okG hH hG hO ha
        refine ⟨⟨_, _, _, happ, ?_, q1, k1⟩, fun y hy => (List.mem_cons.1 hy).elim (fun e => by subst e; rfl) (k2 y), k3⟩
        simp [cellsV, SV.den]
      · obtain ⟨q1, q2⟩ := argXs_okG hH hG hO ha
        refine ⟨⟨_, _, _, happ, ?_, q1, k1⟩, fun y hy => (List.mem_cons.1 hy).elim (fun e => by subst e; exact q2 _ (by simp)) (k2 y), k3⟩
        simp [cellsV, SV.dens]
      · cases ha
    · cases h
  | .ptr cs :: ps, x :: args, xs, bs, h => by
    cases x with
    | ptr j o =>
      cases o with
      | zero =>
        simp only [argsS] at h
        split at h
        · rename_i a l bs' ha hl
          simp only [Option.some.injEq, Prod.mk.injEq] at h
          obtain ⟨rfl, rfl⟩ := h
          obtain ⟨k1, k2, k3⟩ := argsS_ok hH hG hO hl
          have happ : X.dens ρ.ds (a ++ l) = X.dens ρ.ds a ++ X.dens ρ.ds l := by simp [xdens_eq]
          split at ha
          · rename_i c hc
            obtain ⟨q1, q2⟩ := argXs_okG hH hG hO ha
            refine ⟨⟨_, _, happ, rfl, (hH.lo j _ (blkAt_fix hc)).1, hH.frz j c hc, ?_, k1⟩, fun y hy => (List.mem_cons.1 hy).elim (fun e => by subst e; rfl) (k2 y), fun b hb => (List.mem_cons.1 hb).elim (fun e => by subst e; exact ⟨c, hc, (argXs_len ha).1⟩) (k3 b)⟩
            refine RepR.of_cs q1 fun o v hv => ?_
            rw [dens_get, Option.map_eq_some_iff] at hv
            obtain ⟨y, hy, rfl⟩ := hv
            rw [Nat.zero_add]
            exact hH.fix j c true hc o y hy (q2 y (List.mem_of_getElem? hy))
          · cases ha
        · cases h
      | succ o => simp [argsS] at h
    | _ => simp [argsS] at h
  | [], _ :: _, _, _, h => by simp [argsS] at h
  | .val _ _ :: _, [], _, _, h => by simp [argsS] at h
  | .ptr _ :: _, [], _, _, h => by simp [argsS] at h
/-- what the blocks of pointers hold behind a call -/
def OutB (w : World) (G : Nat → Prop) (ρ : Env) : List (Nat × List CT) → List D → Prop
  | [], [] => True
  | (j, cs) :: bs, ds => ∃ d1 d2, ds = d1 ++ d2 ∧ (∀ o, w.frozen? ⟨ρ.β j, o, none⟩ = false) ∧ RepR (rdW w) G cs (ρ.β j) 0 d1 ∧ OutB w G ρ bs d2
  | _, _ => False
theorem argsS_outs {st : St} {own : Bool} {ρ : Env} {w : World} {G : Nat → Prop} : ∀ {ps : List PK} {args : List SV} {xs : List X} {bs : List (Nat × List CT)} {ds : List D}, argsS st own ps args = some (xs, bs) → Outs w G ps ds (bs.map fun b => ρ.β b.1) → OutB w G ρ bs ds
  | [], [], xs, bs, ds, h, k => by
    simp only [argsS, Option.some.injEq, Prod.mk.injEq] at h
    obtain ⟨rfl, rfl⟩ := h
    cases ds with
    | nil => trivial
    | cons => exact k.elim
  | .val agg cs :: ps, x :: args, xs, bs, ds, h, k => by
    simp only [argsS] at h
    split at h
    · rename_i a l bs' ha hl
      simp only [Option.some.injEq, Prod.mk.injEq] at h
      obtain ⟨rfl, rfl⟩ := h
      exact argsS_outs hl k
    · cases h
  | .ptr cs :: ps, x :: args, xs, bs, ds, h, k => by
    cases x with
    | ptr j o =>
      cases o with
      | zero =>
        simp only [argsS] at h
        split at h
        · rename_i a l bs' ha hl
          simp only [Option.some.injEq, Prod.mk.injEq] at h
          obtain ⟨rfl, rfl⟩ := h
          obtain ⟨d1, d2, e, h1, h2, h3⟩ := k
          exact ⟨d1, d2, e, h1, h2, argsS_outs hl h3⟩
        · cases h
      | succ o => simp [argsS] at h
    | _ => simp [argsS] at h
  | [], _ :: _, _, _, _, h, _ => by simp [argsS] at h
  | .val _ _ :: _, [], _, _, _, h, _ => by simp [argsS] at h
  | .ptr _ :: _, [], _, _, _, h, _ => by simp [argsS] at h
theorem updP_keep : ∀ {bs : List (Nat × List CT)} {d v : Nat} {hp : List Blk}, (updP bs d v hp).1.length = hp.length ∧ ∀ j, (∀ b ∈ bs, b.1 ≠ j) → (updP bs d v hp).1[j]? = hp[j]?
  | [], d, v, hp => ⟨rfl, fun _ _ => rfl⟩
  | (j, cs) :: bs, d, v, hp => by
    obtain ⟨h1, h2⟩ := updP_keep (bs := bs) (d := d + cs.length) (v := v + slN cs) (hp := hp.set j (.fix (freshC cs d v).1 true))
    refine ⟨by simp only [updP, h1, List.length_set], fun k hk => ?_⟩
    simp only [updP]
    rw [h2 k fun b hb => hk b (by simp [hb]), List.getElem?_set_ne (hk (j, cs) (by simp))]
theorem updP_ok {w : World} {G : Nat → Prop} {ρ : Env} : ∀ {bs : List (Nat × List CT)} {dd : List D} {hp : List Blk} (d v : Nat), OutB w G ρ bs dd → nodup (bs.map fun b => some b.1) = true → (∀ b ∈ bs, b.1 < hp.length) → dd.length = lenB bs ∧ ∃ us : List Value, us.length = slB bs ∧ ∀ ρ' : Env, ρ'.β = ρ.β → (∀ i x, dd[i]? = some x → ρ'.ds.getD (d + i) (.i 0) = x) → (∀ j u, us[j]? = some u → ρ'.vs (v + j) = u) →
    (∀ en ∈ (updP bs d v hp).2, RepC (rdW w) G (.sl en.cs) (ρ'.vs en.i) (en.x.den ρ'.ds)) ∧ ∀ b ∈ bs, ∃ c, (updP bs d v hp).1[b.1]? = some (.fix c true) ∧ (∀ o x, c[o]? = some x → w.cell? ⟨ρ.β b.1, o, none⟩ = some (x.den ρ')) ∧ ∀ o, w.frozen? ⟨ρ.β b.1, o, none⟩ = false
  | [], [], hp, d, v, _, _, _ => ⟨rfl, [], rfl, fun ρ' _ _ _ => ⟨fun en he => by simp [updP] at he, fun b hb => by cases hb⟩⟩
  | [], _ :: _, _, _, _, h, _, _ => h.elim
  | (j, cs) :: bs, dd, hp, d, v, h, hn, hlt => by
    obtain ⟨d1, d2, rfl, h1, h2, h3⟩ := h
    simp only [List.map_cons, nodup, Bool.and_eq_true, Bool.not_eq_true'] at hn
    obtain ⟨n1, n2⟩ := hn
    obtain ⟨vals, q1, q2⟩ := RepR.cs h2
    have hl := q1.len
    obtain ⟨us1, l1, k1⟩ := freshC_ok d v q1
    obtain ⟨hd2, us2, l2, k2⟩ := updP_ok (hp := hp.set j (.fix (freshC cs d v).1 true)) (d + cs.length) (v + slN cs) h3 n2 (fun b hb => by simpa using hlt b (by simp [hb]))
    refine ⟨by simp [lenB, hl.2] at hd2 ⊢; omega, us1 ++ us2, by simp [slB, l1] at l2 ⊢; omega, fun ρ' hβ hd hv => ?_⟩
    obtain ⟨e1, e2⟩ := split_get hd
    obtain ⟨f1, f2⟩ := split_vs hv
    obtain ⟨a1, a2, a3⟩ := k1 ρ' e1 f1
    obtain ⟨b1, b2⟩ := k2 ρ' hβ (by rwa [hl.2] at e2) (by rwa [l1] at f2)
    refine ⟨fun en he => ?_, fun b hb => ?_⟩
    · simp only [updP, List.mem_append] at he
      exact he.elim (a3 en) (b1 en)
    · rcases List.mem_cons.1 hb with rfl | hb
      · have hno : ∀ b ∈ bs, b.1 ≠ j := fun b hb e => by
          have : (List.map (fun b => some b.1) bs).contains (some j) = true := by
            simp only [List.contains_iff_mem, List.mem_map]
            exact ⟨b, hb, by rw [e]⟩
          rw [this] at n1
          cases n1
        refine ⟨(freshC cs d v).1, ?_, fun o x hx => ?_, h1⟩
        · simp only [updP]
          rw [(updP_keep (bs := bs)).2 j hno, List.getElem?_set_self (hlt (j, cs) (by simp))]
        · have := q2 o (x.den ρ') (by rw [← a1, dens_get, hx]; rfl)
          rwa [Nat.zero_add] at this
      · simp only [updP]
        exact b2 b hb
/-- memory behind a call -/
theorem HRel.called {ρ ρ' : Env} {nd nv : Nat} {hp hp' : List Blk} {sl es : List Ent} {w w' : World} (h : HRel F ρ hp sl w) (hs : HSc nd nv hp) (hse : ∀ e ∈ sl, e.i < nv ∧ e.x.sc nd = true) (ag : Ag nd nv hp.length ρ ρ') (hβ : ρ'.β = ρ.β) (js : List Nat) (io : Io w w') (hz : w.heap.size ≤ w'.heap.size)
    (hk : ∀ b, b < w.heap.size → (∀ j ∈ js, b ≠ ρ.β j) → w'.heap[b]? = w.heap[b]?) (hlen : hp'.length = hp.length) (hkeep : ∀ j, j ∉ js → hp'[j]? = hp[j]?) (hjs : ∀ j ∈ js, (∃ c, hp[j]? = some (.fix c true)) ∧ ∃ c, hp'[j]? = some (.fix c true) ∧ (∀ o x, c[o]? = some x → w'.cell? ⟨ρ.β j, o, none⟩ = some (x.den ρ')) ∧ ∀ o, w'.frozen? ⟨ρ.β j, o, none⟩ = false)
    {G' : Nat → Prop} (hG : ∀ b, G' b → (Gd F ρ hp w b ∨ w.heap.size ≤ b) ∧ b < w'.heap.size) (hes : ∀ e ∈ es, RepC (rdW w') G' (.sl e.cs) (ρ'.vs e.i) (e.x.den ρ'.ds)) : HRel F ρ' hp' (sl ++ es) w' := by
  have h := h.ag hs hse ag
  have at' : ∀ k, blkAt ρ' hp' k = blkAt ρ' hp k := by
    intro k
    by_cases hkj : k ∈ js
    · obtain ⟨⟨c, hc⟩, c', hc', _⟩ := hjs k hkj
      rw [blkAt_fix hc, blkAt_fix hc']
    · simp only [blkAt, hkeep k hkj]
  have jb : ∀ j ∈ js, blkAt ρ' hp j = some (ρ.β j) := fun j hj => by obtain ⟨⟨c, hc⟩, _⟩ := hjs j hj; rw [blkAt_fix hc, hβ]
  have hg : ∀ b, Gd F ρ' hp w b → Gd F ρ' hp' w' b ∧ w'.heap[b]? = w.heap[b]? := fun b g =>
    ⟨⟨g.1, Nat.lt_of_lt_of_le g.2.1 hz, fun k e => g.2.2 k (by rwa [at'] at e)⟩, hk b g.2.1 fun j hj e => g.2.2 j (by rw [jb j hj, e])⟩
  refine HRel.mk' (h.io.trans io) (Nat.le_trans h.size hz) (fun b h1 h2 => ?_) (fun k b e => by rw [at'] at e; exact ⟨Nat.lt_of_lt_of_le (h.lo k b e).1 hz, (h.lo k b e).2⟩) (fun k cs x hh b h1 h2 => ?_) (fun k l b h1 h2 => by rw [at'] at h1 h2; exact h.inj k l b h1 h2) (fun k blk e => ?_) fun e he => ?_
  · rw [hk b (Nat.lt_of_lt_of_le (F.lt_of h1) h.size) fun j hj e => ?_]
    · exact h.keep b h1 h2
    · subst e
      rcases (h.lo j _ (jb j hj)).2 with q | q
      · exact h1 q
      · exact h2 q
  · rw [at'] at h2
    by_cases hkj : k ∈ js
    · obtain ⟨_, c', hc', _⟩ := hjs k hkj
      rw [hc'] at h1
      cases h1
    · rw [hkeep k hkj] at h1
      exact h.npb k cs x hh b h1 h2
  · by_cases hkj : k ∈ js
    · obtain ⟨_, c', hc', q1, q2⟩ := hjs k hkj
      rw [hc'] at e
      injection e with e
      subst e
      rw [← hβ] at q1 q2
      refine ⟨fun o x hx _ => q1 o x hx, fun o ho => by rw [q1 o _ (List.getElem?_eq_getElem ho)]; rfl, fun _ o => q2 o⟩
    · rw [hkeep k hkj] at e
      refine (h.ok e).mono hg fun c hc => ?_
      have hkc : blkAt ρ' hp k = some c := by simp only [blkAt, e, hc]
      refine hk c (h.lo k c hkc).1 fun j hj e2 => hkj ?_
      have := h.inj k j c hkc (by rw [jb j hj, e2])
      rwa [this]
  · rcases List.mem_append.1 he with he | he
    · exact RepC.mono (fun b g => ⟨(hg b g).1, fun o => rd_of_block (hg b g).2 o⟩) (h.imm e he)
    · refine RepC.mono (fun b g => ⟨?_, fun _ => rfl⟩) (hes e he)
      obtain ⟨q1, q2⟩ := hG b g
      rcases q1 with q1 | q1
      · rw [← Gd.ag hs ag] at q1
        exact (hg b q1).1
      · exact ⟨.inr (.inl (Nat.le_trans h.size q1)), q2, fun k e => by rw [at'] at e; have := (h.lo k b e).1; omega⟩
theorem needB_some {r : (SV × St) × List D} {ds : List D} {k : St → T (SV × St)} : ∀ {bd : Bds} {d : Nat} {st : St}, (needB st d bd k).eval M N ds = some r → BdOk ds st.bd → st.bd.length = d → (k { st with bd := st.bd ++ bd }).eval M N ds = some r ∧ BdOk ds (st.bd ++ bd)
  | [], d, st, h, hb, _ => by simp only [List.append_nil]; exact ⟨h, hb⟩
  | none :: bd, d, st, h, hb, hl => by
    have hb' : BdOk ds (st.bd ++ [none]) := by
      intro i l u hi
      rcases Nat.lt_or_ge i st.bd.length with q | q
      · rw [List.getElem?_append_left q] at hi; exact hb i l u hi
      · rw [List.getElem?_append_right q] at hi
        cases hq : i - st.bd.length with
        | zero => rw [hq] at hi; simp at hi
        | succ n => rw [hq] at hi; simp at hi
    have := needB_some (st := { st with bd := st.bd ++ [none] }) h hb' (by simp [hl])
    simpa [List.append_assoc] using this
  | some (l, u) :: bd, d, st, h, hb, hl => by
    simp only [needB, T.eval] at h
    split at h
    · rename_i hc
      have hc' : l ≤ (ds.getD d (.i 0)).int ∧ (ds.getD d (.i 0)).int ≤ u := by
        have : (!decide ((ds.getD d (.i 0)).int < l) && !decide (u < (ds.getD d (.i 0)).int)) = true := hc
        simp only [Bool.and_eq_true, Bool.not_eq_true', decide_eq_false_iff_not] at this
        omega
      have hb' : BdOk ds (st.bd ++ [some (l, u)]) := by
        intro i l' u' hi
        rcases Nat.lt_or_ge i st.bd.length with q | q
        · rw [List.getElem?_append_left q] at hi; exact hb i l' u' hi
        · rw [List.getElem?_append_right q] at hi
          cases hq : i - st.bd.length with
          | zero =>
            rw [hq] at hi
            simp at hi
            obtain ⟨rfl, rfl⟩ := hi
            rwa [show i = d by omega]
          | succ n => rw [hq] at hi; simp at hi
      have := needB_some (st := { st with bd := st.bd ++ [some (l, u)] }) h hb' (by simp [hl])
      simpa [List.append_assoc] using this
    · cases h
theorem BdOk.pad {ρ : List D} {bd : Bds} (h : BdOk ρ bd) (n : Nat) : BdOk ρ (bd ++ List.replicate n none) := by
  intro i l u hi
  rcases Nat.lt_or_ge i bd.length with q | q
  · rw [List.getElem?_append_left q] at hi; exact h i l u hi
  · rw [List.getElem?_append_right q, List.getElem?_replicate] at hi
    split at hi <;> cases hi
theorem BdOk.app {ρ l : List D} {bd : Bds} (h : BdOk ρ bd) (hl : bd.length ≤ ρ.length) : BdOk (ρ ++ l) bd := by
  intro i a b hi
  rw [getD_pre (Nat.lt_of_lt_of_le (lt_of_get hi) hl)]
  exact h i a b hi
theorem oneV_den {ρ : Env} {l : List SV} {vs : List Value} (h : SV.dens ρ l = vs) : (match l with | [v] => v | l => SV.tuple l).den ρ = oneV vs := by
  subst h
  match l with
  | [] => simp [SV.den, oneV, SV.dens]
  | [x] => simp [SV.dens, oneV]
  | x :: y :: l => simp [SV.den, oneV, SV.dens]
theorem conF_ok {k : Con} (hk : ConOk P k (M k.f)) (FO : F.Ok) {args : List SV} {st st' : St} {sv : SV} {ρ : Env} {ds' : List D} {w : World} (hP : PRel ρ.ds st) (hH : HRel F ρ st.hp st.sl w) (h : (conF P k args st).eval M N ρ.ds = some ((sv, st'), ds')) :
    callable P k.f = true ∧ (∀ x ∈ args, x.isUnd = false) ∧ Calls P k.f (SV.dens ρ args).toArray w fun e w' => ∃ ρ', e = .returned (sv.den ρ') ∧ sv.isUnd = false ∧ ρ'.ds = ds' ∧ Stp F ρ ρ' st st' w w' := by
  unfold conF at h
  split at h
  · rename_i xs bs ha
    simp only at h
    split at h
    · rename_i hc
      simp only [Bool.and_eq_true, decide_eq_true_eq] at hc
      obtain ⟨⟨⟨⟨c1, c2⟩, c3⟩, c4⟩, c5⟩ := hc
      have S := scoped_iff c2
      simp only [T.eval] at h
      split at h
      · rename_i outs hm
        split at h
        · rename_i hlen
          obtain ⟨h, hbd⟩ := needB_some h (by
            have : BdOk (ρ.ds ++ outs) st.bd := hP.bd.app (by rw [hP.nd]; exact S.bd)
            exact this.pad _) (by simp; have := S.bd; omega)
          simp only [T.eval, Option.some.injEq, Prod.mk.injEq] at h
          obtain ⟨⟨rfl, rfl⟩, rfl⟩ := h
          -- the blocks in which the callee's slices may lie
          obtain ⟨G, hG, hO, hGl, hGu⟩ : ∃ G : Nat → Prop, (∀ b, Gd F ρ st.hp w b → G b) ∧ (lends k = true → ∀ j cs x h b, st.hp[j]? = some (Blk.rows cs x h) → blkAt ρ st.hp j = some b → G b) ∧ (∀ b, G b → b < w.heap.size ∧ b ∉ bs.map fun b => ρ.β b.1) ∧ (lends k = false → ∀ b, G b → Gd F ρ st.hp w b) := by
            have fixb : ∀ b ∈ bs, ∃ c, st.hp[b.1]? = some (.fix c true) := fun b hb => by
              obtain ⟨_, _, q⟩ := argsS_ok hH (G := fun _ => True) (fun _ _ => trivial) (fun _ _ _ _ _ _ _ _ => trivial) ha
              obtain ⟨c, hc, _⟩ := q b hb
              exact ⟨c, hc⟩
            have gdn : ∀ b, Gd F ρ st.hp w b → b < w.heap.size ∧ b ∉ bs.map fun b => ρ.β b.1 := fun b g => ⟨g.2.1, fun hm => by
              obtain ⟨p, hp, rfl⟩ := List.mem_map.1 hm
              obtain ⟨c, hc⟩ := fixb p hp
              exact g.2.2 p.1 (blkAt_fix hc)⟩
            cases hl : lends k with
            | false => exact ⟨Gd F ρ st.hp w, fun _ g => g, (fun e => by cases e), gdn, fun _ _ g => g⟩
            | true => exact ⟨fun b => b < w.heap.size ∧ b ∉ bs.map fun b => ρ.β b.1, gdn, fun _ j cs x hh b hj hb => ⟨(hH.lo j b hb).1, fun hm => by
                obtain ⟨p, hp, hpe⟩ := List.mem_map.1 hm
                obtain ⟨c, hc⟩ := fixb p hp
                have := hH.inj j p.1 b hb (by rw [blkAt_fix hc, hpe])
                rw [this, hc] at hj
                cases hj⟩, fun _ g => g, (fun e => by cases e)⟩
          obtain ⟨a1, a2, a3⟩ := argsS_ok hH hG hO ha
          have hnd : (bs.map fun b => ρ.β b.1).Nodup := by
            rw [List.nodup_iff_pairwise_ne, List.pairwise_iff_getElem]
            intro i j hi hj hij e
            simp only [List.length_map] at hi hj
            simp only [List.getElem_map] at e
            obtain ⟨ci, hci, _⟩ := a3 bs[i] (List.getElem_mem hi)
            obtain ⟨cj, hcj, _⟩ := a3 bs[j] (List.getElem_mem hj)
            have := hH.inj bs[i].1 bs[j].1 _ (blkAt_fix hci) (by rw [blkAt_fix hcj, e])
            have := nodup_get c3 i j bs[i].1 (by simp [hi]) (by simp [hj, this])
            omega
          refine ⟨c1, a2, (hk w G _ _ _ outs hGl hnd a1 hm (hH.gl (fun b hb => by
            obtain ⟨p, hp, rfl⟩ := List.mem_map.1 hb
            obtain ⟨c, hc, _⟩ := a3 p hp
            exact (hH.lo p.1 _ (blkAt_fix hc)).2) (fun b hb => by cases hb))).mono fun e w' R => ?_⟩
          obtain ⟨vs, o1, o2, rfl, he, hres, houts⟩ := R.ex
          have hob := argsS_outs ha houts
          obtain ⟨lo1, us1, l1, k1⟩ := freshR_ok st.nd st.nv hres
          obtain ⟨lo2, us2, l2, k2⟩ := updP_ok (hp := st.hp) (st.nd + lenR k.rs) (st.nv + slR k.rs) hob c3 (fun b hb => by obtain ⟨c, hc, _⟩ := a3 b hb; exact lt_of_get hc)
          let ρ' : Env := ⟨ρ.ds ++ (o1 ++ o2), (ρ.setvs st.nv (us1 ++ us2)).vs, ρ.β⟩
          have hnl : ρ.ds.length = st.nd := hP.nd
          have ag : Ag st.nd st.nv st.nh ρ ρ' := ⟨by rw [← hnl]; exact AgD.app _ _, (Ag.setvs st.nd st.nv st.nh ρ (us1 ++ us2)).vs, fun _ _ => rfl⟩
          have hds : ∀ i x, (o1 ++ o2)[i]? = some x → ρ'.ds.getD (st.nd + i) (.i 0) = x := fun i x hx => by
            show (ρ.ds ++ (o1 ++ o2)).getD (st.nd + i) (.i 0) = x
            rw [List.getD_eq_getElem?_getD, List.getElem?_append_right (by omega), show st.nd + i - ρ.ds.length = i by omega, hx]
            rfl
          have hvs : ∀ j u, (us1 ++ us2)[j]? = some u → ρ'.vs (st.nv + j) = u := fun j u hj => Env.setvs_get ρ st.nv (us1 ++ us2) j u hj
          obtain ⟨e1, e2⟩ := split_get hds
          obtain ⟨f1, f2⟩ := split_vs hvs
          obtain ⟨b1, b2, b3⟩ := k1 ρ' e1 f1
          obtain ⟨d1, d2⟩ := k2 ρ' rfl (by rwa [lo1] at e2) (by rwa [l1] at f2)
          obtain ⟨u1, u2⟩ := updP_keep (bs := bs) (d := st.nd + lenR k.rs) (v := st.nv + slR k.rs) (hp := st.hp)
          refine ⟨ρ', ?_, ?_, rfl, ag, ⟨?_, hbd, fun p hp => ?_⟩, ?_, rfl, by simp only; omega, by simp only; omega, by simp only [St.nh, u1]; exact Nat.le_refl _, Ag.keep S ag, R.size⟩
          · rw [he]
            congr 1
            exact (oneV_den b1).symm
          · split
            · rename_i v hv
              exact b2 v (by rw [hv]; simp)
            · rfl
          · show (ρ.ds ++ (o1 ++ o2)).length = _
            simp only [List.length_append, hnl, lo1, lo2]
          · rw [X.den_ag ag.ds (S.kn p hp)]
            exact hP.kn p hp
          · simp only
            by_cases hsl : lends k = true
            · -- nothing that comes back holds slices
              have hs0 : slR k.rs = 0 ∧ slB bs = 0 := by
                simp only [lends, Bool.and_eq_true, beq_iff_eq, List.all_eq_true, Bool.or_eq_true] at hsl
                refine ⟨hsl.1, ?_⟩
                have : ∀ {ps : List PK} {args : List SV} {xs : List X} {bs : List (Nat × List CT)}, (∀ p ∈ ps, p.isV = true ∨ slN p.cs = 0) → argsS st (lends k) ps args = some (xs, bs) → slB bs = 0 := by
                  intro ps
                  induction ps with
                  | nil =>
                    intro args xs bs _ h
                    cases args with
                    | nil => simp only [argsS, Option.some.injEq, Prod.mk.injEq] at h; obtain ⟨rfl, rfl⟩ := h; rfl
                    | cons => simp [argsS] at h
                  | cons p ps ih =>
                    intro args xs bs hp h
                    cases args with
                    | nil => cases p <;> simp [argsS] at h
                    | cons x args =>
                      cases p with
                      | val agg cs =>
                        simp only [argsS] at h
                        split at h
                        · rename_i a l bs' ha hl
                          simp only [Option.some.injEq, Prod.mk.injEq] at h
                          obtain ⟨rfl, rfl⟩ := h
                          exact ih (fun p hq => hp p (by simp [hq])) hl
                        · cases h
                      | ptr cs =>
                        cases x with
                        | ptr j o =>
                          cases o with
                          | zero =>
                            simp only [argsS] at h
                            split at h
                            · rename_i a l bs' ha hl
                              simp only [Option.some.injEq, Prod.mk.injEq] at h
                              obtain ⟨rfl, rfl⟩ := h
                              have := ih (fun p hq => hp p (by simp [hq])) hl
                              have h0 := (hp (.ptr cs) (by simp)).resolve_left (by simp [PK.isV])
                              simp only [PK.cs] at h0
                              simp only [slB, List.map_cons, List.sum_cons, h0] at this ⊢
                              omega
                            · cases h
                          | succ o => simp [argsS] at h
                        | _ => simp [argsS] at h
                exact this hsl.2 ha
              have nosl : ∀ {cs : List CT} {d v : Nat}, slN cs = 0 → (freshC cs d v).2 = [] := by
                intro cs
                induction cs with
                | nil => intro d v _; rfl
                | cons c cs ih =>
                  intro d v h
                  cases c <;> simp only [slN] at h <;> first | (simp only [freshC]; exact ih h) | omega
              have nor : ∀ {rs : List RK} {d v : Nat}, slR rs = 0 → (freshR rs d v).2 = [] := by
                intro rs
                induction rs with
                | nil => intro d v _; rfl
                | cons r rs ih =>
                  intro d v h
                  cases r with
                  | val agg cs =>
                    have h' : slN cs + slR rs = 0 := h
                    simp only [freshR, nosl (show slN cs = 0 by omega), List.nil_append]
                    exact ih (by omega)
              have nob : ∀ {bs : List (Nat × List CT)} {d v : Nat} {hp : List Blk}, slB bs = 0 → (updP bs d v hp).2 = [] := by
                intro bs
                induction bs with
                | nil => intro d v hp _; rfl
                | cons b bs ih =>
                  intro d v hp h
                  obtain ⟨j, cs⟩ := b
                  have h' : slN cs + slB bs = 0 := h
                  simp only [updP, nosl (show slN cs = 0 by omega), List.nil_append]
                  exact ih (by omega)
              rw [nor hs0.1, nob hs0.2]
              exact hH.called S.hp S.sl ag rfl (bs.map (·.1)) R.io R.size (fun b hb hne => R.keep b hb fun hm => by
                obtain ⟨p, hp, rfl⟩ := List.mem_map.1 hm
                exact hne p.1 (List.mem_map.2 ⟨p, hp, rfl⟩) rfl) u1 (fun j hj => u2 j fun b hb e => hj (List.mem_map.2 ⟨b, hb, e⟩)) (fun j hj => by
                obtain ⟨p, hp, rfl⟩ := List.mem_map.1 hj
                obtain ⟨c, hc, _⟩ := a3 p hp
                exact ⟨⟨c, hc⟩, d2 p hp⟩) (G' := fun _ => False) (fun b g => g.elim) (fun e he => by cases he)
            · have hsl : lends k = false := by simpa using hsl
              refine hH.called S.hp S.sl ag rfl (bs.map (·.1)) R.io R.size (fun b hb hne => R.keep b hb fun hm => by
                obtain ⟨p, hp, rfl⟩ := List.mem_map.1 hm
                exact hne p.1 (List.mem_map.2 ⟨p, hp, rfl⟩) rfl) u1 (fun j hj => u2 j fun b hb e => hj (List.mem_map.2 ⟨b, hb, e⟩)) (fun j hj => by
                obtain ⟨p, hp, rfl⟩ := List.mem_map.1 hj
                obtain ⟨c, hc, _⟩ := a3 p hp
                exact ⟨⟨c, hc⟩, d2 p hp⟩) (G' := Back w G (bs.map fun b => ρ.β b.1) w') (fun b g => ⟨g.1.imp (hGu hsl b) id, g.2.1⟩) (fun e he => ?_)
              exact (List.mem_append.1 he).elim (b3 e) (d1 e)
        · cases h
      · cases h
    · simp [T.eval] at h
  · simp [T.eval] at h
theorem con_ok {k : Con} (hk : ConOk P k (M k.f)) (FO : F.Ok) {args : List SV} {st st' : St} {sv : SV} {ρ : Env} {ds' : List D} {w : World} (hP : PRel ρ.ds st) (hH : HRel F ρ st.hp st.sl w) (h : (conS P k args st).eval M N ρ.ds = some ((sv, st'), ds')) :
    callable P k.f = true ∧ (∀ x ∈ args, x.isUnd = false) ∧ Calls P k.f (SV.dens ρ args).toArray w fun e w' => ∃ ρ', e = .returned (sv.den ρ') ∧ sv.isUnd = false ∧ ρ'.ds = ds' ∧ Stp F ρ ρ' st st' w w' := by
  unfold conS at h
  have S0 : Stp F ρ ρ st (if lends k then st else st.freeze (SV.refVs args)) w w := by
    split
    · exact Stp.like hP hH (.refl _)
    · exact freeze_ok hP hH
  obtain ⟨h1, h2, h3⟩ := conF_ok hk FO S0.p S0.h h
  refine ⟨h1, h2, h3.mono fun e w' ⟨ρ', e1, e2, e3, S⟩ => ⟨ρ', e1, e2, e3, ⟨(S0.ag.trans S.ag S0.nd S0.nv S0.nh), S.p, S.h, S.tm.trans S0.tm, Nat.le_trans S0.nd S.nd, Nat.le_trans S0.nv S.nv, Nat.le_trans S0.nh S.nh, fun x hx hu => ?_, S.size⟩⟩⟩
  exact S.keep x (by rw [S0.tm]; exact hx) hu
end
end Fx
end Go.Proofs.Ytlhnhidoljfnnaa
