/- XFd is sound: each operation that is no call. -/
import Derived.Test.YtlhnhidoljfnnaaFy
set_option linter.unusedVariables false
set_option linter.unusedSimpArgs false
namespace Go.Proofs.Ytlhnhidoljfnnaa
open Go.RowKit
namespace Fx
def Env.setvs (ρ : Env) (n : Nat) (us : List Value) : Env := ⟨ρ.ds, fun k => if n ≤ k ∧ k < n + us.length then us.getD (k - n) undef else ρ.vs k, ρ.β⟩
theorem Ag.setvs (nd nv nh : Nat) (ρ : Env) (us : List Value) : Ag nd nv nh ρ (ρ.setvs nv us) := ⟨AgD.refl _ _, fun i hi => by simp only [Env.setvs]; rw [if_neg (by omega)], fun _ _ => rfl⟩
theorem Env.setvs_get (ρ : Env) (n : Nat) (us : List Value) (j : Nat) (u : Value) (h : us[j]? = some u) : (ρ.setvs n us).vs (n + j) = u := by
  have := lt_of_get h
  simp only [Env.setvs]
  rw [if_pos (by omega), Nat.add_sub_cancel_left, List.getD_eq_getElem?_getD, h]
  rfl
theorem HRel.add {F : Fr} {ρ : Env} {hp : List Blk} {sl es : List Ent} {w : World} (h : HRel F ρ hp sl w) (k : ∀ e ∈ es, RepC (rdW w) (Gd F ρ hp w) (.sl e.cs) (ρ.vs e.i) (e.x.den ρ.ds)) : HRel F ρ hp (sl ++ es) w :=
  ⟨h.size, h.keep, h.lo, h.npb, h.inj, h.fix, h.has, h.frz, h.rows, fun e he => (List.mem_append.1 he).elim (h.imm e) (k e), h.io⟩
/-- cells of a row that are read -/
theorem readC_ok {rd : Rd} {G : Nat → Prop} {x e : X} {ds : List D} {b : Nat} : ∀ (cts : List CT) (c v o : Nat), (∀ j ct, cts[j]? = some ct → ∃ val, rd b (o + j) = some val ∧ RepC rd G ct val ((x.den ds).cell (e.den ds).int (c + j))) →
    (readC x e c cts v).1.length = cts.length ∧ ∃ us : List Value, us.length = (readC x e c cts v).2.length ∧ ∀ ρ' : Env, ρ'.ds = ds → (∀ j u, us[j]? = some u → ρ'.vs (v + j) = u) →
      (∀ j sv, (readC x e c cts v).1[j]? = some sv → rd b (o + j) = some (sv.den ρ') ∧ sv.isUnd = false) ∧ ∀ en ∈ (readC x e c cts v).2, RepC rd G (.sl en.cs) (ρ'.vs en.i) (en.x.den ρ'.ds)
  | [], c, v, o, h => ⟨rfl, [], rfl, fun ρ' hd hv => ⟨fun j sv hj => by simp [readC] at hj, fun en he => by simp [readC] at he⟩⟩
  | ct :: cts, c, v, o, h => by
    have h0 := h 0 ct rfl
    simp only [Nat.add_zero] at h0
    obtain ⟨val, hv0, hr0⟩ := h0
    have hs : ∀ j ct', cts[j]? = some ct' → ∃ val, rd b (o + 1 + j) = some val ∧ RepC rd G ct' val ((x.den ds).cell (e.den ds).int (c + 1 + j)) := fun j ct' hj => by
      have := h (j + 1) ct' (by simpa using hj)
      rwa [show o + (j + 1) = o + 1 + j by omega, show c + (j + 1) = c + 1 + j by omega] at this
    cases ct with
    | sl cs =>
      obtain ⟨l1, us, l2, k⟩ := readC_ok cts (c + 1) (v + 1) (o + 1) hs
      refine ⟨by simp [readC, l1], val :: us, by simp [readC, l2], fun ρ' hd hv => ?_⟩
      obtain ⟨k1, k2⟩ := k ρ' hd fun j u hj => by
        have := hv (j + 1) u (by simpa using hj)
        rwa [show v + (j + 1) = v + 1 + j by omega] at this
      have hvv : ρ'.vs v = val := hv 0 val rfl
      refine ⟨fun j sv hj => ?_, fun en he => ?_⟩
      · cases j with
        | zero => simp only [readC, List.getElem?_cons_zero, Option.some.injEq] at hj; subst hj; exact ⟨by rw [Nat.add_zero, hv0, SV.den, hvv], rfl⟩
        | succ j => simp only [readC, List.getElem?_cons_succ] at hj; rw [show o + (j + 1) = o + 1 + j by omega]; exact k1 j sv hj
      · simp only [readC, List.mem_cons] at he
        rcases he with rfl | he
        · rw [hvv, hd, xAt_den]; exact hr0
        · exact k2 en he
    | int q =>
      obtain ⟨l1, us, l2, k⟩ := readC_ok cts (c + 1) v (o + 1) hs
      refine ⟨by simp [readC, l1], us, by simp [readC, l2], fun ρ' hd hv => ?_⟩
      obtain ⟨k1, k2⟩ := k ρ' hd hv
      refine ⟨fun j sv hj => ?_, fun en he => k2 en (by simpa [readC] using he)⟩
      cases j with
      | zero => simp only [readC, List.getElem?_cons_zero, Option.some.injEq] at hj; subst hj; simp only [RepC] at hr0; exact ⟨by rw [Nat.add_zero, hv0, hr0, SV.den, hd, xAt_den], rfl⟩
      | succ j => simp only [readC, List.getElem?_cons_succ] at hj; rw [show o + (j + 1) = o + 1 + j by omega]; exact k1 j sv hj
    | bool =>
      obtain ⟨l1, us, l2, k⟩ := readC_ok cts (c + 1) v (o + 1) hs
      refine ⟨by simp [readC, l1], us, by simp [readC, l2], fun ρ' hd hv => ?_⟩
      obtain ⟨k1, k2⟩ := k ρ' hd hv
      refine ⟨fun j sv hj => ?_, fun en he => k2 en (by simpa [readC] using he)⟩
      cases j with
      | zero => simp only [readC, List.getElem?_cons_zero, Option.some.injEq] at hj; subst hj; simp only [RepC] at hr0; exact ⟨by rw [Nat.add_zero, hv0, hr0, SV.den, hd, xAt_den], rfl⟩
      | succ j => simp only [readC, List.getElem?_cons_succ] at hj; rw [show o + (j + 1) = o + 1 + j by omega]; exact k1 j sv hj
    | str =>
      obtain ⟨l1, us, l2, k⟩ := readC_ok cts (c + 1) v (o + 1) hs
      refine ⟨by simp [readC, l1], us, by simp [readC, l2], fun ρ' hd hv => ?_⟩
      obtain ⟨k1, k2⟩ := k ρ' hd hv
      refine ⟨fun j sv hj => ?_, fun en he => k2 en (by simpa [readC] using he)⟩
      cases j with
      | zero => simp only [readC, List.getElem?_cons_zero, Option.some.injEq] at hj; subst hj; simp only [RepC] at hr0; exact ⟨by rw [Nat.add_zero, hv0, hr0, SV.den, hd, xAt_den], rfl⟩
      | succ j => simp only [readC, List.getElem?_cons_succ] at hj; rw [show o + (j + 1) = o + 1 + j by omega]; exact k1 j sv hj
theorem RepR.congr {rd rd' : Rd} {G : Nat → Prop} (h : ∀ b, G b → ∀ o, rd' b o = rd b o) {b : Nat} : ∀ {cs : List CT} {o : Nat} {row : List D}, (∀ j, j < cs.length → rd' b (o + j) = rd b (o + j)) → RepR rd G cs b o row → RepR rd' G cs b o row
  | [], o, row, _, r => by simp only [RepR] at *; exact r
  | c :: cs, o, row, hb, r => by
    simp only [RepR] at *
    obtain ⟨d, row', e, ⟨v, hv, hc⟩, hr⟩ := r
    exact ⟨d, row', e, ⟨v, by have := hb 0 (by simp); simp only [Nat.add_zero] at this; rw [this]; exact hv, RepC.mono (fun b g => ⟨g, h b g⟩) hc⟩, RepR.congr h (fun j hj => by have := hb (j + 1) (by simpa using hj); rwa [show o + (j + 1) = o + 1 + j by omega] at this) hr⟩
theorem RepR.set {rd rd' : Rd} {G : Nat → Prop} (h : ∀ b, G b → ∀ o, rd' b o = rd b o) {b : Nat} {v : Value} {d : D} {ct : CT} (hc : RepC rd' G ct v d) : ∀ {cs : List CT} {o c : Nat} {row : List D}, cs[c]? = some ct → rd' b (o + c) = some v → (∀ j, j < cs.length → j ≠ c → rd' b (o + j) = rd b (o + j)) → RepR rd G cs b o row → RepR rd' G cs b o (row.set c d)
  | [], o, c, row, k, _, _, _ => by simp at k
  | c0 :: cs, o, 0, row, k, hv, hb, r => by
    simp only [RepR] at *
    obtain ⟨d0, row', e, _, hr⟩ := r
    simp at k
    subst k e
    exact ⟨d, row', rfl, ⟨v, hv, hc⟩, RepR.congr h (fun j hj => by have := hb (j + 1) (by simpa using hj) (by omega); rwa [show o + (j + 1) = o + 1 + j by omega] at this) hr⟩
  | c0 :: cs, o, c + 1, row, k, hv, hb, r => by
    simp only [RepR] at *
    obtain ⟨d0, row', e, ⟨u, hu, hcu⟩, hr⟩ := r
    simp at k
    subst e
    refine ⟨d0, row'.set c d, rfl, ⟨u, by have := hb 0 (by simp) (by omega); simp only [Nat.add_zero] at this; rw [this]; exact hu, RepC.mono (fun b g => ⟨g, h b g⟩) hcu⟩, RepR.set h hc k (by rwa [show o + 1 + c = o + (c + 1) by omega]) (fun j hj hne => by have := hb (j + 1) (by simpa using hj) (by omega); rwa [show o + (j + 1) = o + 1 + j by omega] at this) hr⟩
theorem place_inj {i j e c n : Nat} (hj : j < n) (hc : c < n) (h : i * n + j = e * n + c) : i = e ∧ j = c := by
  have key : ∀ {i j e c : Nat}, j < n → i < e → i * n + j = e * n + c → False := by
    intro i j e c hj hlt h
    have := Nat.mul_le_mul_right n (show i + 1 ≤ e from hlt)
    rw [Nat.succ_mul] at this
    omega
  rcases Nat.lt_trichotomy i e with q | q | q
  · exact (key hj q h).elim
  · subst q; omega
  · exact (key hc q h.symm).elim
section
variable {M : Models} {N : Nat} {P : Program} {F : Fr}
/-- a cell of an owned slice is written -/
theorem put_ok {ρ : Env} {hp : List Blk} {sl : List Ent} {w : World} (hH : HRel F ρ hp sl w) {i j : Nat} {cs : List CT} {l e y : X} {o : Nat} {ct : CT} {v : Value} (hm : hp[j]? = some (.rows cs l i)) (h0 : 0 ≤ (e.den ρ.ds).int) (h1 : (e.den ρ.ds).int < (l.den ρ.ds).len) (hc : cs[o]? = some ct) (hv : scalarV v = true)
    (hct : RepC (rdW w) (Gd F ρ hp w) ct v (y.den ρ.ds)) :
    ∃ a, (SV.el i e cs.length o).den ρ = .pointer (some a) ∧ (store a v).run P w = .ok () (w.setCell a v) ∧ HRel F ρ (hp.set j (.rows cs (.put l e o y) i)) sl (w.setCell a v) ∧ (w.setCell a v).heap.size = w.heap.size ∧ (∀ b, Gd F ρ hp w b → Gd F ρ (hp.set j (.rows cs (.put l e o y) i)) (w.setCell a v) b ∧ ∀ o, rdW (w.setCell a v) b o = rdW w b o) := by
  have hlen : (l.den ρ.ds).len ≤ (l.den ρ.ds).rows.length := by unfold D.len; omega
  rcases hH.rows j _ _ i hm with ⟨a, q1, q2⟩ | ⟨b, cp, q1, q2, q3, q4, q5, q6, q7⟩
  · rw [q2] at hlen; simp at hlen; omega
  have hlt : (e.den ρ.ds).int.toNat < (l.den ρ.ds).rows.length := by omega
  have hoc := lt_of_get hc
  have ha : (SV.el i e cs.length o).den ρ = .pointer (some ⟨b, (e.den ρ.ds).int.toNat * cs.length + o, none⟩) := by
    simp only [SV.den, q1, addr_add, Nat.zero_add]
  have hpl : (e.den ρ.ds).int.toNat * cs.length + o < cp * cs.length := by
    have := Nat.mul_le_mul_right cs.length (show (e.den ρ.ds).int.toNat + 1 ≤ cp by omega)
    rw [Nat.succ_mul] at this
    omega
  have hroom : roomAt (ρ.vs i) = some b := by rw [q1]; obtain ⟨c, rfl⟩ := Nat.exists_eq_succ_of_ne_zero (Nat.pos_iff_ne_zero.1 q2); rfl
  have hcell := q5 _ hpl
  obtain ⟨u, hu⟩ := Option.isSome_iff_exists.1 hcell
  have other : ∀ b' o', ¬ (b' = b ∧ o' = (e.den ρ.ds).int.toNat * cs.length + o) → rdW (w.setCell ⟨b, (e.den ρ.ds).int.toNat * cs.length + o, none⟩ v) b' o' = rdW w b' o' := fun b' o' hne =>
    World.cell?_setCell_other _ _ _ _ (fun e => by injection e with e1 e2; exact hne ⟨e1.symm, e2.symm⟩)
  have hG0 : ∀ b', Gd F ρ hp w b' → ∀ o', rdW (w.setCell ⟨b, (e.den ρ.ds).int.toNat * cs.length + o, none⟩ v) b' o' = rdW w b' o' := fun b' g o' => other b' o' fun ⟨h, _⟩ => g.2.2 j (by rw [blkAt_rows hm, h]; exact hroom)
  have hjl := lt_of_get hm
  have at' : ∀ k, blkAt ρ (hp.set j (.rows cs (.put l e o y) i)) k = blkAt ρ hp k := by
    intro k
    by_cases ek : k = j
    · subst ek
      rw [blkAt_rows hm]
      simp only [blkAt, List.getElem?_set_self hjl, blkOf]
    · simp only [blkAt, List.getElem?_set_ne (fun x => ek x.symm)]
  refine ⟨_, ha, store_step hcell (q6 _) hv, ?_, by simp, fun b' g => ⟨⟨g.1, by simpa using g.2.1, fun k q => g.2.2 k (by rwa [at'] at q)⟩, hG0 b' g⟩⟩
  refine hH.chg (by rw [blkAt_rows hm]; exact hroom) (by simp) (fun b' hb => Below.heap_setCell _ _ _ _ (fun e => hb e)) ⟨rfl, rfl, rfl⟩ (by simpa [blkOf] using hroom) (fun _ _ _ _ => hH.npb j _ _ i b hm (by rw [blkAt_rows hm]; exact hroom)) ?_
  have er : (X.den ρ.ds (.put l e o y)).rows = (l.den ρ.ds).rows.set (e.den ρ.ds).int.toNat (((l.den ρ.ds).rows.getD (e.den ρ.ds).int.toNat []).set o (y.den ρ.ds)) := by simp only [X.den, D.put, D.rows]
  simp only [BlkOk, er]
  refine .inr ⟨b, cp, by rw [q1, List.length_set], q2, by rwa [List.length_set], q4, fun o' ho' => ?_, fun o' => by rw [World.frozen?_setCell]; exact q6 o', fun i' row hi => ?_⟩
  · by_cases eo : o' = (e.den ρ.ds).int.toNat * cs.length + o
    · subst eo; rw [World.cell?_setCell_same _ _ _ hu]; rfl
    · have := other b o' (fun ⟨_, h⟩ => eo h)
      simp only [rdW] at this
      rw [this]; exact q5 o' ho'
  · have hG : ∀ b', Gd F ρ hp w b' → ∀ o', rdW (w.setCell ⟨b, (e.den ρ.ds).int.toNat * cs.length + o, none⟩ v) b' o' = rdW w b' o' := fun b' g o' => other b' o' fun ⟨h, _⟩ => g.2.2 j (by rw [blkAt_rows hm, h]; exact hroom)
    by_cases ei : i' = (e.den ρ.ds).int.toNat
    · subst ei
      rw [List.getElem?_set_self hlt] at hi
      injection hi with hi
      subst hi
      have hrow := q7 (e.den ρ.ds).int.toNat _ (List.getElem?_eq_getElem hlt)
      rw [List.getD_eq_getElem?_getD, List.getElem?_eq_getElem hlt, Option.getD_some]
      exact RepR.set hG (RepC.mono (fun b' g => ⟨g, hG b' g⟩) hct) hc (World.cell?_setCell_same _ _ _ hu) (fun j' hj' hne => other b _ fun ⟨_, h⟩ => hne (by omega)) hrow
    · rw [List.getElem?_set_ne (fun h => ei h.symm)] at hi
      exact RepR.congr hG (fun j' hj' => other b _ fun ⟨_, h⟩ => ei (place_inj hj' hoc h).1) (q7 i' row hi)
theorem put_len {ρ : List D} (l e y : X) (o : Nat) : (X.den ρ (.put l e o y)).len = (X.den ρ l).len := by simp only [X.den, D.put, D.len, D.rows, List.length_set]
/-- cells of an owned row that are written one after the other -/
theorem putN_ok {ρ : Env} {e : X} {cs : List CT} {i j b E : Nat} : ∀ (vals : List Value) (xs : List X) {hp : List Blk} {sl : List Ent} {w : World} {l : X} (o k : Nat), HRel F ρ hp sl w → hp[j]? = some (.rows cs l i) → 0 ≤ (e.den ρ.ds).int → (e.den ρ.ds).int < (l.den ρ.ds).len →
    (∃ n cp, ρ.vs i = .slice (some ⟨b, 0, none⟩) n cp) → E + k = (e.den ρ.ds).int.toNat * cs.length + o → xs.length = vals.length →
    (∀ q v, vals[q]? = some v → scalarV v = true ∧ ∃ ct x, cs[o + q]? = some ct ∧ xs[q]? = some x ∧ RepC (rdW w) (Gd F ρ hp w) ct v (x.den ρ.ds)) →
    ∃ w', (storeCells ⟨b, E, none⟩ vals k).run P w = .ok () w' ∧ HRel F ρ (hp.set j (.rows cs (putN l e o xs) i)) sl w' ∧ w'.heap.size = w.heap.size
  | [], xs, hp, sl, w, l, o, k, hH, hm, _, _, _, _, hl, _ => by
    have : xs = [] := List.length_eq_zero_iff.1 (by simpa using hl)
    subst this
    refine ⟨w, rfl, ?_, rfl⟩
    have e2 : hp.set j (Blk.rows cs (putN l e o []) i) = hp := by
      apply List.ext_getElem?
      intro q
      rw [List.getElem?_set]
      split
      · rename_i h
        subst h
        rw [if_pos (lt_of_get hm), hm]
        rfl
      · rfl
    rw [e2]
    exact hH
  | v :: vals, [], hp, sl, w, l, o, k, _, _, _, _, _, _, hl, _ => by simp at hl
  | v :: vals, x :: xs, hp, sl, w, l, o, k, hH, hm, h0, h1, hb, hE, hl, hv => by
    obtain ⟨n, cp, hbv⟩ := hb
    obtain ⟨sc, ct, x', k1, k2, k3⟩ := hv 0 v rfl
    simp only [List.getElem?_cons_zero, Option.some.injEq] at k2
    subst k2
    obtain ⟨a, a1, a2, a3, a4, a5⟩ := put_ok (P := P) hH hm h0 h1 (by simpa using k1) sc k3
    have ea : a = ⟨b, E + k, none⟩ := by
      simp only [SV.den, hbv, addr_add, Nat.zero_add, Value.pointer.injEq, Option.some.injEq] at a1
      rw [← a1, hE]
    subst ea
    obtain ⟨w', r1, r2, r3⟩ := putN_ok (b := b) (E := E) vals xs (o + 1) (k + 1) a3 (List.getElem?_set_self (lt_of_get hm)) h0 (by rw [put_len]; exact h1) ⟨n, cp, hbv⟩ (by omega) (by simpa using hl) fun q u hq => by
      obtain ⟨sc', ct', y', m1, m2, m3⟩ := hv (q + 1) u (by simpa using hq)
      exact ⟨sc', ct', y', by rwa [show o + 1 + q = o + (q + 1) by omega], by simpa using m2, RepC.mono a5 m3⟩
    rw [List.set_set] at r2
    refine ⟨w', ?_, r2, by rw [r3, a4]⟩
    simp only [storeCells, Sem.run_bind, addr_add, a2, Result.andThen_ok, r1]
theorem argXs_each {ρ : Env} {st : St} {w : World} (hH : HRel F ρ st.hp st.sl w) : ∀ {cs : List CT} {l : List SV} {xs : List X}, argXs st false cs l = some xs → xs.length = l.length ∧ ∀ (q : Nat) (x : SV), l[q]? = some x → x.isUnd = false ∧ ∃ ct e, cs[q]? = some ct ∧ xs[q]? = some e ∧ RepC (rdW w) (Gd F ρ st.hp w) ct (x.den ρ) (e.den ρ.ds)
  | [], [], xs, h => by
    simp only [argXs, Option.some.injEq] at h
    subst h
    exact ⟨rfl, fun q x e => by simp at e⟩
  | c :: cs, x :: l, xs, h => by
    simp only [argXs] at h
    split at h
    · rename_i a r ha hr
      injection h with h
      subst h
      obtain ⟨e1, e2⟩ := argXs_each hH hr
      obtain ⟨f1, f2⟩ := argX_ok hH ha
      refine ⟨by simp [e1], fun q y hq => ?_⟩
      cases q with
      | zero => simp at hq; subst hq; exact ⟨f2, c, a, rfl, rfl, f1⟩
      | succ q =>
        obtain ⟨g1, ct, e, g2, g3, g4⟩ := e2 q y (by simpa using hq)
        exact ⟨g1, ct, e, by simpa using g2, by simpa using g3, g4⟩
    · cases h
  | [], _ :: _, _, h => by simp [argXs] at h
  | _ :: _, [], _, h => by simp [argXs] at h
theorem scalar_rep {rd : Rd} {G : Nat → Prop} {c : CT} {v : Value} {d : D} (h : RepC rd G c v d) : scalarV v = true := by
  cases c <;> simp only [RepC] at h
  all_goals first
    | (subst h; rfl)
    | (obtain ⟨a, c, rfl, _⟩ := h; rfl)
theorem storeR_ok {ρ : Env} {st st' : St} {sv : SV} {ds' : List D} {w : World} (hP : PRel ρ.ds st) (hH : HRel F ρ st.hp st.sl w) {i n o : Nat} {e : X} {l : List SV} (h : (storeR st i e n o l).eval M N ρ.ds = some ((sv, st'), ds')) :
    sv = .con undef ∧ ds' = ρ.ds ∧ (∀ x ∈ l, x.isUnd = false) ∧ ∃ a w', (SV.el i e n o).den ρ = .pointer (some a) ∧ (storeCells a (SV.dens ρ l) 0).run P w = .ok () w' ∧ Stp F ρ ρ st st' w w' := by
  unfold storeR at h
  split at h
  · rename_i j cs x hf
    obtain ⟨m, hm0, hm⟩ := findR_spec hf
    obtain rfl : j = m := by omega
    split at h
    · rename_i xs hxs
      split at h
      · rename_i hc
        obtain ⟨rfl, hc2⟩ := hc
        obtain ⟨hw, s1, p, lk, h⟩ := tNeed_some hP h
        have hw := within_den hP hw
        rw [xLen_den] at hw
        simp only [T.eval, Option.some.injEq, Prod.mk.injEq] at h
        obtain ⟨⟨rfl, rfl⟩, rfl⟩ := h
        obtain ⟨e1, e2⟩ := argXs_each hH hxs
        rcases hH.rows j _ _ i hm with ⟨a, q1, q2⟩ | ⟨b, cp, q1, q2, _⟩
        · have : (X.den ρ.ds x).len = 0 := by simp only [D.len, q2, List.length_nil]; omega
          omega
        · have hnu : ∀ y ∈ l, y.isUnd = false := fun y hy => by
            obtain ⟨q, hq⟩ := List.mem_iff_getElem?.1 hy
            exact (e2 q y hq).1
          obtain ⟨w', r1, r2, r3⟩ := putN_ok (P := P) (b := b) (E := (X.den ρ.ds e).int.toNat * cs.length + o) (SV.dens ρ l) xs o 0 hH hm hw.1 hw.2 ⟨_, _, q1⟩ (by omega) (by rw [dens_len]; exact e1) fun q v hv => by
            rw [dens_get, Option.map_eq_some_iff] at hv
            obtain ⟨y, hy, rfl⟩ := hv
            obtain ⟨_, ct, e', g1, g2, g3⟩ := e2 q y hy
            refine ⟨scalar_rep g3, ct, e', ?_, g2, g3⟩
            rw [List.getElem?_take_of_lt (lt_of_get hy), List.getElem?_drop] at g1
            exact g1
          refine ⟨rfl, rfl, hnu, ⟨b, (X.den ρ.ds e).int.toNat * cs.length + o, none⟩, w', by simp only [SV.den, q1, addr_add, Nat.zero_add], r1, Ag.refl _ _ _ _, ⟨p.nd, p.bd, p.kn⟩, by simp only [lk.hp, lk.sl]; exact r2, lk.tm, by rw [lk.nd]; exact Nat.le_refl _, by rw [lk.nv]; exact Nat.le_refl _, by simp [St.nh, lk.hp], fun _ _ _ => rfl, by rw [r3]; exact Nat.le_refl _⟩
      · simp [T.eval] at h
    · simp [T.eval] at h
  · simp [T.eval] at h
theorem repR_of {rd : Rd} {G : Nat → Prop} {b : Nat} : ∀ {cs : List CT} {row : List D} {o : Nat}, row.length = cs.length → (∀ (j : Nat) (ct : CT), cs[j]? = some ct → ∃ v, rd b (o + j) = some v ∧ RepC rd G ct v (row.getD j (.i 0))) → RepR rd G cs b o row
  | [], row, o, hl, _ => by simp only [RepR]; exact List.length_eq_zero_iff.1 hl
  | c :: cs, [], o, hl, _ => by simp at hl
  | c :: cs, d :: row, o, hl, h => by
    simp only [RepR]
    obtain ⟨v, h1, h2⟩ := h 0 c rfl
    refine ⟨d, row, rfl, ⟨v, h1, by simpa using h2⟩, repR_of (by simpa using hl) fun j ct hj => ?_⟩
    obtain ⟨v', h3, h4⟩ := h (j + 1) ct (by simpa using hj)
    exact ⟨v', by rwa [show o + 1 + j = o + (j + 1) by omega], by simpa using h4⟩
theorem freeze_tm : ∀ {is : List Nat} {st : St}, (st.freeze is).tm = st.tm
  | [], st => rfl
  | i :: is, st => by
    simp only [St.freeze]
    split
    · rw [freeze_tm]
    · exact freeze_tm
theorem evalO_freeze {is : List Nat} {st : St} (x : Operand) : evalO (st.freeze is) x = evalO st x := by cases x <;> simp [evalO, freeze_tm]
theorem Stp.after {ρ ρ' : Env} {st st0 st' : St} {w w' : World} (S0 : Stp F ρ ρ st st0 w w) (S : Stp F ρ ρ' st0 st' w w') : Stp F ρ ρ' st st' w w' :=
  ⟨S0.ag.trans S.ag S0.nd S0.nv S0.nh, S.p, S.h, S.tm.trans S0.tm, Nat.le_trans S0.nd S.nd, Nat.le_trans S0.nv S.nv, Nat.le_trans S0.nh S.nh, fun x hx hu => S.keep x (by rw [S0.tm]; exact hx) hu, S.size⟩
theorem Opd.after {ρ : Env} {st st0 st' : St} {sv : SV} {ds' : List D} {o : Oper} {a : Act} {w : World} (S0 : Stp F ρ ρ st st0 w w) (h : Opd P F ρ st0 sv st' ds' o a w) : Opd P F ρ st sv st' ds' o a w := by
  obtain ⟨ρ', nx, w', h1, h2, h3, S⟩ := h
  exact ⟨ρ', nx, w', h1, h2, h3, S0.after S⟩
theorem eval_map {st : St} {ρ : Env} {a : Act} (ha : ∀ x, (evalO st x).isUnd = false → a.eval x = (evalO st x).den ρ) {l : Array Operand} (h : (l.toList.map (evalO st)).all (fun x => !x.isUnd) = true) : l.map a.eval = (SV.dens ρ (l.toList.map (evalO st))).toArray := by
  apply Array.ext'
  simp only [Array.toList_map, dens_eq, List.map_map]
  apply List.map_congr_left
  intro x hx
  simp only [List.all_eq_true, List.mem_map, forall_exists_index, and_imp, forall_apply_eq_imp_iff₂, Bool.not_eq_true'] at h
  exact ha x (h x hx)
theorem told_at {ρ : Env} {st : St} {w : World} (hH : HRel F ρ st.hp st.sl w) {i : Nat} {cs : List CT} {x e : X} {r : Option Nat} (he : st.ent i = some (cs, x, r)) (h0 : 0 ≤ (e.den ρ.ds).int) (h1 : (e.den ρ.ds).int < ((xLen x).den ρ.ds).int) :
    ∃ b o c row, ρ.vs i = .slice (some ⟨b, o, none⟩) (x.den ρ.ds).rows.length c ∧ (e.den ρ.ds).int.toNat < (x.den ρ.ds).rows.length ∧ (x.den ρ.ds).rows[(e.den ρ.ds).int.toNat]? = some row ∧ RepR (rdW w) (Gd F ρ st.hp w) cs b (o + (e.den ρ.ds).int.toNat * cs.length) row := by
  have T := hH.told he
  have tl := T.len
  obtain ⟨a, c, s1, s2, s3, s4⟩ := T.sh
  rw [xLen_den, tl] at h1
  have hlt : (e.den ρ.ds).int.toNat < (x.den ρ.ds).rows.length := by omega
  rcases s4 with s4 | ⟨b, o, rfl, hr⟩
  · omega
  · exact ⟨b, o, c, _, s1, hlt, List.getElem?_eq_getElem hlt, hr _ _ (List.getElem?_eq_getElem hlt)⟩
theorem sliceV_ok {ρ : Env} {st st' : St} {sv : SV} {ds' : List D} {a : Act} {w : World} (hP : PRel ρ.ds st) (hH : HRel F ρ st.hp st.sl w) (ha : ∀ x, (evalO st x).isUnd = false → a.eval x = (evalO st x).den ρ) {t : TypeId} {x : Operand} {lo hi mx : Option Operand} {i : Nat} (ex : a.eval x = ρ.vs i)
    (h : (sliceV P st t i lo hi mx).eval M N ρ.ds = some ((sv, st'), ds')) {dst ty pos after guard} : Opd P F ρ st sv st' ds' (Oper.mk dst (.slice t x lo hi mx) ty pos after guard) a w := by
  have ev : ∀ {x : Operand} {y : SV}, evalO st x = y → y.isUnd = false → a.eval x = y.den ρ := fun hx hu => by rw [ha _ (by rw [hx]; exact hu), hx]
  simp only [sliceV] at h
  split at h
  · rename_i elem cs y lo' hi' hu he hlo hhi
    split at h
    · rename_i n hn
      split at h
      · rename_i hc
        obtain ⟨hc1, hc2, hc3⟩ := hc
        simp only [Bool.and_eq_true] at hc3
        have S := scoped_iff hc2
        obtain ⟨hw, s1, p, l, h⟩ := tNeed_some hP h
        simp only [T.eval, Option.some.injEq, Prod.mk.injEq] at h
        obtain ⟨⟨rfl, rfl⟩, rfl⟩ := h
        rw [bAnd_den, bAnd_den, bLe_den hP.bd, bLe_den hP.bd, bLe_den hP.bd] at hw
        simp only [Bool.and_eq_true, decide_eq_true_eq] at hw
        obtain ⟨w1, w2, w3⟩ := hw
        have w1 : 0 ≤ (X.den ρ.ds lo').int := by simpa [X.den, D.int] using w1
        have T := hH.told he
        have tl := T.len
        rw [xLen_den, tl] at w3
        obtain ⟨av, c, t1, t2, t3, t4⟩ := T.sh
        generalize hR : (X.den ρ.ds y).rows = R at *
        obtain ⟨H, hH1, hH2⟩ : ∃ H : Nat, (X.den ρ.ds (if hi.isSome = true then hi' else xLen y)).int = H ∧ H ≤ R.length := ⟨(X.den ρ.ds (if hi.isSome = true then hi' else xLen y)).int.toNat, by omega, by omega⟩
        obtain ⟨l0, hl0⟩ : ∃ l0 : Nat, (X.den ρ.ds lo').int = l0 := ⟨(X.den ρ.ds lo').int.toNat, by omega⟩
        have hlH : l0 ≤ H := by omega
        have rows' : (X.den ρ.ds (if lo.isSome = true then (if hi.isSome = true then y.take hi' else y).drop lo' else (if hi.isSome = true then y.take hi' else y))).rows = (R.take H).drop l0 := by
          have e1 : (X.den ρ.ds (if hi.isSome = true then y.take hi' else y)).rows = R.take H := by
            split
            · rename_i q
              rw [if_pos q] at hH1
              simp only [X.den, D.rows] at hR ⊢
              simp only [hH1, Int.toNat_natCast]
              rw [← hR]
            · rename_i q
              rw [if_neg q, xLen_den, tl] at hH1
              rw [hR, List.take_of_length_le (by omega)]
          split
          · show List.drop (X.den ρ.ds lo').int.toNat (X.den ρ.ds (if hi.isSome = true then y.take hi' else y)).rows = _
            rw [e1, hl0, Int.toNat_natCast]
          · rename_i q
            have : l0 = 0 := by
              cases lo with
              | some x => exact absurd rfl q
              | none =>
                simp only [Option.map_none, boundX, Option.some.injEq] at hlo
                subst hlo
                simp only [X.den, D.int] at hl0
                omega
            rw [e1, this, List.drop_zero]
        have blo : (match lo.map a.eval with | some v => Instr.sliceBound v H .sliceB | none => pure 0).run P w = .ok l0 w := by
          cases lo with
          | none =>
            simp only [Option.map_none, boundX, Option.some.injEq] at hlo
            subst hlo
            simp only [X.den, D.int] at hl0
            have : l0 = 0 := by omega
            subst this
            rfl
          | some x =>
            simp only [Option.map_some] at hlo ⊢
            cases q : evalO st x <;> rw [q] at hlo <;> simp only [boundX] at hlo <;> try cases hlo
            rw [ev q rfl]
            simp only [SV.den, Instr.sliceBound, asIntOf, Sem.run_bind, Sem.run_pure, Result.andThen_ok, hl0]
            rw [if_pos ⟨by omega, by omega⟩]
            simp
        have bhi : (match hi.map a.eval with | some v => Instr.sliceBound v c .sliceAcap | none => pure R.length).run P w = .ok H w := by
          cases hi with
          | none =>
            simp only [Option.isSome_none, Bool.false_eq_true, if_false, xLen_den, tl] at hH1
            simp only [Option.map_none, Sem.run_pure]
            congr 1
            omega
          | some x =>
            simp only [Option.isSome_some, if_true] at hH1
            simp only [Option.map_some] at hhi ⊢
            cases q : evalO st x <;> rw [q] at hhi <;> simp only [boundX] at hhi <;> try cases hhi
            rw [ev q rfl]
            simp only [SV.den, Instr.sliceBound, asIntOf, Sem.run_bind, Sem.run_pure, Result.andThen_ok, hH1]
            rw [if_pos ⟨by omega, by omega⟩]
            simp
        have run : (execOp a.eval ⟨dst, .slice t x lo hi none, ty, pos, after, guard⟩).run P w = .ok (.value (.slice (if c = l0 then av else av.map (·.add (l0 * n))) (H - l0) (c - l0))) w := by
          rw [t1] at ex
          simp only [execOp, Instr.sliceAt, Sem.run_bind, under_run hu, Result.andThen_ok, ex, Instr.slice, Option.map_none, Instr.sliceBounds, Sem.run_pure]
          cases hlo' : lo.map a.eval <;> cases hhi' : hi.map a.eval <;> rw [hlo'] at blo <;> rw [hhi'] at bhi <;> simp only [Sem.run_pure, Sem.run_bind, Result.andThen_ok, Result.ok.injEq, and_true, Option.isSome_none, Bool.false_eq_true, if_false, if_true] at blo bhi ⊢
          · subst blo bhi; simp only [sizeOf_run hn, Result.andThen_ok, Sem.run_pure]
          · subst blo; simp only [bhi, Result.andThen_ok, sizeOf_run hn, Sem.run_pure, Sem.run_bind]
          · subst bhi; simp only [blo, Result.andThen_ok, sizeOf_run hn, Sem.run_pure, Sem.run_bind]
          · simp only [bhi, blo, Result.andThen_ok, sizeOf_run hn, Sem.run_pure, Sem.run_bind]
        have ag := Ag.setv st.nd st.nv st.nh ρ (.slice (if c = l0 then av else av.map (·.add (l0 * n))) (H - l0) (c - l0))
        have evs := Env.setv_same ρ st.nv (.slice (if c = l0 then av else av.map (·.add (l0 * n))) (H - l0) (c - l0))
        refine ⟨ρ.setv st.nv (.slice (if c = l0 then av else av.map (·.add (l0 * n))) (H - l0) (c - l0)), _, w, rfl, run, .inl ⟨_, rfl, fun _ => by rw [l.nv]; exact evs.symm⟩, ag, ⟨p.nd, p.bd, p.kn⟩, ?_, l.tm, by rw [l.nd]; exact Nat.le_refl _, by simp only [l.nv]; omega, by simp only [St.nh, l.hp]; exact Nat.le_refl _, Ag.keep S ag, Nat.le_refl _⟩
        simp only [l.hp, l.sl, l.nv]
        refine (hH.ag S.hp S.sl ag).add fun e hem => ?_
        simp only [List.mem_singleton] at hem
        subst hem
        rw [Gd.ag S.hp ag]
        simp only [RepC]
        have hr' : (X.den (ρ.setv st.nv (.slice (if c = l0 then av else av.map (·.add (l0 * n))) (H - l0) (c - l0))).ds (if lo.isSome = true then (if hi.isSome = true then y.take hi' else y).drop lo' else (if hi.isSome = true then y.take hi' else y))).rows = (R.take H).drop l0 := rows'
        rw [evs, hr']
        have hlen : ((R.take H).drop l0).length = H - l0 := by simp; omega
        refine ⟨_, c - l0, by rw [hlen], by omega, by omega, ?_⟩
        rw [hlen]
        by_cases hz : H - l0 = 0
        · exact .inl hz
        · refine .inr ?_
          rcases t4 with t4 | ⟨b, o, rfl, hr⟩
          · omega
          · have hgd : cs = [] ∨ Gd F ρ st.hp w b := by
              unfold St.ent at he
              split at he
              · simp at he
              · split at he
                · rename_i en hf
                  simp only [Option.some.injEq, Prod.mk.injEq, and_true] at he
                  obtain ⟨rfl, rfl⟩ := he
                  have hm := List.mem_of_find?_eq_some hf
                  have hi2 := List.find?_some hf
                  simp only [beq_iff_eq] at hi2
                  subst hi2
                  have k := hH.imm en hm
                  simp only [RepC, hR] at k
                  obtain ⟨a2, c2, k1, k2, k3, k4⟩ := k
                  rw [t1] at k1
                  injection k1 with k1 _ k1c
                  rcases k4 with k4 | ⟨b2, o2, k5, g, _⟩
                  · omega
                  · rw [k5] at k1
                    injection k1 with k1
                    injection k1 with k1
                    subst k1
                    exact g
                · cases he
            refine ⟨b, o + l0 * n, ?_, hgd, fun i' row hi3 => ?_⟩
            · rw [if_neg (by omega)]
              simp only [Option.map_some, addr_add]
            · rw [List.getElem?_drop, List.getElem?_take] at hi3
              split at hi3
              · have := hr (l0 + i') row hi3
                rwa [hc1, show o + l0 * cs.length + i' * cs.length = o + (l0 + i') * cs.length by rw [Nat.add_mul, Nat.add_assoc]]
              · cases hi3
      · simp [T.eval] at h
    · simp [T.eval] at h
  · simp [T.eval] at h
theorem sliceO_ok {ρ : Env} {st st' : St} {sv : SV} {ds' : List D} {a : Act} {w : World} (hP : PRel ρ.ds st) (hH : HRel F ρ st.hp st.sl w) (ha : ∀ x, (evalO st x).isUnd = false → a.eval x = (evalO st x).den ρ) {t : TypeId} {x hi : Operand} {i j : Nat} {cs : List CT} {y : X} (hf : findR i st.hp 0 = some (j, cs, y)) (ex : a.eval x = ρ.vs i)
    (h : (sliceO P st t j cs y hi).eval M N ρ.ds = some ((sv, st'), ds')) {dst ty pos after guard} : Opd P F ρ st sv st' ds' (Oper.mk dst (.slice t x none (some hi) none) ty pos after guard) a w := by
  unfold sliceO at h
  split at h
  · rename_i elem k h' hu hq
    split at h
    · rename_i n hn
      split at h
      · rename_i hc
        obtain ⟨rfl, hc2⟩ := hc
        obtain ⟨m, hm0, hm⟩ := findR_spec hf
        obtain rfl : j = m := by omega
        have hO := hH.rows j _ _ i hm
        have tl := hO.told.len
        obtain ⟨hw, s1, p, l, h⟩ := tNeed_some hP h
        rw [bAnd_den, bLe_den hP.bd, bLe_den hP.bd] at hw
        simp only [Bool.and_eq_true, decide_eq_true_eq] at hw
        obtain ⟨w1, w2⟩ := hw
        have w1 : 0 ≤ (X.den ρ.ds h').int := by simpa [X.den, D.int] using w1
        rw [xLen_den, tl] at w2
        obtain ⟨H, hH1⟩ : ∃ H : Nat, (X.den ρ.ds h').int = H := ⟨(X.den ρ.ds h').int.toNat, by omega⟩
        rw [hH1] at w2
        have eh : a.eval hi = .int k H := by rw [ha hi (by rw [hq]; rfl), hq, SV.den, hH1]
        have run : ∀ (av : Option Addr) (len cap : Nat), ρ.vs i = .slice av len cap → H ≤ cap → (execOp a.eval (Oper.mk dst (.slice t x none (some hi) none) ty pos after guard)).run P w = .ok (.value (.slice (if cap = 0 then av else av.map (·.add 0)) H cap)) w := by
          intro av len cap e hcap
          rw [e] at ex
          simp only [execOp, Instr.sliceAt, Sem.run_bind, under_run hu, Result.andThen_ok, ex, Instr.slice, Option.map_none, Option.map_some, Instr.sliceBounds, Sem.run_pure, eh, Instr.sliceBound, asIntOf]
          rw [if_pos ⟨by omega, by omega⟩]
          simp only [Sem.run_bind, Sem.run_pure, Result.andThen_ok, sizeOf_run hn, Int.toNat_natCast, Nat.zero_mul, Nat.sub_zero]
        have fin : ∀ v, (execOp a.eval (Oper.mk dst (.slice t x none (some hi) none) ty pos after guard)).run P w = .ok (.value v) w → (∀ b, roomAt v = some b → roomAt (ρ.vs i) = some b) → Owns w (Gd F ρ st.hp w) cs v ((X.den ρ.ds y).rows.take H) → Opd P F ρ st sv st' ds' (Oper.mk dst (.slice t x none (some hi) none) ty pos after guard) a w := by
          intro v hr hb ho
          have hm' : s1.hp[j]? = some (.rows cs y i) := by rw [l.hp]; exact hm
          obtain ⟨u1, ρ', d1, d2, S⟩ := renew_ok p (by rw [l.hp, l.sl]; exact hH) hm' h (Nat.le_refl _) (fun _ _ _ => rfl) (Io.refl _) (fun b e => .inl (hb b e)) (by rw [l.hp, xTake_den, hH1, Int.toNat_natCast]; exact ho)
          exact ⟨ρ', _, w, d1, hr, .inl ⟨_, rfl, fun _ => d2.symm⟩, S.likeL l⟩
        rcases hO with ⟨av, q1, q2⟩ | ⟨b, cp, q1, q2, q3, q4, q5, q6, q7⟩
        · rw [q2] at w2
          have h0 : H = 0 := by simpa using w2
          refine fin _ (run av 0 0 q1 (by omega)) (fun b hb => by simp [roomAt] at hb) (.inl ⟨av, by rw [h0]; rfl, by rw [q2]; simp⟩)
        · have e0 : (if cp = 0 then (some ⟨b, 0, none⟩ : Option Addr) else (some ⟨b, 0, none⟩ : Option Addr).map (·.add 0)) = some ⟨b, 0, none⟩ := by
            split
            · rfl
            · simp only [Option.map_some, addr_add]
          have r := run _ _ cp q1 (by omega)
          rw [e0] at r
          refine fin _ r (fun b' hb => ?_) (.inr ⟨b, cp, ?_, q2, ?_, q4, q5, q6, fun i' row hi' => ?_⟩)
          · rw [q1]
            obtain ⟨c, rfl⟩ := Nat.exists_eq_succ_of_ne_zero (Nat.pos_iff_ne_zero.1 q2)
            exact hb
          · rw [List.length_take, Nat.min_eq_left (by omega)]
          · rw [List.length_take]; omega
          · rw [List.getElem?_take] at hi'
            split at hi'
            · exact q7 i' row hi'
            · cases hi'
      · simp [T.eval] at h
    · simp [T.eval] at h
  · simp [T.eval] at h
theorem intsX_ok {k : IntKind} : ∀ {cs : List SV} {r : List (List X)}, intsX k cs = some r → ∀ (j : Nat) (x : SV), cs[j]? = some x → ∃ y, x = .int k y ∧ r[j]? = some [y]
  | [], r, h, j, x, hj => by simp at hj
  | c :: cs, r, h, j, x, hj => by
    cases c <;> simp only [intsX] at h <;> try cases h
    rename_i k' y
    split at h
    · rename_i e
      subst e
      rw [Option.map_eq_some_iff] at h
      obtain ⟨r', hr, rfl⟩ := h
      cases j with
      | zero => simp at hj; subst hj; exact ⟨y, rfl, rfl⟩
      | succ j => simp at hj; simpa using intsX_ok hr j x hj
    · cases h
theorem boolsX_ok : ∀ {cs : List SV} {r : List (List X)}, boolsX cs = some r → ∀ (j : Nat) (x : SV), cs[j]? = some x → ∃ y, x = .bool y ∧ r[j]? = some [y]
  | [], r, h, j, x, hj => by simp at hj
  | c :: cs, r, h, j, x, hj => by
    cases c <;> simp only [boolsX] at h <;> try cases h
    rename_i y
    rw [Option.map_eq_some_iff] at h
    obtain ⟨r', hr, rfl⟩ := h
    cases j with
    | zero => simp at hj; subst hj; exact ⟨y, rfl, rfl⟩
    | succ j => simp at hj; simpa using boolsX_ok hr j x hj
theorem at_rows {ρ : List D} {r : List (List X)} {e y : X} {j : Nat} (he : (e.den ρ).int = j) (h : r[j]? = some [y]) : X.den ρ (.at (.rows r) e 0) = y.den ρ := by
  simp only [X.den, D.cell, D.rows, he, Int.toNat_natCast, xdenss_eq, List.getD_eq_getElem?_getD, List.getElem?_map, h, Option.map_some, Option.getD_some, X.dens, List.getElem?_cons_zero]
theorem pelS_ok {ρ : Env} {e : X} {cs : List SV} {v x : SV} {j : Nat} (h : pelS e cs = some v) (he : (e.den ρ.ds).int = j) (hj : cs[j]? = some x) : x.den ρ = v.den ρ ∧ x.isUnd = false := by
  unfold pelS at h
  split at h
  · rw [Option.map_eq_some_iff] at h
    obtain ⟨r, hr, rfl⟩ := h
    obtain ⟨y, rfl, h2⟩ := intsX_ok hr j x hj
    exact ⟨by simp only [SV.den, at_rows he h2], rfl⟩
  · rw [Option.map_eq_some_iff] at h
    obtain ⟨r, hr, rfl⟩ := h
    obtain ⟨y, rfl, h2⟩ := boolsX_ok hr j x hj
    exact ⟨by simp only [SV.den, at_rows he h2], rfl⟩
  · cases h
theorem opS_ok {ρ : Env} {st st' : St} {o : Oper} {sv : SV} {ds' : List D} {a : Act} {w : World} (hP : PRel ρ.ds st) (hH : HRel F ρ st.hp st.sl w) (ha : ∀ x, (evalO st x).isUnd = false → a.eval x = (evalO st x).den ρ)
    (h : (opS P st o.op).eval M N ρ.ds = some ((sv, st'), ds')) : Opd P F ρ st sv st' ds' o a w := by
  obtain ⟨dst, op, ty, pos, after, guard⟩ := o
  have hk : ∀ {x : SV} {l : List SV}, x.cells st.has = some l → (x.den ρ).cells = (SV.dens ρ l).toArray := cells_den hH
  have ev : ∀ {x : Operand} {y : SV}, evalO st x = y → y.isUnd = false → a.eval x = y.den ρ := fun hx hu => by rw [ha _ (by rw [hx]; exact hu), hx]
  cases op <;> simp only [opS] at h <;> try (simp only [T.eval] at h; cases h; done)
  case move x =>
    simp only [T.eval, Option.some.injEq, Prod.mk.injEq] at h
    obtain ⟨⟨rfl, rfl⟩, rfl⟩ := h
    exact ⟨ρ, _, w, rfl, by simp only [execOp, Sem.run_pure], .inl ⟨_, rfl, ha x⟩, Stp.like hP hH (.refl _)⟩
  case assign x =>
    simp only [T.eval, Option.some.injEq, Prod.mk.injEq] at h
    obtain ⟨⟨rfl, rfl⟩, rfl⟩ := h
    exact ⟨ρ, _, w, rfl, by simp only [execOp, Sem.run_pure], .inl ⟨_, rfl, ha x⟩, Stp.like hP hH (.refl _)⟩
  case pick c x y =>
    split at h
    · rename_i q hq
      have ec := ev hq rfl
      obtain ⟨s1, p, l, ⟨hb, h⟩ | ⟨hb, h⟩⟩ := tIte_some hP h
      · simp only [T.eval, Option.some.injEq, Prod.mk.injEq] at h
        obtain ⟨⟨rfl, rfl⟩, rfl⟩ := h
        exact ⟨ρ, .value (a.eval x), w, rfl, by simp [execOp, ec, SV.den, asBool, hb], .inl ⟨_, rfl, by rw [evalO_like l]; exact ha x⟩, Stp.like p hH l⟩
      · simp only [T.eval, Option.some.injEq, Prod.mk.injEq] at h
        obtain ⟨⟨rfl, rfl⟩, rfl⟩ := h
        exact ⟨ρ, .value (a.eval y), w, rfl, by simp [execOp, ec, SV.den, asBool, hb], .inl ⟨_, rfl, by rw [evalO_like l]; exact ha y⟩, Stp.like p hH l⟩
    · simp [T.eval] at h
  case alloc t =>
    split at h
    · rename_i z hz
      split at h
      · rename_i cs hc
        obtain ⟨rfl, ρ', hd, hb, S⟩ := new_ok hP hH t h
        refine ⟨ρ', _, _, hd, ?_, .inl ⟨_, rfl, fun _ => rfl⟩, S⟩
        simp only [execOp, Instr.alloc, Sem.run_bind, zero_run hz ρ, Result.andThen_ok, newVar_run, cells_den0 hc, Sem.run_pure, SV.den, hb]
      · simp [T.eval] at h
    · simp [T.eval] at h
  case box t x =>
    split at h
    · rename_i cs hc
      have hu : (evalO st x).isUnd = false := by
        unfold SV.cells at hc
        cases q : evalO st x <;> rw [q] at hc <;> first | rfl | (simp [SV.scalar] at hc; done)
      obtain ⟨rfl, ρ', hd, hb, S⟩ := new_ok hP hH t h
      refine ⟨ρ', _, _, hd, ?_, .inl ⟨_, rfl, fun _ => rfl⟩, S⟩
      simp only [execOp, Instr.box, Sem.run_bind, newVar_run, ha x hu, hk hc, Result.andThen_ok, Sem.run_pure, SV.den, hb]
    · simp [T.eval] at h
  case build t parts =>
    split at h
    · rename_i z fields hz hu
      split at h
      · rename_i cs pl hc hp
        split at h
        · rename_i l hf
          refine opd_plain hP hH (.refl _) h ?_
          have e := build_run hk hz hu hc hp hf w
          simp only [execOp, Sem.run_bind, parts_eval ha (fill_nu hf), e, Result.andThen_ok, Sem.run_pure, SV.den]
        · simp [T.eval] at h
      · simp [T.eval] at h
    · rename_i z n elem hz hu
      split at h
      · rename_i cs size hc hs
        split at h
        · rename_i l hf
          simp only [T.eval, Option.some.injEq, Prod.mk.injEq] at h
          obtain ⟨⟨rfl, rfl⟩, rfl⟩ := h
          refine ⟨ρ, _, w, rfl, ?_, .inl ⟨_, rfl, fun _ => rfl⟩, freeze_ok hP hH⟩
          have e := buildA_run hk hz hu hc hs hf w
          simp only [execOp, Sem.run_bind, parts_eval ha (fill_nu hf), e, Result.andThen_ok, Sem.run_pure, SV.den]
        · simp [T.eval] at h
      · simp [T.eval] at h
    · simp [T.eval] at h
  case buildSlice t len parts =>
    split at h
    · rename_i elem hu
      split at h
      · rename_i size z hs hz
        split at h
        · rename_i cs hc
          split at h
          · rename_i hcond
            split at h
            · rename_i l hf
              have e := fill_den hk hf
              rw [List.map_map] at e
              have e' : Instr.fill (fun i => some (i * size, size)) (SV.dens ρ (List.replicate len cs).flatten).toArray (parts.toList.map fun (i, x) => (i, (evalO st x).den ρ)) = some (SV.dens ρ l).toArray := e
              have ecs := cells_den0 (ρ := ρ) hc
              have et := tile (SV.dens ρ cs) size (by simp [dens_len, hcond.1]) len
              have ef : (List.replicate len (SV.dens ρ cs)).flatten = SV.dens ρ (List.replicate len cs).flatten := by
                simp [dens_eq, List.map_flatten]
              have eg : ((Array.range (len * size)).map fun x => (SV.dens ρ cs).toArray[x % (SV.dens ρ cs).toArray.size]!) = (SV.dens ρ (List.replicate len cs).flatten).toArray := by
                apply Array.ext'
                rw [← ef, ← et]
                simp [dens_len, hcond.1]
              have hlen : len ≤ 1000 := by
                have := Nat.le_mul_of_pos_right len hcond.2.1
                omega
              have run : (Instr.buildSlice t len (parts.map fun (i, x) => (i, a.eval x))).run P w = .ok (.slice (some ⟨w.heap.size, 0, none⟩) len len) (w.alloc (.cells (SV.dens ρ l).toArray elem)) := by
                simp only [Instr.buildSlice, Sem.run_bind, under_run hu, Result.andThen_ok, sizeOf_run hs, parts_eval ha (fill_nu hf)]
                rw [if_neg (by have : (1000 : Nat) ≤ 2 ^ 24 := by decide
                               omega)]
                by_cases h0 : len * size = 0
                · have hl0 : len = 0 := by
                    rcases Nat.mul_eq_zero.1 h0 with q | q
                    · exact q
                    · omega
                  subst hl0
                  rw [if_pos h0]
                  simp only [Sem.run_bind, Sem.run_pure, Result.andThen_ok, Array.toList_map]
                  rw [show ((Array.range (0 * size)).map fun x => (#[] : Array Value)[x % (#[] : Array Value).size]!) = (SV.dens ρ (List.replicate 0 cs).flatten).toArray by simp [SV.dens], e']
                  simp only [Sem.run_bind, newRow_run, Result.andThen_ok, Sem.run_pure]
                · rw [if_neg h0]
                  simp only [Sem.run_bind, Sem.run_pure, Result.andThen_ok, zero_run hz ρ, ecs, eg, Array.toList_map, e']
                  simp only [newRow_run, Result.andThen_ok]
              split at h
              · rename_i ct hct
                split at h
                · rename_i rows hrows
                  split at h
                  · rename_i hsz
                    have S0 := freeze_ok (is := SV.refVs l) hP hH
                    obtain ⟨rfl, ρ', hd, hv, S⟩ := own_ok S0.p S0.h elem hrows hlen h
                    refine ⟨ρ', _, _, hd, ?_, .inl ⟨_, rfl, fun _ => rfl⟩, S0.after S⟩
                    simp only [execOp, Sem.run_bind, run, Result.andThen_ok, Sem.run_pure, SV.den, hv]
                  · simp [T.eval] at h
                · simp [T.eval] at h
              · obtain ⟨⟨p1, p2⟩, d1, h1, h2⟩ := bind_some h
                obtain ⟨rfl, ρ', hd, hb, S⟩ := new_ok hP hH elem h1
                simp only [T.eval, Option.some.injEq, Prod.mk.injEq] at h2
                obtain ⟨⟨rfl, rfl⟩, rfl⟩ := h2
                refine ⟨ρ', _, _, hd, ?_, .inl ⟨_, rfl, fun _ => rfl⟩, S⟩
                simp only [execOp, Sem.run_bind, run, Result.andThen_ok, Sem.run_pure, SV.den, hb]
            · simp [T.eval] at h
          · simp [T.eval] at h
        · simp [T.eval] at h
      · simp [T.eval] at h
    · simp [T.eval] at h
  case load t x =>
    split at h
    · rename_i i o hx
      split at h
      · rename_i v hv
        refine opd_plain hP hH (.refl _) h ?_
        simp only [execOp, Instr.loadAt, ev hx rfl, SV.den, Instr.sureAddr, Sem.run_bind, Sem.run_pure, Result.andThen_ok, load_run hH hv]
      · simp [T.eval] at h
    · rename_i i o e len hx
      split at h
      · rename_i cells wr d hb hun hsz
        split at h
        · simp [T.eval] at h
        · rename_i hc
          simp only [Bool.or_eq_true, Bool.not_eq_true', decide_eq_false_iff_not, not_or, Bool.not_eq_true, Classical.not_not] at hc
          obtain ⟨hag, hlen⟩ := hc
          split at h
          · rename_i v hv
            obtain ⟨hw, s1, p, l, h⟩ := tNeed_some hP h
            have hw := within_den hP hw
            have hw : 0 ≤ (X.den ρ.ds e).int ∧ (X.den ρ.ds e).int < len := hw
            refine opd_plain p hH l h ?_
            obtain ⟨j, hj⟩ := Int.eq_ofNat_of_zero_le hw.1
            have hjl : j < len := by have := hw.2; omega
            have hjc : (((cells.drop o).take len))[j]? = some (cells[o + j]'(by omega)) := by
              rw [List.getElem?_take_of_lt hjl, List.getElem?_drop, List.getElem?_eq_getElem (by omega)]
            have hej : (X.den ρ.ds e).int = j := hj
            obtain ⟨q1, q2⟩ := pelS_ok hv hej hjc
            have hcell := hH.fix i cells wr hb (o + j) _ (List.getElem?_eq_getElem (by omega)) q2
            simp only [execOp, Instr.loadAt, ev hx rfl, SV.den, Instr.sureAddr, Sem.run_bind, Sem.run_pure, Result.andThen_ok, loadVar, isAgg_run hun, hag, Bool.false_eq_true, if_false, run_load, hej, Int.toNat_natCast, hcell, q1]
          · obtain ⟨j, s1, hj, he, p, l, h⟩ := indexed_some hP h
            split at h
            · rename_i v hv
              refine opd_plain p hH l h ?_
              rw [l.hp] at hv
              simp only [execOp, Instr.loadAt, ev hx rfl, SV.den, Instr.sureAddr, Sem.run_bind, Sem.run_pure, Result.andThen_ok, he, Int.toNat_natCast, load_run hH hv]
            · simp [T.eval] at h
      · simp [T.eval] at h
    · rename_i i e n o hx
      split at h
      · rename_i k d cs y r hsz hun he
        split at h
        · rename_i hc
          obtain ⟨c1, c2, c3, c4⟩ := hc
          have S := scoped_iff c4
          obtain ⟨hw, s1, p, l, h⟩ := tNeed_some hP h
          have hw := within_den hP hw
          obtain ⟨b, o0, c, row, q1, q2, q3, q4⟩ := told_at hH he hw.1 hw.2
          have cells : ∀ j ct, ((cs.drop o).take k)[j]? = some ct → ∃ val, rdW w b (o0 + (e.den ρ.ds).int.toNat * cs.length + o + j) = some val ∧ RepC (rdW w) (Gd F ρ st.hp w) ct val ((y.den ρ.ds).cell (e.den ρ.ds).int (o + j)) := by
            intro j ct hj
            have hjk : j < k := by have := lt_of_get hj; simp at this; omega
            rw [List.getElem?_take_of_lt hjk, List.getElem?_drop] at hj
            obtain ⟨val, v1, v2⟩ := q4.at (o + j) ct hj
            refine ⟨val, by rwa [show o0 + (e.den ρ.ds).int.toNat * cs.length + o + j = o0 + (e.den ρ.ds).int.toNat * cs.length + (o + j) by omega], ?_⟩
            unfold D.cell
            rw [List.getD_eq_getElem?_getD (l := (y.den ρ.ds).rows), q3, Option.getD_some]
            exact v2
          obtain ⟨l1, us, l2, hr⟩ := readC_ok ((cs.drop o).take k) o st.nv (o0 + (e.den ρ.ds).int.toNat * cs.length + o) cells
          have hlen : ((cs.drop o).take k).length = k := by simp; omega
          obtain ⟨r1, r2⟩ := hr (ρ.setvs st.nv us) rfl (fun j u hj => Env.setvs_get ρ st.nv us j u hj)
          have ag := Ag.setvs st.nd st.nv st.nh ρ us
          have hH' := (hH.ag S.hp S.sl ag).add (es := (readC y e o ((cs.drop o).take k) st.nv).2) (fun en hen => by rw [Gd.ag S.hp ag]; exact r2 en hen)
          have addr : a.eval x = .pointer (some ⟨b, o0 + (e.den ρ.ds).int.toNat * cs.length + o, none⟩) := by
            rw [ev hx rfl]
            simp only [SV.den, q1, addr_add, c1, Nat.add_assoc]
          have Sp : ∀ (st2 : St), st2 = { s1 with nv := s1.nv + (readC y e o ((cs.drop o).take k) st.nv).2.length, sl := s1.sl ++ (readC y e o ((cs.drop o).take k) st.nv).2 } → Stp F ρ (ρ.setvs st.nv us) st st2 w w := by
            rintro _ rfl
            exact ⟨ag, ⟨p.nd, p.bd, p.kn⟩, by simp only [l.hp, l.sl]; exact hH', l.tm, by simp only [l.nd]; exact Nat.le_refl _, by simp only [l.nv]; omega, by simp only [St.nh, l.hp]; exact Nat.le_refl _, Ag.keep S ag, Nat.le_refl _⟩
          rw [l.nv] at h
          have loaded : ∀ (hag : isAggB P t = true), (loadVar t ⟨b, o0 + (e.den ρ.ds).int.toNat * cs.length + o, none⟩).run P w = .ok (.agg (SV.dens (ρ.setvs st.nv us) (readC y e o ((cs.drop o).take k) st.nv).1).toArray) w := by
            intro hag
            have kk := run_loadCells_list (P := P) w ⟨b, o0 + (e.den ρ.ds).int.toNat * cs.length + o, none⟩ (SV.dens (ρ.setvs st.nv us) (readC y e o ((cs.drop o).take k) st.nv).1) (fun j v hj => by
              rw [dens_get, Option.map_eq_some_iff] at hj
              obtain ⟨s2, hs2, rfl⟩ := hj
              rw [addr_add]
              exact (r1 j s2 hs2).1)
            rw [dens_len, l1, hlen] at kk
            simp only [loadVar, Sem.run_bind, isAgg_run hun, Result.andThen_ok, hag, if_true, sizeOf_run hsz, kk, Sem.run_pure]
          split at h
          · rename_i hag
            simp only [T.eval, Option.some.injEq, Prod.mk.injEq] at h
            obtain ⟨⟨rfl, rfl⟩, rfl⟩ := h
            refine ⟨ρ.setvs st.nv us, _, w, rfl, ?_, .inl ⟨_, rfl, fun _ => rfl⟩, Sp _ (by rw [l.nv])⟩
            simp only [execOp, Instr.loadAt, addr, Instr.sureAddr, Sem.run_bind, Sem.run_pure, Result.andThen_ok, loaded hag, SV.den]
          · rename_i hag
            split at h
            · rename_i v hv
              simp only [T.eval, Option.some.injEq, Prod.mk.injEq] at h
              obtain ⟨⟨rfl, rfl⟩, rfl⟩ := h
              refine ⟨ρ.setvs st.nv us, _, w, rfl, ?_, .inl ⟨_, rfl, fun _ => rfl⟩, Sp _ (by rw [l.nv])⟩
              have kk := (r1 0 v (by rw [hv]; rfl)).1
              simp only [rdW, Nat.add_zero] at kk
              simp only [execOp, Instr.loadAt, addr, Instr.sureAddr, Sem.run_bind, Sem.run_pure, Result.andThen_ok, loadVar, isAgg_run hun, hag, Bool.false_eq_true, if_false, run_load, kk]
            · simp [T.eval] at h
        · simp [T.eval] at h
      · simp [T.eval] at h
    · rename_i g o hx
      split at h
      · rename_i cells hcs
        split at h
        · rename_i v hv
          refine opd_plain hP hH (.refl _) h ?_
          have hc : ∀ o x, cells[o]? = some x → w.cell? ⟨g, o, none⟩ = some (x.den ρ) := by
            unfold globS at hcs
            split at hcs
            · rename_i p hp
              injection hcs with hcs
              subst hcs
              have hg := List.mem_of_find?_eq_some hp
              have he : p.1 = g := by simpa using List.find?_some hp
              intro o x hx
              rw [List.getElem?_map, Option.map_eq_some_iff] at hx
              obtain ⟨u, hu, rfl⟩ := hx
              rw [of1_den, ← he]
              exact hH.glob hg hu
            · cases hcs
          simp only [execOp, Instr.loadAt, ev hx rfl, SV.den, Instr.sureAddr, Sem.run_bind, Sem.run_pure, Result.andThen_ok, glob_run hc hv]
        · simp [T.eval] at h
      · simp [T.eval] at h
    · simp [T.eval] at h
  case store t x y =>
    split at h
    · rename_i i o hx
      split at h
      · rename_i hp hv
        simp only [T.eval, Option.some.injEq, Prod.mk.injEq] at h
        obtain ⟨⟨rfl, rfl⟩, rfl⟩ := h
        obtain ⟨w', e, k, z, hl⟩ := store_run hH hv
        have hu : (evalO st y).isUnd = false := by
          unfold storeS at hv
          split at hv
          · rename_i l _ _ hl
            unfold SV.cells at hl
            cases q : evalO st y <;> rw [q] at hl <;> first | rfl | (simp [SV.scalar] at hl; done)
          · cases hv
        refine ⟨ρ, .skip, w', rfl, ?_, .inr ⟨rfl, rfl⟩, Ag.refl _ _ _ _, ⟨hP.nd, hP.bd, hP.kn⟩, k, rfl, Nat.le_refl _, Nat.le_refl _, by simp only [St.nh, hl]; exact Nat.le_refl _, fun _ _ _ => rfl, by rw [z]; exact Nat.le_refl _⟩
        simp only [execOp, Instr.storeAt, ev hx rfl, ha y hu, SV.den, Instr.sureAddr, Sem.run_bind, Sem.run_pure, Result.andThen_ok, e]
      · simp [T.eval] at h
    · rename_i i o e len hx
      obtain ⟨j, s1, hj, he, p, lk, h⟩ := indexed_some hP h
      split at h
      · rename_i hp hv
        simp only [T.eval, Option.some.injEq, Prod.mk.injEq] at h
        obtain ⟨⟨rfl, rfl⟩, rfl⟩ := h
        rw [evalO_like lk] at hv
        obtain ⟨w', e2, k, z, hl⟩ := store_run (st := s1) (by rw [lk.hp, lk.sl]; exact hH) hv
        have hu : (evalO st y).isUnd = false := by
          unfold storeS at hv
          split at hv
          · rename_i l _ _ hl
            unfold SV.cells at hl
            cases q : evalO st y <;> rw [q] at hl <;> first | rfl | (simp [SV.scalar] at hl; done)
          · cases hv
        refine ⟨ρ, .skip, w', rfl, ?_, .inr ⟨rfl, rfl⟩, Ag.refl _ _ _ _, ⟨p.nd, p.bd, p.kn⟩, k, lk.tm, by rw [lk.nd]; exact Nat.le_refl _, by rw [lk.nv]; exact Nat.le_refl _, by simp only [St.nh, hl, lk.hp]; exact Nat.le_refl _, fun _ _ _ => rfl, by rw [z]; exact Nat.le_refl _⟩
        simp only [execOp, Instr.storeAt, ev hx rfl, ha y hu, SV.den, he, Int.toNat_natCast, Instr.sureAddr, Sem.run_bind, Sem.run_pure, Result.andThen_ok, e2]
      · simp [T.eval] at h
    · rename_i i e n o hx
      split at h
      · rename_i l m hl hm
        split at h
        · rename_i hlm
          have S0 := freeze_ok (is := (SV.refVs l).filter (· != i)) hP hH
          obtain ⟨rfl, rfl, hnu, ad, w', r1, r2, S⟩ := storeR_ok (P := P) S0.p S0.h h
          have hu : (evalO st y).isUnd = false := by
            unfold SV.cells at hl
            cases q : evalO st y <;> rw [q] at hl <;> first | rfl | (simp [SV.scalar] at hl; done)
          refine ⟨ρ, .skip, w', rfl, ?_, .inr ⟨rfl, rfl⟩, S0.after S⟩
          have ex : a.eval x = .pointer (some ad) := by rw [ev hx rfl]; exact r1
          simp only [execOp, Instr.storeAt, ex, ha y hu, Instr.sureAddr, Sem.run_bind, Sem.run_pure, Result.andThen_ok, storeVar, sizeOf_run hm, hk hl, List.size_toArray, dens_len, hlm, ne_eq, not_true_eq_false, if_false, r2]
        · simp [T.eval] at h
      · simp [T.eval] at h
    · simp [T.eval] at h
  case nilCheck x =>
    split at h
    · rename_i i o hx
      exact opd_plain hP hH (.refl _) h (by simp [execOp, ev hx rfl, SV.den])
    · rename_i i o e l hx
      exact opd_plain hP hH (.refl _) h (by simp [execOp, ev hx rfl, SV.den])
    · rename_i f x' c hx
      exact opd_plain hP hH (.refl _) h (by simp [execOp, ev hx rfl, SV.den])
    · simp [T.eval] at h
  case binOp op t x y ty =>
    obtain ⟨rfl, p, l, u, ux, uy, hr⟩ := binS_ok hP x y h
    refine ⟨ρ, _, w, rfl, ?_, .inl ⟨_, rfl, fun _ => rfl⟩, Stp.like p hH l⟩
    obtain ⟨r1, r2⟩ := hr w
    simp only [execOp, ha x ux, ha y uy, Sem.run_bind, r1, r2, Result.andThen_ok, Sem.run_pure]
  case unOp op t x =>
    split at h
    · rename_i k e hx
      exact opd_plain hP hH (.refl _) h (by simp [execOp, ev hx rfl, SV.den, Op.unary, Op.intArith, mk_den hP.bd]; simp [X.den, D.int])
    · rename_i b hx
      exact opd_plain hP hH (.refl _) h (by simp [execOp, ev hx rfl, SV.den, Op.unary, bNot_den])
    · simp [T.eval] at h
  case convert src t x =>
    split at h
    · rename_i d k k' e hs hu hx
      refine opd_plain hP hH (.refl _) h ?_
      simp only [execOp, ev hx rfl, SV.den, convert, Sem.run_bind, under_run hs, under_run hu, Result.andThen_ok, mk_den hP.bd, Conv.intToInt, Sem.run_pure]
    · simp [T.eval] at h
  case makeFunc fn first cap =>
    split at h
    · split at h
      · rename_i hc
        simp only [Bool.and_eq_true] at hc
        refine opd_plain hP hH (.refl _) h ?_
        simp only [execOp, Instr.makeFunc, eval_map ha hc.1, eval_map ha hc.2, Sem.run_bind, Sem.run_pure, Result.andThen_ok, SV.den]
      · simp [T.eval] at h
    · simp [T.eval] at h
  case slice t x lo hi mx =>
    split at h
    · rename_i i o l c hx
      split at h
      · rename_i elem lo' hi' hu hlo hhi
        split at h
        · rename_i n hn
          split at h
          · rename_i hc
            refine opd_plain hP hH (.refl _) h ?_
            have e := sliceBounds_run (P := P) hlo hhi hc.1 hc.2 true ρ w
            simp only [execOp, Instr.sliceAt, Sem.run_bind, under_run hu, Result.andThen_ok, ev hx rfl, SV.den, Instr.slice, bounds_eval ha (bound_nu hlo), bounds_eval ha (bound_nu hhi), Option.map_none, e, sizeOf_run hn, Sem.run_pure]
            split <;> simp [addr_add]
          · simp [T.eval] at h
        · simp [T.eval] at h
      · simp [T.eval] at h
    · rename_i i o hx
      split at h
      · rename_i n elem hu
        split at h
        · rename_i z lo' hi' hz hlo hhi
          split at h
          · rename_i hc
            refine opd_plain hP hH (.refl _) h ?_
            have e := sliceBounds_run (P := P) hlo hhi hc.1 hc.2 false ρ w
            simp only [execOp, Instr.sliceAt, Sem.run_bind, under_run hu, Result.andThen_ok, ev hx rfl, SV.den, Instr.sureAddr, bounds_eval ha (bound_nu hlo), bounds_eval ha (bound_nu hhi), Option.map_none, e, sizeOf_run hz, Sem.run_pure]
            split <;> simp [addr_add]
          · simp [T.eval] at h
        · simp [T.eval] at h
      · simp [T.eval] at h
    · rename_i i hx
      split at h
      · rename_i j cs y hi' hf
        refine sliceO_ok hP hH ha hf (by rw [ev hx rfl]; rfl) h
      · have S0 := freeze_ok (is := [i]) hP hH
        exact Opd.after S0 (sliceV_ok S0.p S0.h (fun x hu => by rw [evalO_freeze] at hu ⊢; exact ha x hu) (by rw [ev hx rfl]; rfl) h)
    · rename_i s hx
      split at h
      · rename_i lo' hi' hu hlo hhi
        obtain ⟨hw, s1, p, l, h⟩ := tNeed_some hP h
        refine opd_plain p hH l h ?_
        rw [bAnd_den, bAnd_den, bAnd_den, bLe_den hP.bd, bLe_den hP.bd, bLe_den hP.bd, bLe_den hP.bd] at hw
        simp only [Bool.and_eq_true, decide_eq_true_eq] at hw
        obtain ⟨w1, w2, w3, w4⟩ := hw
        have w1 : 0 ≤ (X.den ρ.ds lo').int := by simpa [X.den, D.int] using w1
        have w4 : (X.den ρ.ds (xSlen s)).int ≤ 9223372036854775807 := by simpa [X.den, D.int] using w4
        rw [xSlen_den] at w3 w4
        have es : (X.den ρ.ds s).slen = (X.den ρ.ds s).str.size := by unfold D.slen at w4 ⊢; omega
        rw [es] at w3
        obtain ⟨H, hH1⟩ : ∃ H : Nat, (X.den ρ.ds hi').int = H := ⟨(X.den ρ.ds hi').int.toNat, by omega⟩
        obtain ⟨l0, hl0⟩ : ∃ l0 : Nat, (X.den ρ.ds lo').int = l0 := ⟨(X.den ρ.ds lo').int.toNat, by omega⟩
        have blo : (match lo.map a.eval with | some v => Instr.sliceBound v H .sliceB | none => pure 0).run P w = .ok l0 w := by
          cases lo with
          | none =>
            simp only [Option.map_none, boundX, Option.some.injEq] at hlo
            subst hlo
            simp only [X.den, D.int] at hl0
            have : l0 = 0 := by omega
            subst this
            rfl
          | some x =>
            simp only [Option.map_some] at hlo ⊢
            cases q : evalO st x <;> rw [q] at hlo <;> simp only [boundX] at hlo <;> try cases hlo
            rw [ev q rfl]
            simp only [SV.den, Instr.sliceBound, asIntOf, Sem.run_bind, Sem.run_pure, Result.andThen_ok, hl0]
            rw [if_pos ⟨by omega, by omega⟩]
            simp
        have bhi : (match hi.map a.eval with | some v => Instr.sliceBound v (X.den ρ.ds s).str.size .sliceAlen | none => pure (X.den ρ.ds s).str.size).run P w = .ok H w := by
          cases hi with
          | none =>
            simp only [Option.map_none, boundX, Option.some.injEq] at hhi
            subst hhi
            rw [xSlen_den, es] at hH1
            simp only [Option.map_none, Sem.run_pure]
            congr 1
            omega
          | some x =>
            simp only [Option.map_some] at hhi ⊢
            cases q : evalO st x <;> rw [q] at hhi <;> simp only [boundX] at hhi <;> try cases hhi
            rw [ev q rfl]
            simp only [SV.den, Instr.sliceBound, asIntOf, Sem.run_bind, Sem.run_pure, Result.andThen_ok, hH1]
            rw [if_pos ⟨by omega, by omega⟩]
            simp
        have ex := ev hx rfl
        simp only [SV.den] at ex
        have eden : (X.den ρ.ds (.ssub s lo' hi')).str = (X.den ρ.ds s).str.extract l0 H := by
          have : X.den ρ.ds (.ssub s lo' hi') = .s ((X.den ρ.ds s).str.extract (X.den ρ.ds lo').int.toNat (X.den ρ.ds hi').int.toNat) := by simp only [X.den]
          rw [this, hH1, hl0, Int.toNat_natCast, Int.toNat_natCast]
          rfl
        simp only [execOp, Instr.sliceAt, Sem.run_bind, under_run hu, Result.andThen_ok, ex, Instr.slice, Option.map_none, Instr.sliceBounds, Sem.run_pure, SV.den, eden, Option.isSome_none]
        cases hlo' : lo.map a.eval <;> cases hhi' : hi.map a.eval <;> rw [hlo'] at blo <;> rw [hhi'] at bhi <;> simp only [Sem.run_pure, Sem.run_bind, Result.andThen_ok, Result.ok.injEq, and_true, Bool.false_eq_true, if_false, if_true] at blo bhi ⊢
        · subst blo bhi; rfl
        · subst blo; simp only [bhi, Result.andThen_ok, Sem.run_pure, Sem.run_bind]
        · subst bhi; simp only [blo, Result.andThen_ok, Sem.run_pure, Sem.run_bind]
        · simp only [bhi, blo, Result.andThen_ok, Sem.run_pure, Sem.run_bind]
      · simp [T.eval] at h
    · simp [T.eval] at h
  case fieldAddr s x f =>
    split at h
    · rename_i i o fields hx hu
      split at h
      · rename_i fd hf
        split at h
        · rename_i n hn
          split at h
          · simp [T.eval] at h
          · rename_i hz
            refine opd_plain hP hH (.refl _) h ?_
            simp only [execOp, Instr.fieldAt, ev hx rfl, SV.den, Sem.run_bind, under_run hu, Result.andThen_ok, hf, Instr.sureAddr, Sem.run_pure, fieldPlace, sizeOf_run hn, if_neg hz, addr_add]
        · simp [T.eval] at h
      · simp [T.eval] at h
    · rename_i i e n o fields hx hu
      split at h
      · rename_i fd hf
        split at h
        · rename_i m cs y r hn he
          split at h
          · simp [T.eval] at h
          · rename_i hz
            obtain ⟨hw, s1, p, l, h⟩ := tNeed_some hP h
            have hw := within_den hP hw
            obtain ⟨b, o0, c, row, q1, q2, q3, q4⟩ := told_at hH he hw.1 hw.2
            refine opd_plain p hH l h ?_
            simp only [execOp, Instr.fieldAt, ev hx rfl, SV.den, q1, Sem.run_bind, under_run hu, Result.andThen_ok, hf, Instr.sureAddr, Sem.run_pure, fieldPlace, sizeOf_run hn, if_neg hz, addr_add, Nat.add_assoc]
        · simp [T.eval] at h
      · simp [T.eval] at h
    · simp [T.eval] at h
  case field s x f =>
    split at h
    · rename_i l fields hx hu
      split at h
      · rename_i fd hf
        split at h
        · rename_i v hv
          refine opd_plain hP hH (.refl _) h ?_
          simp only [execOp, Instr.field, ev hx rfl, SV.den, Sem.run_bind, under_run hu, Result.andThen_ok, hf, asAgg, Sem.run_pure, part_run hv ρ]
        · simp [T.eval] at h
      · simp [T.eval] at h
    · simp [T.eval] at h
  case indexAddr t x ix =>
    split at h
    · rename_i i o k e len elem hx hi hu
      split at h
      · rename_i hn
        split at h
        · rename_i z
          obtain ⟨j, s1, hj, he, p, l, h⟩ := indexed_some hP h
          refine opd_plain p hH l h ?_
          simp only [execOp, Instr.indexAt, ev hx rfl, ev hi rfl, SV.den, asIntOf, Sem.run_bind, Sem.run_pure, under_run hu, Result.andThen_ok, Instr.sureAddr, he]
          rw [if_pos ⟨by omega, by omega⟩]
          simp only [Sem.run_bind, sizeOf_run hn, Result.andThen_ok, Sem.run_pure, Int.toNat_natCast, addr_add]
        · obtain ⟨hw, s1, p, l, h⟩ := tNeed_some hP h
          have hw := within_den hP hw
          refine opd_plain p hH l h ?_
          have hw2 : (X.den ρ.ds e).int < len := hw.2
          simp only [execOp, Instr.indexAt, ev hx rfl, ev hi rfl, SV.den, asIntOf, Sem.run_bind, Sem.run_pure, under_run hu, Result.andThen_ok, Instr.sureAddr]
          rw [if_pos ⟨hw.1, by omega⟩]
          simp only [Sem.run_bind, sizeOf_run hn, Result.andThen_ok, Sem.run_pure, addr_add, Nat.mul_one]
      · rename_i n hn1 hn
        obtain ⟨j, s1, hj, he, p, l, h⟩ := indexed_some hP h
        refine opd_plain p hH l h ?_
        simp only [execOp, Instr.indexAt, ev hx rfl, ev hi rfl, SV.den, asIntOf, Sem.run_bind, Sem.run_pure, under_run hu, Result.andThen_ok, Instr.sureAddr, he]
        rw [if_pos ⟨by omega, by omega⟩]
        simp only [Sem.run_bind, sizeOf_run hn, Result.andThen_ok, Sem.run_pure, Int.toNat_natCast, addr_add]
      · simp [T.eval] at h
    · rename_i i o len c k e elem hx hi hu
      split at h
      · rename_i n hn
        obtain ⟨j, s1, hj, he, p, l, h⟩ := indexed_some hP h
        refine opd_plain p hH l h ?_
        simp only [execOp, Instr.indexAt, ev hx rfl, ev hi rfl, SV.den, asIntOf, Sem.run_bind, Sem.run_pure, under_run hu, Result.andThen_ok, he]
        rw [if_pos ⟨by omega, by omega⟩]
        simp only [Sem.run_bind, sizeOf_run hn, Result.andThen_ok, Sem.run_pure, Int.toNat_natCast, addr_add]
      · simp [T.eval] at h
    · rename_i i k e elem hx hi hu
      split at h
      · rename_i n cs y r hn he
        split at h
        · rename_i hnc
          obtain ⟨hw, s1, p, l, h⟩ := tNeed_some hP h
          have hw := within_den hP hw
          obtain ⟨b, o0, c, row, q1, q2, q3, q4⟩ := told_at hH he hw.1 hw.2
          refine opd_plain p hH l h ?_
          simp only [execOp, Instr.indexAt, ev hx rfl, ev hi rfl, SV.den, q1, asIntOf, Sem.run_bind, Sem.run_pure, under_run hu, Result.andThen_ok, nf_den p.bd]
          rw [if_pos ⟨hw.1, by omega⟩]
          simp only [Sem.run_bind, sizeOf_run hn, Result.andThen_ok, Sem.run_pure, Nat.add_zero]
        · simp [T.eval] at h
      · simp [T.eval] at h
    · simp [T.eval] at h
  case index t x ix =>
    split at h
    · rename_i l k e len elem hx hi hu
      split at h
      · rename_i n hn
        obtain ⟨j, s1, hj, he, p, lk, h⟩ := indexed_some hP h
        split at h
        · rename_i v hv
          refine opd_plain p hH lk h ?_
          simp only [execOp, Instr.index, ev hx rfl, ev hi rfl, SV.den, asIntOf, Sem.run_bind, Sem.run_pure, under_run hu, Result.andThen_ok, he]
          rw [if_pos ⟨by omega, by omega⟩]
          simp only [Sem.run_bind, sizeOf_run hn, Result.andThen_ok, Int.toNat_natCast, part_run hv ρ]
        · simp [T.eval] at h
      · simp [T.eval] at h
    · rename_i s k e hx hi hu
      obtain ⟨hw, s1, p, l, h⟩ := tNeed_some hP h
      have hw := within_den hP hw
      rw [xSlen_den] at hw
      have hlt : (X.den ρ.ds e).int.toNat < (X.den ρ.ds s).str.size := by unfold D.slen at hw; omega
      refine opd_plain p hH l h ?_
      have e1 : (X.den ρ.ds s).str[(X.den ρ.ds e).int.toNat]? = some ((X.den ρ.ds s).str[(X.den ρ.ds e).int.toNat]'hlt) := getElem?_pos (X.den ρ.ds s).str (X.den ρ.ds e).int.toNat hlt
      have e2 : (X.den ρ.ds s).str.data.toList.getD (X.den ρ.ds e).int.toNat 0 = (X.den ρ.ds s).str[(X.den ρ.ds e).int.toNat]'hlt := by
        rw [List.getD_eq_getElem?_getD, List.getElem?_eq_getElem (by simpa using hlt), Option.getD_some]
        rfl
      simp only [execOp, Instr.index, ev hx rfl, ev hi rfl, SV.den, asIntOf, Sem.run_bind, Sem.run_pure, under_run hu, Result.andThen_ok]
      rw [if_pos hw.1, e1]
      simp only [Sem.run_pure, Sem.run_bind, Result.andThen_ok, X.den, D.int] at e2 ⊢
      rw [e2]
    · simp [T.eval] at h
  case makeSlice t l c =>
    split at h
    · rename_i k1 x k2 y e hl hc hu
      split at h
      · rename_i i cs z hi hct hz
        split at h
        · rename_i zs hzc
          split at h
          · rename_i row hrow
            split at h
            · rename_i hcond
              obtain ⟨c1, c2, c3, c4⟩ := hcond
              obtain ⟨hw, s1, p, lk, h⟩ := tNeed_some hP h
              rw [bAnd_den, bAnd_den, bLe_den hP.bd, bLe_den hP.bd, bLe_den hP.bd] at hw
              simp only [Bool.and_eq_true, decide_eq_true_eq] at hw
              obtain ⟨w1, w2, w3⟩ := hw
              have w1 : 0 ≤ (X.den ρ.ds x).int := by simpa [X.den, D.int] using w1
              have w3 : (X.den ρ.ds y).int ≤ (140737488355328 / i.bytes : Nat) := w3
              have hz2 : ∃ zv, i.zero = some zv ∧ z = ofVal zv := by
                unfold zeroB at hz
                rw [hi] at hz
                simp only [Option.map_eq_some_iff] at hz
                obtain ⟨zv, z1, z2⟩ := hz
                exact ⟨zv, z1, z2.symm⟩
              obtain ⟨zv, hzv, rfl⟩ := hz2
              have ecs := cells_den0 (ρ := ρ) hzc
              rw [den_ofVal] at ecs
              obtain ⟨e1, e2⟩ := argXs_each hH hrow
              have el := (argXs_len hrow).1
              have hzs : zv.cells.size = i.size := by rw [ecs, List.size_toArray, dens_len, el, c1]
              have R : RowsV (rdW w) (Gd F ρ st.hp w) cs zv.cells.toList [X.dens ρ.ds row] := by
                have elen : zv.cells.toList.length = cs.length := by rw [Array.length_toList, hzs, c1]
                refine ⟨by rw [elen]; simp, fun v hv => ?_, fun rd' G' ht q rw' hq b' o' hv => ?_⟩
                · rw [ecs] at hv
                  obtain ⟨q, hq⟩ := List.mem_iff_getElem?.1 hv
                  rw [List.toList_toArray, dens_get, Option.map_eq_some_iff] at hq
                  obtain ⟨y', hy', rfl⟩ := hq
                  obtain ⟨_, ct, e', g1, g2, g3⟩ := e2 q y' hy'
                  exact oneCell_rep g3
                · have hq0 := lt_of_get hq
                  simp only [List.length_singleton] at hq0
                  obtain rfl : q = 0 := by omega
                  simp only [List.getElem?_cons_zero, Option.some.injEq] at hq
                  subst hq
                  refine repR_of (by rw [xdens_eq, List.length_map, e1, el]) fun j ct hj => ?_
                  have hjl := lt_of_get hj
                  have hjz : j < zs.length := by rw [el]; exact hjl
                  obtain ⟨_, ct', e', g1, g2, g3⟩ := e2 j _ (List.getElem?_eq_getElem hjz)
                  rw [hj] at g1
                  injection g1 with g1
                  subst g1
                  refine ⟨(zs[j]).den ρ, hv j hjl _ ?_, ?_⟩
                  · rw [Nat.zero_mul, Nat.zero_add, ecs, List.toList_toArray, dens_get, List.getElem?_eq_getElem hjz, Option.map_some]
                  · rw [xdens_eq, List.getD_eq_getElem?_getD, List.getElem?_map, g2, Option.map_some, Option.getD_some]
                    exact ht _ _ _ g3
              obtain ⟨w', r1, r2, r3, r4, r5⟩ := make_run (P := P) hu hi hzv c1 hzs c2 (fun b g => g.2.1) R (k := k1) (k' := k2) w1 w2 w3 c3
              have room : ∀ c b, roomAt (.slice (some ⟨w.heap.size, 0, none⟩) (X.den ρ.ds x).int.toNat c) = some b → w.heap.size ≤ b ∧ b < w'.heap.size := fun c b hb => by
                cases c with
                | zero => simp [roomAt] at hb
                | succ n => simp only [roomAt, Option.some.injEq] at hb; subst hb; omega
              obtain ⟨u1, ρ', d1, d2, S⟩ := ownG_ok p (by rw [lk.hp, lk.sl]; exact hH) h (by omega) r5 r4 (room _) (by rw [lk.hp, xRep_den]; exact r2)
              refine ⟨ρ', _, w', d1, ?_, .inl ⟨_, rfl, fun _ => d2.symm⟩, S.likeL lk⟩
              simp only [execOp, ev hl rfl, ev hc rfl, SV.den, Sem.run_bind, r1, Result.andThen_ok, Sem.run_pure]
            · simp [T.eval] at h
          · simp [T.eval] at h
        · simp [T.eval] at h
      · simp [T.eval] at h
    · simp [T.eval] at h
  case extract x i =>
    split at h
    · rename_i l hx
      split at h
      · rename_i v hv
        refine opd_plain hP hH (.refl _) h ?_
        have e : (SV.dens ρ l)[i]? = some (v.den ρ) := by rw [dens_get, hv]; rfl
        simp only [execOp, Instr.extract, ev hx rfl, SV.den, List.getElem?_toArray, e, Sem.run_bind, Sem.run_pure, Result.andThen_ok]
      · simp [T.eval] at h
    · simp [T.eval] at h
end
end Fx
end Go.Proofs.Ytlhnhidoljfnnaa
