/- XFd is sound: blocks that change, blocks that are new; what is read and written. -/
import Derived.Test.YtlhnhidoljfnnaaFf
set_option linter.unusedVariables false
namespace Go.Proofs.Ytlhnhidoljfnnaa
open Go.RowKit
namespace Fx
/-- what memory holds of one block -/
def BlkOk (G : Nat → Prop) (ρ : Env) (w : World) (j : Nat) : Blk → Prop
  | .fix cells wr => (∀ o x, cells[o]? = some x → x.isUnd = false → w.cell? ⟨ρ.β j, o, none⟩ = some (x.den ρ)) ∧ (∀ o, o < cells.length → (w.cell? ⟨ρ.β j, o, none⟩).isSome) ∧ (wr = true → ∀ o, w.frozen? ⟨ρ.β j, o, none⟩ = false)
  | .rows cs x h => Owns w G cs (ρ.vs h) (x.den ρ.ds).rows
  | .none => True
theorem HRel.ok {F : Fr} {ρ : Env} {hp : List Blk} {sl : List Ent} {w : World} (h : HRel F ρ hp sl w) {j : Nat} {b : Blk} (hj : hp[j]? = some b) : BlkOk (Gd F ρ hp w) ρ w j b := by
  cases b with
  | fix c wr => exact ⟨h.fix j c wr hj, h.has j c wr hj, fun e => by subst e; exact h.frz j c hj⟩
  | rows cs x k => exact h.rows j cs x k hj
  | none => trivial
theorem HRel.mk' {F : Fr} {ρ : Env} {hp : List Blk} {sl : List Ent} {w : World} (io : Io F.w0 w) (size : F.w0.heap.size ≤ w.heap.size) (keep : ∀ b, ¬ F.own b → b ∉ F.pb → w.heap[b]? = F.w0.heap[b]?)
    (lo : ∀ j b, blkAt ρ hp j = some b → b < w.heap.size ∧ (F.own b ∨ b ∈ F.pb)) (npb : ∀ (j : Nat) (cs : List CT) (x : X) (h : Nat) (b : Nat), hp[j]? = some (Blk.rows cs x h) → blkAt ρ hp j = some b → F.own b) (inj : ∀ j k b, blkAt ρ hp j = some b → blkAt ρ hp k = some b → j = k)
    (ok : ∀ j b, hp[j]? = some b → BlkOk (Gd F ρ hp w) ρ w j b) (imm : ∀ e ∈ sl, RepC (rdW w) (Gd F ρ hp w) (.sl e.cs) (ρ.vs e.i) (e.x.den ρ.ds)) : HRel F ρ hp sl w :=
  ⟨size, keep, lo, npb, inj, fun j c wr hj => (ok j _ hj).1, fun j c wr hj => (ok j _ hj).2.1, fun j c hj => (ok j _ hj).2.2 rfl, fun j cs x k hj => ok j _ hj, imm, io⟩
theorem BlkOk.mono {G G' : Nat → Prop} {ρ : Env} {w w' : World} {j : Nat} {b : Blk} (h : ∀ b, G b → G' b ∧ w'.heap[b]? = w.heap[b]?) (hb : ∀ c, blkOf ρ j b = some c → w'.heap[c]? = w.heap[c]?) (k : BlkOk G ρ w j b) : BlkOk G' ρ w' j b := by
  cases b with
  | fix c wr =>
    have e := hb _ rfl
    exact ⟨fun o x ho hu => by rw [World.cell?_of_block e]; exact k.1 o x ho hu, fun o ho => by rw [World.cell?_of_block e]; exact k.2.1 o ho, fun hw o => by rw [World.frozen?_of_block e]; exact k.2.2 hw o⟩
  | rows cs x hh => exact Owns.mono h (fun c hc => hb c hc) k
  | none => trivial
/-- one block changes -/
theorem HRel.chg {F : Fr} {ρ : Env} {hp : List Blk} {sl : List Ent} {w w' : World} (h : HRel F ρ hp sl w) {j b0 : Nat} (hj : blkAt ρ hp j = some b0) (hz : w'.heap.size = w.heap.size) (hk : ∀ b, b ≠ b0 → w'.heap[b]? = w.heap[b]?) (io : Io w w')
    {blk : Blk} (hb : blkOf ρ j blk = some b0) (hr : ∀ cs x h, blk = Blk.rows cs x h → F.own b0) (hn : BlkOk (Gd F ρ hp w) ρ w' j blk) : HRel F ρ (hp.set j blk) sl w' := by
  have hl := blkAt_lt hj
  have at' : ∀ k, blkAt ρ (hp.set j blk) k = blkAt ρ hp k := by
    intro k
    by_cases e : k = j
    · subst e
      rw [hj]
      simp only [blkAt, List.getElem?_set_self hl, hb]
    · simp only [blkAt, List.getElem?_set_ne (fun x => e x.symm)]
  have hg : ∀ b, Gd F ρ hp w b → Gd F ρ (hp.set j blk) w' b ∧ w'.heap[b]? = w.heap[b]? := fun b g =>
    ⟨⟨g.1, by rw [hz]; exact g.2.1, fun k e => g.2.2 k (by rwa [at'] at e)⟩, hk b fun e => g.2.2 j (by rw [hj, e])⟩
  refine HRel.mk' (h.io.trans io) (by rw [hz]; exact h.size) (fun b h1 h2 => ?_) (fun k b e => by rw [at'] at e; rw [hz]; exact h.lo k b e) (fun k cs x hh b h1 h2 => ?_) (fun k l b h1 h2 => by rw [at'] at h1 h2; exact h.inj k l b h1 h2) (fun k b e => ?_) fun e he => RepC.mono (fun b g => ⟨(hg b g).1, fun o => rd_of_block (hg b g).2 o⟩) (h.imm e he)
  · rw [hk b, h.keep b h1 h2]
    rintro rfl
    rcases (h.lo j b hj).2 with k | k
    · exact h1 k
    · exact h2 k
  · rw [at'] at h2
    by_cases ej : k = j
    · subst ej
      rw [List.getElem?_set_self hl] at h1
      injection h1 with h1
      rw [hj] at h2
      injection h2 with h2
      rw [← h2]
      exact hr cs x hh h1
    · rw [List.getElem?_set_ne (fun q => ej q.symm)] at h1
      exact h.npb k cs x hh b h1 h2
  · by_cases ej : k = j
    · subst ej
      rw [List.getElem?_set_self hl] at e
      injection e with e
      subst e
      exact hn.mono (fun b g => ⟨(hg b g).1, rfl⟩) fun _ _ => rfl
    · rw [List.getElem?_set_ne (fun x => ej x.symm)] at e
      refine (h.ok e).mono hg fun c hc => hk c fun e2 => ?_
      have : blkAt ρ hp k = some c := by simp only [blkAt, e, hc]
      exact ej (h.inj k j c this (by rw [hj, e2]))
/-- one block is new -/
theorem HRel.push {F : Fr} {nd nv : Nat} {ρ ρ' : Env} {hp : List Blk} {sl : List Ent} {w : World} (h : HRel F ρ hp sl w) (hs : HSc nd nv hp) (hse : ∀ e ∈ sl, e.i < nv ∧ e.x.sc nd = true) (hl : Ag nd nv hp.length ρ ρ') {obj : Obj}
    {blk : Blk} (hb : blkOf ρ' hp.length blk = some w.heap.size ∨ blkOf ρ' hp.length blk = none) (hn : BlkOk (Gd F ρ hp w) ρ' (w.alloc obj) hp.length blk) : HRel F ρ' (hp ++ [blk]) sl (w.alloc obj) := by
  have h := h.ag hs hse hl
  rw [← Gd.ag hs hl] at hn
  have at' : ∀ k, k < hp.length → blkAt ρ' (hp ++ [blk]) k = blkAt ρ' hp k := fun k hk => by simp only [blkAt, List.getElem?_append_left hk]
  have new : ∀ k b, blkAt ρ' (hp ++ [blk]) k = some b → blkAt ρ' hp k = some b ∨ (k = hp.length ∧ b = w.heap.size) := by
    intro k b e
    rcases Nat.lt_or_ge k hp.length with hk | hk
    · exact .inl (by rwa [at' k hk] at e)
    · have := blkAt_lt e
      simp only [List.length_append, List.length_singleton] at this
      have ek : k = hp.length := by omega
      subst ek
      simp only [blkAt, List.getElem?_concat_length] at e
      rcases hb with hb | hb
      · rw [hb] at e; injection e with e; exact .inr ⟨rfl, e.symm⟩
      · rw [hb] at e; cases e
  have hk : ∀ b, b < w.heap.size → (w.alloc obj).heap[b]? = w.heap[b]? := fun b hb => Below.heap_alloc _ _ _ hb
  have hg : ∀ b, Gd F ρ' hp w b → Gd F ρ' (hp ++ [blk]) (w.alloc obj) b ∧ (w.alloc obj).heap[b]? = w.heap[b]? := fun b g =>
    ⟨⟨g.1, Nat.lt_of_lt_of_le g.2.1 (by simp), fun k e => (new k b e).elim (g.2.2 k) fun e => by have := g.2.1; omega⟩, hk b g.2.1⟩
  refine HRel.mk' (h.io.trans ⟨rfl, rfl, rfl⟩) (Nat.le_trans h.size (by simp)) (fun b h1 h2 => by rw [hk b (Nat.lt_of_lt_of_le (F.lt_of h1) h.size)]; exact h.keep b h1 h2) (fun k b e => ?_) (fun k cs x hh b h1 h2 => ?_) (fun k l b h1 h2 => ?_) (fun k b e => ?_) fun e he => RepC.mono (fun b g => ⟨(hg b g).1, fun o => rd_of_block (hg b g).2 o⟩) (h.imm e he)
  · rcases new k b e with e | ⟨_, rfl⟩
    · exact ⟨Nat.lt_of_lt_of_le (h.lo k b e).1 (by simp), (h.lo k b e).2⟩
    · exact ⟨by simp, .inl (.inl h.size)⟩
  · rcases new k b h2 with e | ⟨_, rfl⟩
    · have hkl := blkAt_lt e
      rw [List.getElem?_append_left hkl] at h1
      exact h.npb k cs x hh b h1 e
    · exact .inl h.size
  · rcases new k b h1 with e1 | ⟨rfl, rfl⟩
    · rcases new l b h2 with e2 | ⟨rfl, rfl⟩
      · exact h.inj k l b e1 e2
      · have := (h.lo k _ e1).1; omega
    · rcases new l _ h2 with e2 | ⟨rfl, _⟩
      · have := (h.lo l _ e2).1; omega
      · rfl
  · rcases Nat.lt_or_ge k hp.length with hkl | hkl
    · rw [List.getElem?_append_left hkl] at e
      exact (h.ok e).mono hg fun c hc => hk c (h.lo k c (by simp only [blkAt, e, hc])).1
    · have := lt_of_get e
      simp only [List.length_append, List.length_singleton] at this
      have ek : k = hp.length := by omega
      subst ek
      rw [List.getElem?_concat_length] at e
      injection e with e
      subst e
      exact hn.mono (fun b g => ⟨(hg b g).1, rfl⟩) fun _ _ => rfl
theorem findR_spec {i : Nat} : ∀ {hp : List Blk} {k j : Nat} {cs : List CT} {x : X}, findR i hp k = some (j, cs, x) → ∃ m, j = k + m ∧ hp[m]? = some (.rows cs x i)
  | [], _, _, _, _, h => by cases h
  | .rows cs' x' h' :: l, k, j, cs, x, h => by
    simp only [findR] at h
    split at h
    · rename_i e
      simp only [Option.some.injEq, Prod.mk.injEq] at h
      obtain ⟨rfl, rfl, rfl⟩ := h
      exact ⟨0, by simp, by simp [e]⟩
    · obtain ⟨m, h1, h2⟩ := findR_spec h
      exact ⟨m + 1, by omega, by simpa using h2⟩
  | .fix _ _ :: l, k, j, cs, x, h => by
    simp only [findR] at h
    obtain ⟨m, h1, h2⟩ := findR_spec h
    exact ⟨m + 1, by omega, by simpa using h2⟩
  | .none :: l, k, j, cs, x, h => by
    simp only [findR] at h
    obtain ⟨m, h1, h2⟩ := findR_spec h
    exact ⟨m + 1, by omega, by simpa using h2⟩
/-- what is told of a slice, whoever owns it -/
structure Told (rd : Rd) (G : Nat → Prop) (cs : List CT) (v : Value) (rows : List (List D)) : Prop where
  sh : ∃ a c, v = .slice a rows.length c ∧ rows.length ≤ c ∧ c ≤ maxLen ∧ (rows.length = 0 ∨ ∃ b o, a = some ⟨b, o, none⟩ ∧ ∀ i row, rows[i]? = some row → RepR rd G cs b (o + i * cs.length) row)
theorem HRel.told {F : Fr} {ρ : Env} {st : St} {w : World} (h : HRel F ρ st.hp st.sl w) {i : Nat} {cs : List CT} {x : X} {r : Option Nat} (he : st.ent i = some (cs, x, r)) : Told (rdW w) (Gd F ρ st.hp w) cs (ρ.vs i) (x.den ρ.ds).rows := by
  unfold St.ent at he
  split at he
  · rename_i j cs' x' hf
    simp only [Option.some.injEq, Prod.mk.injEq] at he
    obtain ⟨rfl, rfl, rfl⟩ := he
    obtain ⟨m, e, hm⟩ := findR_spec hf
    rcases h.rows m _ _ i hm with ⟨a, h1, h2⟩ | ⟨b, cp, h1, h2, h3, h4, h5, h6, h7⟩
    · exact ⟨a, 0, by rw [h1, h2]; rfl, by simp [h2], by simp [maxLen], .inl (by simp [h2])⟩
    · exact ⟨_, cp, h1, h3, h4, .inr ⟨b, 0, rfl, fun i row hi => by rw [Nat.zero_add]; exact h7 i row hi⟩⟩
  · split at he
    · rename_i e hf
      simp only [Option.some.injEq, Prod.mk.injEq] at he
      obtain ⟨rfl, rfl, rfl⟩ := he
      have hm := List.mem_of_find?_eq_some hf
      have hi := List.find?_some hf
      simp only [beq_iff_eq] at hi
      subst hi
      have k := h.imm e hm
      simp only [RepC] at k
      obtain ⟨a, c, h1, h2, h3, h4⟩ := k
      exact ⟨a, c, h1, h2, h3, h4.imp id fun ⟨b, o, e, _, hr⟩ => ⟨b, o, e, hr⟩⟩
    · cases he
theorem Told.len {rd : Rd} {G : Nat → Prop} {cs : List CT} {v : Value} {d : D} (h : Told rd G cs v d.rows) : d.len = d.rows.length := by
  obtain ⟨a, c, _, h1, h2, _⟩ := h.sh
  unfold maxLen at h2
  unfold D.len
  omega
theorem xLen_den {ρ : List D} : ∀ (x : X), ((xLen x).den ρ).int = (x.den ρ).len
  | .put l i c x => by
    have := xLen_den (ρ := ρ) l
    simp only [xLen, X.den, this, D.len, D.put, D.rows, List.length_set]
  | .rows r => by
    simp only [xLen]
    split
    · simp only [X.den, D.int, D.len, D.rows, xdenss_eq, List.length_map]
      omega
    · simp only [X.den, D.int]
  | .rep n r => by
    simp only [xLen]
    split
    · rename_i l
      simp only [X.den, D.int, D.len, D.rows, List.length_replicate]
      omega
    · simp only [X.den, D.int]
  | .V _ | .N _ | .B _ | .S _ | .add _ _ | .sub _ _ | .mul _ _ | .quo _ _ | .rem _ _ | .mx _ _ | .mn _ _ | .wr _ _ | .not _ | .lt _ _ | .eq _ _ | .beq _ _ | .and _ _ | .seq _ _ | .at _ _ _ | .len _ | .app _ _ | .take _ _ | .drop _ _ | .slen _ | .sat _ _ | .scat _ _ | .cond _ _ _ | .ssub _ _ _ | .slt _ _ | .sbytes _ | .bstr _ => by
    simp only [xLen, X.den, D.int]
theorem xSlen_den {ρ : List D} (s : X) : ((xSlen s).den ρ).int = (s.den ρ).slen := by
  unfold xSlen
  split
  · split
    · simp only [X.den, D.int, D.slen, D.str]; omega
    · simp only [X.den, D.int]
  · simp only [X.den, D.int]
theorem xScat_den {ρ : List D} (s t : X) : ((xScat s t).den ρ).str = (s.den ρ).str ++ (t.den ρ).str := by
  unfold xScat
  split <;> simp only [X.den, D.str]
theorem xApp_den {ρ : List D} (a b : X) : ((xApp a b).den ρ).rows = (a.den ρ).rows ++ (b.den ρ).rows := by
  unfold xApp
  split <;> simp [X.den, D.rows, xdenss_eq, List.append_assoc]
theorem xTake_den {ρ : List D} (a n : X) : ((xTake a n).den ρ).rows = (a.den ρ).rows.take (n.den ρ).int.toNat := by
  unfold xTake
  split <;> simp [X.den, D.rows, D.int, xdenss_eq, List.map_take]
theorem xDrop_den {ρ : List D} (a n : X) : ((xDrop a n).den ρ).rows = (a.den ρ).rows.drop (n.den ρ).int.toNat := by
  unfold xDrop
  split <;> simp [X.den, D.rows, D.int, xdenss_eq, List.map_drop]
theorem xRep_den {ρ : List D} (n : X) (r : List X) : ((xRep n r).den ρ).rows = List.replicate (n.den ρ).int.toNat (X.dens ρ r) := by
  unfold xRep
  split
  · split <;> simp [X.den, D.rows, D.int, xdenss_eq]
  · simp [X.den, D.rows]
theorem xMn_den {ρ : List D} (a b : X) : ((xMn a b).den ρ).int = min (a.den ρ).int (b.den ρ).int := by
  unfold xMn
  split <;> simp [X.den, D.int]
theorem xAt_den {ρ : List D} (l i : X) (c : Nat) : (xAt l i c).den ρ = (l.den ρ).cell (i.den ρ).int c := by
  unfold xAt
  split
  · rename_i r z
    split
    · rename_i row hr
      split
      · rename_i x hx
        simp only [X.den, D.cell, D.rows, D.int, xdenss_eq, List.getD_eq_getElem?_getD, List.getElem?_map, hr, Option.map_some, Option.getD_some, xdens_eq, hx]
      · simp only [X.den]
    · simp only [X.den]
  · simp only [X.den]
section
variable {P : Program}
theorem scalar_den {st : St} {F : Fr} {ρ : Env} {w : World} (hH : HRel F ρ st.hp st.sl w) {x : SV} (h : x.scalar st.has = true) : scalarV (x.den ρ) = true ∧ x.isUnd = false := by
  cases x with
  | var i =>
    simp only [SV.scalar, St.has, Option.isSome_iff_exists] at h
    obtain ⟨⟨cs, y, r⟩, he⟩ := h
    obtain ⟨a, c, hv, _⟩ := (hH.told he).sh
    exact ⟨by simp only [SV.den, hv]; rfl, rfl⟩
  | con v => exact ⟨h, rfl⟩
  | el i e n o => cases h
  | agg l => cases h
  | tuple l => cases h
  | und => cases h
  | _ => exact ⟨rfl, rfl⟩
theorem scalar_den0 {ρ : Env} {x : SV} (h : x.scalar (fun _ => false) = true) : scalarV (x.den ρ) = true ∧ x.isUnd = false := by
  cases x with
  | var i => cases h
  | con v => exact ⟨h, rfl⟩
  | el i e n o => cases h
  | agg l => cases h
  | tuple l => cases h
  | und => cases h
  | _ => exact ⟨rfl, rfl⟩
theorem cells_of {ρ : Env} {x : SV} {l : List SV} {f : Nat → Bool} (hs : x.scalar f = true → scalarV (x.den ρ) = true) (h : x.cells f = some l) : (x.den ρ).cells = (SV.dens ρ l).toArray := by
  unfold SV.cells at h
  split at h
  · injection h with h; subst h; simp only [SV.den]; rfl
  · split at h
    · rename_i k
      injection h with h
      subst h
      have := hs k
      simp only [SV.dens]
      generalize x.den ρ = v at this
      cases v <;> first | rfl | cases this
    · cases h
theorem cells_den {st : St} {F : Fr} {ρ : Env} {w : World} (hH : HRel F ρ st.hp st.sl w) {x : SV} {l : List SV} (h : x.cells st.has = some l) : (x.den ρ).cells = (SV.dens ρ l).toArray :=
  cells_of (fun k => (scalar_den hH k).1) h
theorem cells_den0 {ρ : Env} {x : SV} {l : List SV} (h : x.cells (fun _ => false) = some l) : (x.den ρ).cells = (SV.dens ρ l).toArray :=
  cells_of (fun k => (scalar_den0 k).1) h
theorem den_of1 (ρ : Env) (v : Value) : (of1 v).den ρ = v := by
  cases v <;> simp [of1, SV.den, X.den, D.int, D.boo, D.str]
theorem den_ofVal (ρ : Env) (v : Value) : (ofVal v).den ρ = v := by
  cases v with
  | agg cs =>
    simp only [ofVal, SV.den, dens_eq, List.map_map]
    congr 1
    rw [show (SV.den ρ ∘ of1) = id from funext fun v => den_of1 ρ v]
    simp
  | _ => simp [ofVal, of1, SV.den, X.den, D.int, D.boo, D.str]
theorem sizeOf_run {t : TypeId} {n : Nat} (h : sizeB P t = some n) (w : World) : (sizeOf t).run P w = .ok n w := by
  unfold sizeB at h
  cases e : P.info? t with
  | none => rw [e] at h; simp at h
  | some i => rw [e] at h; simp at h; simp [sizeOf, typeInfo, e, h]
theorem under_run {t : TypeId} {d : TypeDesc} (h : P.underlying t = some d) (w : World) : (underlying t).run P w = .ok d w := by
  simp [underlying, h]
theorem isAgg_run {t : TypeId} {d : TypeDesc} (h : P.underlying t = some d) (w : World) : (isAgg t).run P w = .ok (isAggB P t) w := by
  simp only [isAgg, Sem.run_bind, under_run h, Result.andThen_ok, isAggB, h]
  cases d <;> rfl
theorem zero_run {t : TypeId} {z : SV} (h : zeroB P t = some z) (ρ : Env) (w : World) : (zeroValue t).run P w = .ok (z.den ρ) w := by
  unfold zeroB at h
  cases e : P.info? t with
  | none => rw [e] at h; simp at h
  | some i =>
    rw [e] at h
    simp only at h
    cases z' : i.zero with
    | none => rw [z'] at h; simp at h
    | some v => rw [z'] at h; simp at h; subst h; simp [zeroValue, typeInfo, e, z', den_ofVal]
theorem newVar_run (t : TypeId) (v : Value) (w : World) : (newVar t v).run P w = .ok ⟨w.heap.size, 0, none⟩ (w.alloc (.cells v.cells t)) := rfl
theorem newRow_run (t : TypeId) (v : Array Value) (w : World) : (newRow t v).run P w = .ok ⟨w.heap.size, 0, none⟩ (w.alloc (.cells v t)) := rfl
theorem readN_spec : ∀ {n o : Nat} {cs l : List SV}, readN cs o n = some l → l.length = n ∧ ∀ j v, l[j]? = some v → cs[o + j]? = some v ∧ v.isUnd = false
  | 0, o, cs, l, h => by simp [readN] at h; subst h; simp
  | n + 1, o, cs, l, h => by
    simp only [readN] at h
    split at h
    · rename_i x l' hx hl
      split at h
      · cases h
      rename_i hu
      injection h with h
      subst h
      obtain ⟨h1, h2⟩ := readN_spec hl
      refine ⟨by simp [h1], fun j v hj => ?_⟩
      cases j with
      | zero => simp at hj; subst hj; exact ⟨hx, by simpa using hu⟩
      | succ j => simp at hj; have := h2 j v hj; rwa [show o + 1 + j = o + (j + 1) by omega] at this
    · cases h
theorem load_run {F : Fr} {ρ : Env} {hp : List Blk} {sl : List Ent} {w : World} (hH : HRel F ρ hp sl w) {t : TypeId} {i o : Nat} {v : SV} (h : loadS P hp t i o = some v) :
    (loadVar t ⟨ρ.β i, o, none⟩).run P w = .ok (v.den ρ) w := by
  unfold loadS at h
  split at h
  · rename_i cells wr hb
    split at h
    · rename_i d n hd hn
      simp only [loadVar, Sem.run_bind, isAgg_run hd, Result.andThen_ok]
      split at h
      · rename_i ha
        rw [Option.map_eq_some_iff] at h
        obtain ⟨l, hl, rfl⟩ := h
        obtain ⟨h1, h2⟩ := readN_spec hl
        have k := run_loadCells_list (P := P) w ⟨ρ.β i, o, none⟩ (SV.dens ρ l) (fun j v hj => by
          rw [dens_get, Option.map_eq_some_iff] at hj
          obtain ⟨x, hx, rfl⟩ := hj
          rw [addr_add]
          exact hH.fix i cells wr hb _ _ (h2 j x hx).1 (h2 j x hx).2)
        rw [dens_len, h1] at k
        simp only [ha, if_true, Sem.run_bind, sizeOf_run hn, Result.andThen_ok, k, Sem.run_pure, SV.den]
      · rename_i ha
        split at h
        · rename_i x hx
          split at h
          · cases h
          rename_i hu
          injection h with h
          subst h
          have := hH.fix i cells wr hb _ _ hx (by simpa using hu)
          simp only [ha, Bool.false_eq_true, if_false, run_load, this]
        · cases h
    · cases h
  · cases h
theorem glob_run {ρ : Env} {w : World} {g : Nat} {cs : List SV} (hc : ∀ o x, cs[o]? = some x → w.cell? ⟨g, o, none⟩ = some (x.den ρ)) {t : TypeId} {o : Nat} {v : SV} (h : loadS P [.fix cs false] t 0 o = some v) :
    (loadVar t ⟨g, o, none⟩).run P w = .ok (v.den ρ) w := by
  unfold loadS at h
  split at h
  · rename_i cells wr hb
    simp only [List.getElem?_cons_zero, Option.some.injEq, Blk.fix.injEq] at hb
    obtain ⟨rfl, rfl⟩ := hb
    split at h
    · rename_i d n hd hn
      simp only [loadVar, Sem.run_bind, isAgg_run hd, Result.andThen_ok]
      split at h
      · rename_i ha
        rw [Option.map_eq_some_iff] at h
        obtain ⟨l, hl, rfl⟩ := h
        obtain ⟨h1, h2⟩ := readN_spec hl
        have k := run_loadCells_list (P := P) w ⟨g, o, none⟩ (SV.dens ρ l) (fun j v hj => by
          rw [dens_get, Option.map_eq_some_iff] at hj
          obtain ⟨x, hx, rfl⟩ := hj
          rw [addr_add]
          exact hc _ _ (h2 j x hx).1)
        rw [dens_len, h1] at k
        simp only [ha, if_true, Sem.run_bind, sizeOf_run hn, Result.andThen_ok, k, Sem.run_pure, SV.den]
      · rename_i ha
        split at h
        · rename_i x hx
          split at h
          · cases h
          rename_i hu
          injection h with h
          subst h
          have := hc _ _ hx
          simp only [ha, Bool.false_eq_true, if_false, run_load, this]
        · cases h
    · cases h
  · cases h
theorem store_step {a : Addr} {v : Value} {w : World} (hc : (w.cell? a).isSome) (hf : w.frozen? a = false) (hv : scalarV v = true) : (store a v).run P w = .ok () (w.setCell a v) := by
  obtain ⟨u, hc⟩ := Option.isSome_iff_exists.1 hc
  cases v <;> first | (simp [scalarV] at hv; done) | simp [store, Sem.run, hc, hf]
theorem HRel.setFix {F : Fr} {ρ : Env} {hp : List Blk} {sl : List Ent} {w : World} (h : HRel F ρ hp sl w) {i j : Nat} {cs : List SV} (hi : hp[i]? = some (.fix cs true)) (hj : j < cs.length) (x : SV) :
    HRel F ρ (hp.set i (.fix (cs.set j x) true)) sl (w.setCell ⟨ρ.β i, j, none⟩ (x.den ρ)) := by
  refine h.chg (blkAt_fix hi) (by simp) (fun b hb => Below.heap_setCell _ _ _ _ (fun e => hb e)) ⟨rfl, rfl, rfl⟩ rfl (fun _ _ _ e => by cases e) ⟨fun o y hy hu => ?_, fun o ho => ?_, fun _ o => ?_⟩
  · by_cases eo : o = j
    · subst eo
      rw [List.getElem?_set_self hj] at hy
      injection hy with hy
      subst hy
      obtain ⟨u, hc⟩ := Option.isSome_iff_exists.1 (h.has i cs true hi o hj)
      exact World.cell?_setCell_same _ _ _ hc
    · rw [List.getElem?_set_ne (fun e => eo e.symm)] at hy
      rw [World.cell?_setCell_other _ _ _ _ (fun e => by injection e with _ e; exact eo e.symm)]
      exact h.fix i cs true hi o y hy hu
  · simp only [List.length_set] at ho
    obtain ⟨u, hc⟩ := Option.isSome_iff_exists.1 (h.has i cs true hi o ho)
    by_cases eo : o = j
    · subst eo
      rw [World.cell?_setCell_same _ _ _ hc]
      rfl
    · rw [World.cell?_setCell_other _ _ _ _ (fun e => by injection e with _ e; exact eo e.symm), hc]
      rfl
  · rw [World.frozen?_setCell]
    exact h.frz i cs hi o
theorem storeCells_run {F : Fr} {ρ : Env} {i : Nat} {sl : List Ent} {has : Nat → Bool} (hk : ∀ x : SV, x.scalar has = true → scalarV (x.den ρ) = true) : ∀ {l : List SV} {o k : Nat} {hp : List Blk} {cs cs' : List SV} {w : World}, HRel F ρ hp sl w → hp[i]? = some (.fix cs true) → setN has cs (o + k) l = some cs' →
    ∃ w', (storeCells ⟨ρ.β i, o, none⟩ (SV.dens ρ l) k).run P w = .ok () w' ∧ HRel F ρ (hp.set i (.fix cs' true)) sl w' ∧ w'.heap.size = w.heap.size
  | [], o, k, hp, cs, cs', w, hH, hi, h => by
    simp only [setN, Option.some.injEq] at h
    subst h
    refine ⟨w, by simp [SV.dens, storeCells], ?_, rfl⟩
    have hl := lt_of_get hi
    rw [show hp.set i (.fix cs true) = hp by
      have e : hp[i] = .fix cs true := by rw [List.getElem?_eq_getElem hl] at hi; injection hi
      rw [← e]; exact List.set_getElem_self hl]
    exact hH
  | x :: l, o, k, hp, cs, cs', w, hH, hi, h => by
    simp only [setN] at h
    split at h
    · rename_i hc
      obtain ⟨h1, h2⟩ := hc
      have hl := lt_of_get hi
      have hset := hH.setFix hi h1 x
      obtain ⟨w', e, k', z⟩ := storeCells_run hk (o := o) (k := k + 1) hset (by rw [List.getElem?_set_self hl]) (by rwa [show o + (k + 1) = o + k + 1 by omega])
      refine ⟨w', ?_, by simpa using k', by simpa using z⟩
      simp only [SV.dens, storeCells, Sem.run_bind, addr_add]
      rw [store_step (hH.has i _ _ hi (o + k) h1) (hH.frz i _ hi _) (hk x h2)]
      exact e
    · cases h
theorem store_run {F : Fr} {ρ : Env} {st : St} {hp' : List Blk} {w : World} (hH : HRel F ρ st.hp st.sl w) {t : TypeId} {i o : Nat} {x : SV} (h : storeS P st.has st.hp t i o x = some hp') :
    ∃ w', (storeVar t ⟨ρ.β i, o, none⟩ (x.den ρ)).run P w = .ok () w' ∧ HRel F ρ hp' st.sl w' ∧ w'.heap.size = w.heap.size ∧ hp'.length = st.hp.length := by
  unfold storeS at h
  split at h
  · rename_i cells n l hb hn hl
    split at h
    · rename_i hlen
      rw [Option.map_eq_some_iff] at h
      obtain ⟨cs, hs, rfl⟩ := h
      obtain ⟨w', e, k, z⟩ := storeCells_run (P := P) (fun x hx => (scalar_den hH hx).1) (k := 0) hH hb hs
      refine ⟨w', ?_, k, z, by simp⟩
      have hcd := cells_den hH hl
      simp only [storeVar, Sem.run_bind, sizeOf_run hn, Result.andThen_ok, hcd, List.size_toArray, dens_len, hlen, ne_eq, not_true_eq_false, if_false]
      simpa using e
    · cases h
  · cases h
theorem part_run {t : TypeId} {cs : List SV} {off : Nat} {v : SV} (h : partS P t cs off = some v) (ρ : Env) (w : World) :
    (part t (SV.dens ρ cs).toArray off).run P w = .ok (v.den ρ) w := by
  unfold partS at h
  split at h
  · cases h
  rename_i hn
  obtain ⟨d, hd⟩ : ∃ d, P.underlying t = some d := by
    cases e : P.underlying t with
    | none => rw [e] at hn; exact absurd rfl hn
    | some d => exact ⟨d, rfl⟩
  simp only [part, Sem.run_bind, isAgg_run hd, Result.andThen_ok]
  split at h
  · rename_i ha
    rw [Option.map_eq_some_iff] at h
    obtain ⟨n, hn, rfl⟩ := h
    simp only [ha, if_true, Sem.run_bind, sizeOf_run hn, Result.andThen_ok, Sem.run_pure, SV.den]
    congr 2
    simp [dens_eq, List.map_take, List.map_drop]
  · rename_i ha
    have : (SV.dens ρ cs)[off]? = some (v.den ρ) := by rw [dens_get, h]; rfl
    simp only [ha, Bool.false_eq_true, if_false, List.getElem?_toArray, this, Sem.run_pure]
end
end Fx
end Go.Proofs.Ytlhnhidoljfnnaa
