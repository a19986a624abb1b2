/- XSym's operations are sound: each operation that is no call. -/
import Derived.Test.YthfagiihfkjamaaSymB
import Derived.Laws.IdiomCopy
namespace Go.Proofs.Ythfagiihfkjamaa
open Go.RowKit
namespace Sym
section
variable {P : Program} {s : Sp} {n0 : Nat}
theorem sizeOf_run {t : TypeId} {n : Nat} (h : sizeB P t = some n) (w : World) : (sizeOf t).run P w = .ok n w := by
  unfold sizeB at h
  cases e : P.info? t with
  | none => rw [e] at h; simp at h
  | some i => rw [e] at h; simp at h; simp [sizeOf, typeInfo, e, h]
theorem under_run {t : TypeId} {d : TypeDesc} (h : P.underlying t = some d) (w : World) : (underlying t).run P w = .ok d w := by
  simp [underlying, h]
theorem isAgg_run {t : TypeId} {d : TypeDesc} (h : P.underlying t = some d) (w : World) : (isAgg t).run P w = .ok (isAggB P t) w := by
  simp only [isAgg, Sem.run_bind, under_run h, Result.andThen_ok, isAggB, h]
  cases d <;> rfl
theorem zero_run {t : TypeId} {z : SV} (h : zeroB P t = some z) (ρ : Env) (β : List Nat) (w : World) : (zeroValue t).run P w = .ok (z.den ρ β) w := by
  unfold zeroB at h
  cases e : P.info? t with
  | none => rw [e] at h; simp at h
  | some i =>
    rw [e] at h
    simp only at h
    cases z' : i.zero with
    | none => rw [z'] at h; simp at h
    | some v => rw [z'] at h; simp at h; subst h; simp [zeroValue, typeInfo, e, z', den_ofVal]
theorem newVar_run (t : TypeId) (v : Value) (w : World) : (newVar t v).run P w = .ok ⟨w.heap.size, 0, none⟩ (w.alloc (.cells v.cells t)) := rfl
theorem newRow_run (t : TypeId) (v : Array Value) (w : World) : (newRow t v).run P w = .ok ⟨w.heap.size, 0, none⟩ (w.alloc (.cells v t)) := rfl
theorem readN_spec : ∀ {n o : Nat} {cs l : List SV}, readN cs o n = some l → l.length = n ∧ ∀ j v, l[j]? = some v → cs[o + j]? = some v
  | 0, o, cs, l, h => by simp [readN] at h; subst h; simp
  | n + 1, o, cs, l, h => by
    simp only [readN] at h
    split at h
    · rename_i x l' hx hl
      injection h with h
      subst h
      obtain ⟨h1, h2⟩ := readN_spec hl
      refine ⟨by simp [h1], fun j v hj => ?_⟩
      cases j with
      | zero => simp at hj; subst hj; exact hx
      | succ j => simp at hj; have := h2 j v hj; rwa [show o + 1 + j = o + (j + 1) by omega] at this
    · cases h
theorem addr_add (b o n : Nat) : (⟨b, o, none⟩ : Addr).add n = ⟨b, o + n, none⟩ := by
  unfold Addr.add
  split
  · rename_i e; subst e; rfl
  · rfl
theorem load_run {ρ : Env} {β : List Nat} {hp : List Blk} {w : World} (hH : HRel s n0 ρ β hp w) {t : TypeId} {i o : Nat} {v : SV} (h : loadS P hp t i o = some v) :
    (loadVar t ⟨β.getD i 0, o, none⟩).run P w = .ok (v.den ρ β) w := by
  unfold loadS at h
  split at h
  · cases h
  · rename_i b hb
    split at h
    · rename_i d n hd hn
      simp only [loadVar, Sem.run_bind, isAgg_run hd, Result.andThen_ok]
      split at h
      · rename_i ha
        rw [Option.map_eq_some_iff] at h
        obtain ⟨l, hl, rfl⟩ := h
        obtain ⟨h1, h2⟩ := readN_spec hl
        have k := run_loadCells_list (P := P) w ⟨β.getD i 0, o, none⟩ (SV.dens ρ β l) (fun j v hj => by
          rw [dens_get, Option.map_eq_some_iff] at hj
          obtain ⟨x, hx, rfl⟩ := hj
          rw [addr_add]
          exact hH.cells i b hb _ _ (h2 j x hx))
        rw [dens_len, h1] at k
        simp only [ha, if_true, Sem.run_bind, sizeOf_run hn, Result.andThen_ok, k, Sem.run_pure, SV.den]
      · rename_i ha
        have := hH.cells i b hb _ _ h
        simp only [ha, Bool.false_eq_true, if_false, run_load, this]
    · cases h
theorem store_step {a : Addr} {v u : Value} {w : World} (hc : w.cell? a = some u) (hf : w.frozen? a = false) (hv : scalarV v = true) : (store a v).run P w = .ok () (w.setCell a v) := by
  cases v <;> first | (simp [scalarV] at hv; done) | simp [store, Sem.run, hc, hf]
theorem storeCells_run (F : Inv n0 s) {ρ : Env} {β : List Nat} {i : Nat} {sk : List Nat} (hk : SkOk ρ.vs sk) : ∀ {l : List SV} {o k : Nat} {hp : List Blk} {cs cs' : List SV} {w : World}, HRel s n0 ρ β hp w → hp[i]? = some ⟨cs, true⟩ → setN sk cs (o + k) l = some cs' →
    ∃ w', (storeCells ⟨β.getD i 0, o, none⟩ (SV.dens ρ β l) k).run P w = .ok () w' ∧ HRel s n0 ρ β (hp.set i ⟨cs', true⟩) w' ∧ w'.heap.size = w.heap.size
  | [], o, k, hp, cs, cs', w, hH, hi, h => by
    simp only [setN, Option.some.injEq] at h
    subst h
    refine ⟨w, by simp [SV.dens, storeCells], ?_, rfl⟩
    have hl := (hH.mem hi).2
    rw [hH.len] at hl
    rw [show hp.set i ⟨cs, true⟩ = hp by
      have e : hp[i] = ⟨cs, true⟩ := by rw [List.getElem?_eq_getElem hl] at hi; injection hi
      rw [← e]; exact List.set_getElem_self hl]
    exact hH
  | x :: l, o, k, hp, cs, cs', w, hH, hi, h => by
    simp only [setN] at h
    split at h
    · rename_i hc
      obtain ⟨h1, h2⟩ := hc
      have hl := (hH.mem hi).2
      rw [hH.len] at hl
      have hset := hH.set F hi h1 x
      obtain ⟨w', e, k', z⟩ := storeCells_run F hk (o := o) (k := k + 1) hset (by rw [List.getElem?_set_self hl]) (by rwa [show o + (k + 1) = o + k + 1 by omega])
      refine ⟨w', ?_, by simpa using k', by simpa using z⟩
      simp only [SV.dens, storeCells, Sem.run_bind, addr_add]
      rw [store_step (hH.cells i _ hi (o + k) _ (List.getElem?_eq_getElem h1)) (hH.frz i _ hi rfl _) (scalar_den hk h2)]
      exact e
    · cases h
theorem store_run (F : Inv n0 s) {ρ : Env} {β : List Nat} {hp hp' : List Blk} {w : World} {sk : List Nat} (hk : SkOk ρ.vs sk) (hH : HRel s n0 ρ β hp w) {t : TypeId} {i o : Nat} {x : SV} (h : storeS P sk hp t i o x = some hp') :
    ∃ w', (storeVar t ⟨β.getD i 0, o, none⟩ (x.den ρ β)).run P w = .ok () w' ∧ HRel s n0 ρ β hp' w' ∧ w'.heap.size = w.heap.size := by
  unfold storeS at h
  split at h
  · rename_i b n l hb hn hl
    split at h
    · rename_i hc
      obtain ⟨hw, hlen⟩ := hc
      rw [Option.map_eq_some_iff] at h
      obtain ⟨cs, hs, rfl⟩ := h
      obtain ⟨cells, wr⟩ := b
      simp only at hw hs
      subst hw
      obtain ⟨w', e, k⟩ := storeCells_run (P := P) F hk (k := 0) hH hb hs
      refine ⟨w', ?_, k⟩
      have hcd := cells_den (ρ := ρ) (β := β) hk hl
      simp only [storeVar, Sem.run_bind, sizeOf_run hn, Result.andThen_ok, hcd, List.size_toArray, dens_len, hlen, ne_eq, not_true_eq_false, if_false]
      simpa using e
    · cases h
  · cases h
theorem part_run {t : TypeId} {cs : List SV} {off : Nat} {v : SV} (h : partS P t cs off = some v) (ρ : Env) (β : List Nat) (w : World) :
    (part t (SV.dens ρ β cs).toArray off).run P w = .ok (v.den ρ β) w := by
  unfold partS at h
  split at h
  · cases h
  rename_i hn
  obtain ⟨d, hd⟩ : ∃ d, P.underlying t = some d := by
    cases e : P.underlying t with
    | none => rw [e] at hn; exact absurd rfl hn
    | some d => exact ⟨d, rfl⟩
  simp only [part, Sem.run_bind, isAgg_run hd, Result.andThen_ok]
  split at h
  · rename_i ha
    rw [Option.map_eq_some_iff] at h
    obtain ⟨n, hn, rfl⟩ := h
    simp only [ha, if_true, Sem.run_bind, sizeOf_run hn, Result.andThen_ok, Sem.run_pure, SV.den]
    congr 2
    simp [dens_eq, List.map_take, List.map_drop]
  · rename_i ha
    have : (SV.dens ρ β cs)[off]? = some (v.den ρ β) := by rw [dens_get, h]; rfl
    simp only [ha, Bool.false_eq_true, if_false, List.getElem?_toArray, this, Sem.run_pure]
end
end Sym
end Go.Proofs.Ythfagiihfkjamaa
