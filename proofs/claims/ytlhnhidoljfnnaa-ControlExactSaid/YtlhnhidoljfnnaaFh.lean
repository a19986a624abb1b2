/- XFd is sound: cases, numbers, rows, and each operation that is no call. -/
import Derived.Test.YtlhnhidoljfnnaaFg
set_option linter.unusedVariables false
namespace Go.Proofs.Ytlhnhidoljfnnaa
open Go.RowKit
namespace Fx
structure Like (st st' : St) : Prop where
  tm : st'.tm = st.tm
  hp : st'.hp = st.hp
  nd : st'.nd = st.nd
  nv : st'.nv = st.nv
  sl : st'.sl = st.sl
theorem Like.refl (st : St) : Like st st := ⟨rfl, rfl, rfl, rfl, rfl⟩
theorem Like.trans {a b c : St} (h : Like a b) (k : Like b c) : Like a c := ⟨k.tm.trans h.tm, k.hp.trans h.hp, k.nd.trans h.nd, k.nv.trans h.nv, k.sl.trans h.sl⟩
theorem seek_ok {ρ : List D} {b : X} {t : Bool} : ∀ {l : List (X × Bool)}, (∀ p ∈ l, (p.1.den ρ).boo = p.2) → seek b l = some t → (b.den ρ).boo = t
  | [], _, h => by simp [seek] at h
  | (c, u) :: l, hk, h => by
    simp only [seek] at h
    split at h
    · rename_i e
      have e := X.same_eq e
      subst e
      injection h with h
      subst h
      exact hk (b, u) (by simp)
    · exact seek_ok (fun p hp => hk p (by simp [hp])) h
theorem tell_rel {ρ : List D} {st : St} (h : PRel ρ st) {b : X} {t : Bool} (hb : (b.den ρ).boo = t) : PRel ρ (st.tell b t) :=
  ⟨h.nd, tell_ok h.bd hb, fun p hp => by
    simp only [St.tell, List.mem_cons] at hp
    rcases hp with rfl | hp
    · exact hb
    · exact h.kn p hp⟩
theorem tell_like (st : St) (b : X) (t : Bool) : Like st (st.tell b t) := ⟨rfl, rfl, rfl, rfl, rfl⟩
section
variable {M : Models} {N : Nat}
theorem tIte_some {α : Type} {ρ : List D} {st : St} {b : X} {x y : St → T α} {r : α × List D} (hP : PRel ρ st) (h : (tIte st b x y).eval M N ρ = some r) :
    ∃ st', PRel ρ st' ∧ Like st st' ∧ (((b.den ρ).boo = true ∧ (x st').eval M N ρ = some r) ∨ ((b.den ρ).boo = false ∧ (y st').eval M N ρ = some r)) := by
  unfold tIte at h
  split at h
  · exact ⟨st, hP, .refl _, .inl ⟨by simp [X.den, D.boo], h⟩⟩
  · exact ⟨st, hP, .refl _, .inr ⟨by simp [X.den, D.boo], h⟩⟩
  · rename_i b
    have nb : ∀ {t : Bool}, (b.den ρ).boo = t → ((X.not b).den ρ).boo = !t := fun e => by simp [X.den, D.boo] at *; exact e
    split at h
    · rename_i k
      exact ⟨st, hP, .refl _, .inr ⟨nb (seek_ok hP.kn k), h⟩⟩
    · rename_i k
      exact ⟨st, hP, .refl _, .inl ⟨nb (seek_ok hP.kn k), h⟩⟩
    · simp only [T.eval] at h
      cases e : (b.den ρ).boo with
      | true => rw [if_pos e] at h; exact ⟨_, tell_rel hP e, tell_like _ _ _, .inr ⟨nb e, h⟩⟩
      | false => rw [if_neg (by rw [e]; decide)] at h; exact ⟨_, tell_rel hP e, tell_like _ _ _, .inl ⟨nb e, h⟩⟩
  · split at h
    · rename_i k
      exact ⟨st, hP, .refl _, .inl ⟨seek_ok hP.kn k, h⟩⟩
    · rename_i k
      exact ⟨st, hP, .refl _, .inr ⟨seek_ok hP.kn k, h⟩⟩
    · simp only [T.eval] at h
      cases e : (b.den ρ).boo with
      | true => rw [if_pos e] at h; exact ⟨_, tell_rel hP e, tell_like _ _ _, .inl ⟨rfl, h⟩⟩
      | false => rw [if_neg (by rw [e]; decide)] at h; exact ⟨_, tell_rel hP e, tell_like _ _ _, .inr ⟨rfl, h⟩⟩
theorem tNeed_some {α : Type} {ρ : List D} {st : St} {b : X} {x : St → T α} {r : α × List D} (hP : PRel ρ st) (h : (tNeed st b x).eval M N ρ = some r) :
    (b.den ρ).boo = true ∧ ∃ st', PRel ρ st' ∧ Like st st' ∧ (x st').eval M N ρ = some r := by
  unfold tNeed at h
  split at h
  · exact ⟨by simp [X.den, D.boo], st, hP, .refl _, h⟩
  · simp [T.eval] at h
  · split at h
    · rename_i k
      exact ⟨seek_ok hP.kn k, st, hP, .refl _, h⟩
    · simp only [T.eval] at h
      split at h
      · rename_i e
        exact ⟨e, _, tell_rel hP e, tell_like _ _ _, h⟩
      · cases h
theorem pick_some {α : Type} {ρ : List D} {e : X} {k : Nat → St → T α} {r : α × List D} : ∀ (n i : Nat) (st : St), PRel ρ st → (pick st e k n i).eval M N ρ = some r →
    ∃ (j : Nat) (st' : St), (e.den ρ).int = j ∧ PRel ρ st' ∧ Like st st' ∧ (k j st').eval M N ρ = some r
  | 0, _, _, _, h => by simp [pick, T.eval] at h
  | n + 1, i, st, hP, h => by
    obtain ⟨st', p, l, ⟨hb, h⟩ | ⟨hb, h⟩⟩ := tIte_some hP h
    · rw [bEq_den hP.bd] at hb
      exact ⟨i, st', by simpa [X.den, D.int] using of_decide_eq_true hb, p, l, h⟩
    · obtain ⟨j, st2, a, b, c, d⟩ := pick_some n (i + 1) st' p h
      exact ⟨j, st2, a, b, l.trans c, d⟩
theorem within_den {ρ : List D} {st : St} (hP : PRel ρ st) {e len : X} (h : ((within st e len).den ρ).boo = true) : 0 ≤ (e.den ρ).int ∧ (e.den ρ).int < (len.den ρ).int := by
  rw [within, bAnd_den, bLe_den hP.bd, bLt_den hP.bd, Bool.and_eq_true, decide_eq_true_eq, decide_eq_true_eq] at h
  exact ⟨by simpa [X.den, D.int] using h.1, h.2⟩
theorem indexed_some {α : Type} {ρ : List D} {st : St} {e : X} {len : Nat} {k : Nat → St → T α} {r : α × List D} (hP : PRel ρ st) (h : (indexed st e len k).eval M N ρ = some r) :
    ∃ (j : Nat) (st' : St), j < len ∧ (e.den ρ).int = j ∧ PRel ρ st' ∧ Like st st' ∧ (k j st').eval M N ρ = some r := by
  obtain ⟨hw, st', p, l, h⟩ := tNeed_some hP h
  have hw := within_den hP hw
  simp only [X.den, D.int] at hw
  split at h
  · simp only [X.den, D.int] at hw ⊢
    exact ⟨_, st', by omega, by omega, p, l, h⟩
  · split at h
    · obtain ⟨j, st2, a, b, c, d⟩ := pick_some _ _ _ p h
      have a' : (e.den ρ).int = j := a
      have hw' : 0 ≤ (e.den ρ).int ∧ (e.den ρ).int < len := hw
      exact ⟨j, st2, by omega, a, b, l.trans c, d⟩
    · simp [T.eval] at h
/-- what a step leaves -/
structure Stp (F : Fr) (ρ ρ' : Env) (st st' : St) (w w' : World) : Prop where
  ag : Ag st.nd st.nv st.nh ρ ρ'
  p : PRel ρ'.ds st'
  h : HRel F ρ' st'.hp st'.sl w'
  tm : st'.tm = st.tm
  nd : st.nd ≤ st'.nd
  nv : st.nv ≤ st'.nv
  nh : st.nh ≤ st'.nh
  keep : ∀ x ∈ st.tm, x.isUnd = false → x.den ρ' = x.den ρ
  size : w.heap.size ≤ w'.heap.size
def Val (ρ' : Env) (sv : SV) (nx : Next) : Prop := (∃ v, nx = .value v ∧ (sv.isUnd = false → v = sv.den ρ')) ∨ (nx = .skip ∧ sv = .con undef)
theorem Stp.like {F : Fr} {ρ : Env} {st st' : St} {w : World} (hP : PRel ρ.ds st') (hH : HRel F ρ st.hp st.sl w) (hl : Like st st') : Stp F ρ ρ st st' w w :=
  ⟨Ag.refl _ _ _ _, hP, by rw [hl.hp, hl.sl]; exact hH, hl.tm, by rw [hl.nd]; exact Nat.le_refl _, by rw [hl.nv]; exact Nat.le_refl _, by rw [St.nh, St.nh, hl.hp]; exact Nat.le_refl _, fun _ _ _ => rfl, Nat.le_refl _⟩
/-- the outcome of an operation that is no call -/
def Opd (P : Program) (F : Fr) (ρ : Env) (st : St) (sv : SV) (st' : St) (ds' : List D) (o : Oper) (a : Act) (w : World) : Prop :=
  ∃ ρ' nx w', ρ'.ds = ds' ∧ (execOp a.eval o).run P w = .ok nx w' ∧ Val ρ' sv nx ∧ Stp F ρ ρ' st st' w w'
variable {P : Program} {F : Fr}
theorem opd_plain {ρ : Env} {st st0 st' : St} {ds' : List D} {o : Oper} {sv sv' : SV} {a : Act} {w : World} (hP : PRel ρ.ds st0) (hH : HRel F ρ st.hp st.sl w) (hl : Like st st0) (h : (T.ret (sv', st0)).eval M N ρ.ds = some ((sv, st'), ds'))
    (hr : (execOp a.eval o).run P w = .ok (.value (sv'.den ρ)) w) : Opd P F ρ st sv st' ds' o a w := by
  simp only [T.eval, Option.some.injEq, Prod.mk.injEq] at h
  obtain ⟨⟨rfl, rfl⟩, rfl⟩ := h
  exact ⟨ρ, _, w, rfl, hr, .inl ⟨_, rfl, fun _ => rfl⟩, Stp.like hP hH hl⟩
theorem evalO_like {st st' : St} (l : Like st st') (x : Operand) : evalO st' x = evalO st x := by cases x <;> simp [evalO, l.tm]
theorem Like.ent {st st' : St} (l : Like st st') (i : Nat) : st'.ent i = st.ent i := by simp only [St.ent, l.hp, l.sl]
theorem Like.has {st st' : St} (l : Like st st') : st'.has = st.has := funext fun i => by simp only [St.has, l.ent]
mutual
theorem CT.same_eq : ∀ {x y : CT}, x.same y = true → x = y
  | .int k, y, h => by cases y <;> simp only [CT.same, Bool.false_eq_true, beq_iff_eq] at h; rw [h]
  | .bool, y, h => by cases y <;> simp only [CT.same, Bool.false_eq_true] at h; rfl
  | .str, y, h => by cases y <;> simp only [CT.same, Bool.false_eq_true] at h; rfl
  | .sl cs, y, h => by cases y <;> simp only [CT.same, Bool.false_eq_true] at h; rw [CT.sames_eq h]
theorem CT.sames_eq : ∀ {x y : List CT}, CT.sames x y = true → x = y
  | [], y, h => by cases y <;> simp only [CT.sames, Bool.false_eq_true] at h; rfl
  | x :: xs, y, h => by
    cases y <;> simp only [CT.sames, Bool.false_eq_true, Bool.and_eq_true] at h
    rw [CT.same_eq h.1, CT.sames_eq h.2]
end
theorem eqGuard_none (op : BinOp) (t : TypeId) (x y : Operand) (u v : Value) (w : World) (h : op ≠ .eql ∧ op ≠ .neq) : (eqGuard op t x y u v).run P w = .ok () w := by
  unfold eqGuard
  cases op <;> simp at h ⊢
theorem splice (off : Nat) : ∀ (l : List Value) (k : Nat) (cells : List Value), off + k + l.length ≤ cells.length →
    (l.zipIdx k).foldl (fun (cs : List Value) (x : Value × Nat) => cs.set (off + x.2) x.1) cells = cells.take (off + k) ++ l ++ cells.drop (off + k + l.length)
  | [], k, cells, _ => by simp
  | x :: l, k, cells, h => by
    simp only [List.length_cons] at h
    simp only [List.zipIdx_cons, List.foldl_cons]
    rw [splice off l (k + 1) _ (by simp; omega)]
    rw [List.take_set, List.drop_set, if_pos (by omega)]
    simp only [List.length_cons]
    rw [show off + (k + 1) = off + k + 1 by omega, show off + k + 1 + l.length = off + k + (l.length + 1) by omega]
    have e : (List.take (off + k + 1) cells).set (off + k) x = cells.take (off + k) ++ [x] := by
      apply List.ext_getElem?
      intro i
      rw [List.getElem?_set]
      rcases Nat.lt_trichotomy i (off + k) with q | q | q
      · rw [if_neg (by omega), List.getElem?_append_left (by simp; omega), List.getElem?_take_of_lt (by omega), List.getElem?_take_of_lt (by omega)]
      · subst q
        rw [if_pos rfl, if_pos (by simp; omega), List.getElem?_append_right (by simp; omega)]
        simp [Nat.min_eq_left (show off + k ≤ cells.length by omega)]
      · rw [if_neg (by omega), List.getElem?_eq_none (by simp; omega), List.getElem?_eq_none (by simp; omega)]
    rw [e]
    simp
theorem splice_arr (off : Nat) (l cells : List Value) (h : off + l.length ≤ cells.length) :
    l.toArray.zipIdx.foldl (fun (cs : Array Value) (x : Value × Nat) => cs.setIfInBounds (off + x.2) x.1) cells.toArray = (cells.take off ++ l ++ cells.drop (off + l.length)).toArray := by
  have key : ∀ (m : List (Value × Nat)) (c : List Value), m.foldl (fun (cs : Array Value) (x : Value × Nat) => cs.setIfInBounds (off + x.2) x.1) c.toArray = (m.foldl (fun (cs : List Value) (x : Value × Nat) => cs.set (off + x.2) x.1) c).toArray := by
    intro m
    induction m with
    | nil => intro c; rfl
    | cons x m ih => intro c; simp only [List.foldl_cons, List.setIfInBounds_toArray, ih]
  rw [← Array.foldl_toList, show l.toArray.zipIdx.toList = l.zipIdx by simp, key, splice off l 0 cells (by omega)]
  rfl
theorem fill_den {ρ : Env} {has : Nat → Bool} (hk : ∀ {x : SV} {l : List SV}, x.cells has = some l → (x.den ρ).cells = (SV.dens ρ l).toArray) {place : Nat → Option (Nat × Nat)} : ∀ {ps : List (Nat × SV)} {cells l : List SV}, fillS has place cells ps = some l →
    Instr.fill place (SV.dens ρ cells).toArray (ps.map fun p => (p.1, p.2.den ρ)) = some (SV.dens ρ l).toArray
  | [], cells, l, h => by simp only [fillS, Option.some.injEq] at h; subst h; rfl
  | (i, v) :: rest, cells, l, h => by
    simp only [fillS] at h
    split at h
    · rename_i off size l' hp hl
      split at h
      · cases h
      · rename_i hc
        have hcd := hk hl
        simp only [List.map_cons, Instr.fill, hp, hcd]
        simp only [not_or, Decidable.not_not, Nat.not_lt] at hc
        rw [if_neg (by simp [dens_len, hc.1]; omega)]
        have e := splice_arr off (SV.dens ρ l') (SV.dens ρ cells) (by simp only [dens_len]; exact hc.2)
        have e2 := fill_den (ρ := ρ) hk h
        simp only [dens_eq, List.map_append, List.map_take, List.map_drop] at e2 e ⊢
        simp only [List.length_map] at e
        rw [e]
        exact e2
    · cases h
theorem fill_nu {has : Nat → Bool} {place : Nat → Option (Nat × Nat)} : ∀ {ps : List (Nat × SV)} {cells l : List SV}, fillS has place cells ps = some l → ∀ p ∈ ps, p.2.isUnd = false
  | [], _, _, _, p, hp => by cases hp
  | (i, v) :: rest, cells, l, h, p, hp => by
    simp only [fillS] at h
    split at h
    · rename_i off size l' hpl hl
      split at h
      · cases h
      · rcases List.mem_cons.1 hp with rfl | hp
        · unfold SV.cells at hl
          cases v <;> first | rfl | (simp [SV.scalar] at hl; done)
        · exact fill_nu h p hp
    · cases h
theorem fill_sc {has : Nat → Bool} {nd nv nh : Nat} {place : Nat → Option (Nat × Nat)} : ∀ {ps : List (Nat × SV)} {cells l : List SV}, fillS has place cells ps = some l → l.length = cells.length
  | [], cells, l, h => by simp only [fillS, Option.some.injEq] at h; subst h; rfl
  | (i, v) :: rest, cells, l, h => by
    simp only [fillS] at h
    split at h
    · rename_i off size l' hp hl
      split at h
      · cases h
      · rename_i hc
        simp only [not_or, Decidable.not_not, Nat.not_lt] at hc
        rw [fill_sc (nd := nd) (nv := nv) (nh := nh) h]
        simp
        omega
    · cases h
theorem places_run : ∀ {fs : List Field} {pl : List (Nat × Nat)}, placesS P fs = some pl → ∀ w, (fs.mapM fun f => (do pure (f.offset, ← sizeOf f.type) : Sem (Nat × Nat))).run P w = .ok pl w
  | [], pl, h, w => by simp only [placesS, Option.some.injEq] at h; subst h; simp
  | f :: fs, pl, h, w => by
    simp only [placesS] at h
    split at h
    · rename_i n l hn hl
      injection h with h
      subst h
      simp only [List.mapM_cons, Sem.run_bind, sizeOf_run hn, Result.andThen_ok, Sem.run_pure, places_run hl w]
    · cases h
theorem build_run {ρ : Env} {has : Nat → Bool} (hk : ∀ {x : SV} {l : List SV}, x.cells has = some l → (x.den ρ).cells = (SV.dens ρ l).toArray) {t : TypeId} {parts : Array (Nat × Operand)} {f : Operand → SV} {z : SV} {cs l : List SV} {fields : Array Field} {pl : List (Nat × Nat)} (hz : zeroB P t = some z) (hu : P.underlying t = some (.struct fields)) (hc : z.cells (fun _ => false) = some cs) (hp : placesS P fields.toList = some pl)
    (h : fillS has (pl[·]?) cs (parts.toList.map fun (i, x) => (i, f x)) = some l) (w : World) :
    (Instr.build t (parts.map fun (i, x) => (i, (f x).den ρ))).run P w = .ok (.agg (SV.dens ρ l).toArray) w := by
  have e := fill_den (ρ := ρ) hk h
  rw [List.map_map] at e
  have hm : (fields.mapM fun f => (do pure (f.offset, ← sizeOf f.type) : Sem (Nat × Nat))).run P w = .ok pl.toArray w := by
    rw [Array.mapM_eq_mapM_toList]
    simp only [Sem.run_map, places_run hp w, Result.andThen_ok]
  simp only [Instr.build, Sem.run_bind, zero_run hz ρ, Result.andThen_ok, under_run hu, cells_den0 hc, hm, Array.toList_map, List.getElem?_toArray]
  have e' : Instr.fill (fun x => pl[x]?) (SV.dens ρ cs).toArray (parts.toList.map fun (i, x) => (i, (f x).den ρ)) = some (SV.dens ρ l).toArray := e
  rw [e']
  rfl
theorem buildA_run {ρ : Env} {has : Nat → Bool} (hk : ∀ {x : SV} {l : List SV}, x.cells has = some l → (x.den ρ).cells = (SV.dens ρ l).toArray) {t : TypeId} {parts : Array (Nat × Operand)} {f : Operand → SV} {z : SV} {cs l : List SV} {n size : Nat} {elem : TypeId} (hz : zeroB P t = some z) (hu : P.underlying t = some (.array n elem)) (hc : z.cells (fun _ => false) = some cs) (hs : sizeB P elem = some size)
    (h : fillS has (fun i => some (i * size, size)) cs (parts.toList.map fun (i, x) => (i, f x)) = some l) (w : World) :
    (Instr.build t (parts.map fun (i, x) => (i, (f x).den ρ))).run P w = .ok (.agg (SV.dens ρ l).toArray) w := by
  have e := fill_den (ρ := ρ) hk h
  rw [List.map_map] at e
  simp only [Instr.build, Sem.run_bind, zero_run hz ρ, Result.andThen_ok, under_run hu, cells_den0 hc, sizeOf_run hs, Array.toList_map]
  have e' : Instr.fill (fun i => some (i * size, size)) (SV.dens ρ cs).toArray (parts.toList.map fun (i, x) => (i, (f x).den ρ)) = some (SV.dens ρ l).toArray := e
  rw [e']
  rfl
theorem parts_eval {st : St} {ρ : Env} {a : Act} (ha : ∀ x, (evalO st x).isUnd = false → a.eval x = (evalO st x).den ρ) {parts : Array (Nat × Operand)} (h : ∀ p ∈ parts.toList.map fun (x : Nat × Operand) => (x.1, evalO st x.2), p.2.isUnd = false) :
    (parts.map fun (i, x) => (i, a.eval x)) = parts.map fun (i, x) => (i, (evalO st x).den ρ) := by
  apply Array.map_congr_left
  intro p hp
  have := h (p.1, evalO st p.2) (List.mem_map.2 ⟨p, by simpa using hp, rfl⟩)
  simp only [ha p.2 this]
theorem optMap {α γ : Type} {o : Option α} (f : α → γ) : o.map f = match o with | some a => some (f a) | none => none := by cases o <;> rfl
theorem bound_run {d y : Nat} {x : Option SV} {z : Nat} (h : boundS d x = some z) (hz : z ≤ y) (hd : x = none → d = z) (ρ : Env) (w : World) (code : BoundsCode) :
    (match x.map (SV.den ρ) with | some v => Instr.sliceBound v y code | none => pure d).run P w = .ok z w := by
  cases x with
  | none => simp [hd rfl]
  | some x =>
    cases x <;> try cases h
    rename_i k e
    cases e <;> simp only [boundS] at h <;> try cases h
    split at h
    · rename_i h1
      injection h with h2
      simp only [Option.map_some, SV.den, X.den, D.int, Instr.sliceBound, asIntOf, Sem.run_bind, Sem.run_pure, Result.andThen_ok]
      rw [if_pos (by omega)]
      simp [h2]
    · cases h
theorem tile (L : List Value) (z : Nat) (hz : L.length = z) : ∀ n, (List.range (n * z)).map (fun i => L[i % z]!) = (List.replicate n L).flatten
  | 0 => by simp
  | n + 1 => by
    rw [Nat.succ_mul, Nat.add_comm, List.range_add, List.map_append, List.replicate_succ, List.flatten_cons, List.map_map, ← tile L z hz n]
    congr 1
    · apply List.ext_getElem (by simp [hz])
      intro i h1 h2
      simp only [List.getElem_map, List.getElem_range]
      rw [Nat.mod_eq_of_lt (by omega)]
      exact getElem!_pos L i h2
    · apply List.map_congr_left
      intro i _
      simp [Nat.add_mod_left]
theorem bound_nu {st : St} {d z : Nat} {x : Option Operand} (h : boundS d (x.map (evalO st)) = some z) : ∀ y, x = some y → (evalO st y).isUnd = false := by
  intro y e
  subst e
  simp only [Option.map_some] at h
  cases hq : evalO st y <;> rw [hq] at h <;> first | rfl | cases h
theorem sliceBounds_run {st : St} {y n : Nat} {lo hi : Option Operand} {lo' hi' : Nat} (hlo : boundS 0 (lo.map (evalO st)) = some lo') (hhi : boundS n (hi.map (evalO st)) = some hi') (h1 : lo' ≤ hi') (h2 : hi' ≤ y) (b : Bool) (ρ : Env) (w : World) :
    (Instr.sliceBounds b n y (lo.map fun x => (evalO st x).den ρ) (hi.map fun x => (evalO st x).den ρ) none).run P w = .ok (lo', hi', y) w := by
  have e1 : (match (lo.map fun x => (evalO st x).den ρ) with | some v => Instr.sliceBound v hi' (if (none : Option Value).isSome then .slice3C else .sliceB) | none => pure 0).run P w = .ok lo' w := by
    have := bound_run (P := P) (y := hi') hlo h1 (fun e => by cases lo with | none => simpa [boundS] using hlo | some x => simp at e) ρ w (if (none : Option Value).isSome then .slice3C else .sliceB)
    rwa [Option.map_map] at this
  have e2 : (match (hi.map fun x => (evalO st x).den ρ) with | some v => Instr.sliceBound v y (if b then .sliceAcap else .sliceAlen) | none => pure n).run P w = .ok hi' w := by
    have := bound_run (P := P) (y := y) hhi h2 (fun e => by cases hi with | none => simpa [boundS] using hhi | some x => simp at e) ρ w (if b then .sliceAcap else .sliceAlen)
    rwa [Option.map_map] at this
  unfold Instr.sliceBounds
  cases lo <;> cases hi <;> simp only [Option.map_none, Option.map_some, Sem.run_pure, Result.ok.injEq, and_true] at e1 e2 ⊢
  · subst e1 e2; simp
  · subst e1; simp only [Sem.run_bind, Sem.run_pure, Result.andThen_ok, e2]
  · subst e2; simp only [Sem.run_bind, Sem.run_pure, Result.andThen_ok, e1]
  · simp only [Sem.run_bind, Sem.run_pure, Result.andThen_ok, e1, e2]
theorem bounds_eval {st : St} {ρ : Env} {a : Act} (ha : ∀ x, (evalO st x).isUnd = false → a.eval x = (evalO st x).den ρ) {x : Option Operand} (h : ∀ y, x = some y → (evalO st y).isUnd = false) : x.map a.eval = x.map fun y => (evalO st y).den ρ := by
  cases x with
  | none => rfl
  | some y => simp only [Option.map_some, ha y (h y rfl)]
theorem intOp_ok {ρ : Env} {st st' : St} {sv : SV} {ds' : List D} (hP : PRel ρ.ds st) {op : BinOp} {t : TypeId} {k : IntKind} {a b : X} (h : (intOp st op k a b).eval M N ρ.ds = some ((sv, st'), ds')) :
    ds' = ρ.ds ∧ PRel ρ.ds st' ∧ Like st st' ∧ sv.isUnd = false ∧ ∀ w, (binOp op t (.int k (a.den ρ.ds).int) (.int k (b.den ρ.ds).int)).run P w = .ok (sv.den ρ) w := by
  have dz : ∀ {α : Type} {f : St → T α} {r : α × List D}, (tNeed st (bNot (bEq st.bd b (.N 0))) f).eval M N ρ.ds = some r → (b.den ρ.ds).int ≠ 0 ∧ ∃ st', PRel ρ.ds st' ∧ Like st st' ∧ (f st').eval M N ρ.ds = some r := by
    intro α f R h
    obtain ⟨h1, st', p, l, h2⟩ := tNeed_some hP h
    rw [bNot_den, bEq_den hP.bd] at h1
    rw [Bool.not_eq_true'] at h1
    exact ⟨by simpa [X.den, D.int] using of_decide_eq_false h1, st', p, l, h2⟩
  cases op <;> simp only [intOp] at h
  case quo =>
    obtain ⟨h1, s2, p, l, h2⟩ := dz h
    simp only [T.eval, Option.some.injEq, Prod.mk.injEq] at h2
    obtain ⟨⟨rfl, rfl⟩, rfl⟩ := h2
    exact ⟨rfl, p, l, rfl, fun w => by simp [binOp, Op.intDiv, h1, SV.den, mk_den p.bd]; simp [X.den, D.int]⟩
  case rem =>
    obtain ⟨h1, s2, p, l, h2⟩ := dz h
    simp only [T.eval, Option.some.injEq, Prod.mk.injEq] at h2
    obtain ⟨⟨rfl, rfl⟩, rfl⟩ := h2
    exact ⟨rfl, p, l, rfl, fun w => by simp [binOp, Op.intDiv, h1, SV.den, remX_den p.bd]; simp [X.den, D.int]⟩
  all_goals first
    | (simp only [T.eval] at h; cases h; done)
    | (simp only [T.eval, Option.some.injEq, Prod.mk.injEq] at h
       obtain ⟨⟨rfl, rfl⟩, rfl⟩ := h
       refine ⟨rfl, hP, .refl _, rfl, fun w => ?_⟩
       first
         | (simp [binOp, Op.intArith, SV.den, mk_den hP.bd]; simp [X.den, D.int]; done)
         | (simp [binOp, SV.den, subX_den hP.bd]; simp [Op.intArith]; done)
         | (simp [binOp, Op.intCmp, SV.den, bEq_den hP.bd]; done)
         | (simp [binOp, Op.intCmp, SV.den, bEq_den hP.bd]; rfl)
         | (simp [binOp, Op.intCmp, SV.den, bNot_den, bEq_den hP.bd]; done)
         | (simp [binOp, Op.intCmp, SV.den, bNot_den, bEq_den hP.bd]; rfl)
         | (simp [binOp, Op.intCmp, SV.den, bLt_den hP.bd]; done)
         | (simp [binOp, Op.intCmp, SV.den, bLe_den hP.bd]; done))
theorem shrS_ok {ρ : Env} {st st' : St} {sv : SV} {ds' : List D} (hP : PRel ρ.ds st) {t : TypeId} {k k' : IntKind} {a : X} {c : Int} (h : (shrS st k a c).eval M N ρ.ds = some ((sv, st'), ds')) :
    ds' = ρ.ds ∧ PRel ρ.ds st' ∧ Like st st' ∧ sv.isUnd = false ∧ ∀ w, (binOp .shr t (.int k (a.den ρ.ds).int) (.int k' ((X.N c).den ρ.ds).int)).run P w = .ok (sv.den ρ) w := by
  unfold shrS at h
  split at h
  · rename_i l u hr
    split at h
    · rename_i hc
      obtain ⟨h1, h2, h3⟩ := hc
      have hl := (rng_ok hP.bd hr).1
      simp only [T.eval, Option.some.injEq, Prod.mk.injEq] at h
      obtain ⟨⟨rfl, rfl⟩, rfl⟩ := h
      refine ⟨rfl, hP, .refl _, rfl, fun w => ?_⟩
      have hN : ((X.N c).den ρ.ds).int = c := rfl
      have hq : ((X.quo a (.N (2 ^ c.toNat))).den ρ.ds).int = (a.den ρ.ds).int.tdiv (2 ^ c.toNat) := rfl
      simp only [SV.den, nf_den hP.bd, binOp_shr, hN, hq]
      rw [shift_shr_any _ _ _ _ h2, Nat.min_eq_left h3, Int.tdiv_eq_ediv_of_nonneg (Int.le_trans h1 hl)]
      rfl
    · simp [T.eval] at h
  · simp [T.eval] at h
end
end Fx
end Go.Proofs.Ytlhnhidoljfnnaa
