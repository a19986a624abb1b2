/- XSym's operations are sound: each operation that is no call, in a table. -/
import Derived.Test.YthfagiihfkjamaaSymC
namespace Go.Proofs.Ythfagiihfkjamaa
open Go.RowKit
namespace Sym
section
variable {P : Program} {s : Sp} {n0 : Nat} {A : Inva}
theorem splice (off : Nat) : ∀ (l : List Value) (k : Nat) (cells : List Value), off + k + l.length ≤ cells.length →
    (l.zipIdx k).foldl (fun (cs : List Value) (x : Value × Nat) => cs.set (off + x.2) x.1) cells = cells.take (off + k) ++ l ++ cells.drop (off + k + l.length)
  | [], k, cells, _ => by simp
  | x :: l, k, cells, h => by
    simp only [List.length_cons] at h
    simp only [List.zipIdx_cons, List.foldl_cons]
    rw [splice off l (k + 1) _ (by simp; omega)]
    rw [List.take_set, List.drop_set, if_pos (by omega)]
    simp only [List.length_cons]
    rw [show off + (k + 1) = off + k + 1 by omega, show off + k + 1 + l.length = off + k + (l.length + 1) by omega]
    have e : (List.take (off + k + 1) cells).set (off + k) x = cells.take (off + k) ++ [x] := by
      apply List.ext_getElem?
      intro i
      rw [List.getElem?_set]
      rcases Nat.lt_trichotomy i (off + k) with q | q | q
      · rw [if_neg (by omega), List.getElem?_append_left (by simp; omega), List.getElem?_take_of_lt (by omega), List.getElem?_take_of_lt (by omega)]
      · subst q
        rw [if_pos rfl, if_pos (by simp; omega), List.getElem?_append_right (by simp; omega)]
        simp [Nat.min_eq_left (show off + k ≤ cells.length by omega)]
      · rw [if_neg (by omega), List.getElem?_eq_none (by simp; omega), List.getElem?_eq_none (by simp; omega)]
    rw [e]
    simp
theorem splice_arr (off : Nat) (l cells : List Value) (h : off + l.length ≤ cells.length) :
    l.toArray.zipIdx.foldl (fun (cs : Array Value) (x : Value × Nat) => cs.setIfInBounds (off + x.2) x.1) cells.toArray = (cells.take off ++ l ++ cells.drop (off + l.length)).toArray := by
  have key : ∀ (m : List (Value × Nat)) (c : List Value), m.foldl (fun (cs : Array Value) (x : Value × Nat) => cs.setIfInBounds (off + x.2) x.1) c.toArray = (m.foldl (fun (cs : List Value) (x : Value × Nat) => cs.set (off + x.2) x.1) c).toArray := by
    intro m
    induction m with
    | nil => intro c; rfl
    | cons x m ih => intro c; simp only [List.foldl_cons, List.setIfInBounds_toArray, ih]
  rw [← Array.foldl_toList, show l.toArray.zipIdx.toList = l.zipIdx by simp, key, splice off l 0 cells (by omega)]
  rfl
theorem fill_den {ρ : Env} {β : List Nat} {sk : List Nat} (hk : SkOk ρ.vs sk) {place : Nat → Option (Nat × Nat)} : ∀ {ps : List (Nat × SV)} {cells l : List SV}, fillS sk place cells ps = some l →
    Instr.fill place (SV.dens ρ β cells).toArray (ps.map fun p => (p.1, p.2.den ρ β)) = some (SV.dens ρ β l).toArray
  | [], cells, l, h => by simp only [fillS, Option.some.injEq] at h; subst h; rfl
  | (i, v) :: rest, cells, l, h => by
    simp only [fillS] at h
    split at h
    · rename_i off size l' hp hl
      split at h
      · cases h
      · rename_i hc
        have hcd := cells_den (ρ := ρ) (β := β) hk hl
        simp only [List.map_cons, Instr.fill, hp, hcd]
        simp only [not_or, Decidable.not_not, Nat.not_lt] at hc
        rw [if_neg (by simp [dens_len, hc.1]; omega)]
        have e := splice_arr off (SV.dens ρ β l') (SV.dens ρ β cells) (by simp only [dens_len]; exact hc.2)
        have e2 := fill_den (ρ := ρ) (β := β) hk h
        simp only [dens_eq, List.map_append, List.map_take, List.map_drop] at e2 e ⊢
        simp only [List.length_map] at e
        rw [e]
        exact e2
    · cases h
theorem places_run : ∀ {fs : List Field} {pl : List (Nat × Nat)}, placesS P fs = some pl → ∀ w, (fs.mapM fun f => (do pure (f.offset, ← sizeOf f.type) : Sem (Nat × Nat))).run P w = .ok pl w
  | [], pl, h, w => by simp only [placesS, Option.some.injEq] at h; subst h; simp
  | f :: fs, pl, h, w => by
    simp only [placesS] at h
    split at h
    · rename_i n l hn hl
      injection h with h
      subst h
      simp only [List.mapM_cons, Sem.run_bind, sizeOf_run hn, Result.andThen_ok, Sem.run_pure, places_run hl w]
    · cases h
theorem build_run {ρ : Env} {sk : List Nat} (hk : SkOk ρ.vs sk) {t : TypeId} {parts : Array (Nat × Operand)} {f : Operand → SV} {z : SV} {cs l : List SV} {fields : Array Field} {pl : List (Nat × Nat)} (hz : zeroB P t = some z) (hu : P.underlying t = some (.struct fields)) (hc : z.cells [] = some cs) (hp : placesS P fields.toList = some pl)
    (h : fillS sk (pl[·]?) cs (parts.toList.map fun (i, x) => (i, f x)) = some l) (β : List Nat) (w : World) :
    (Instr.build t (parts.map fun (i, x) => (i, (f x).den ρ β))).run P w = .ok (.agg (SV.dens ρ β l).toArray) w := by
  have e := fill_den (ρ := ρ) (β := β) hk h
  rw [List.map_map] at e
  have hm : (fields.mapM fun f => (do pure (f.offset, ← sizeOf f.type) : Sem (Nat × Nat))).run P w = .ok pl.toArray w := by
    rw [Array.mapM_eq_mapM_toList]
    simp only [Sem.run_map, places_run hp w, Result.andThen_ok]
  simp only [Instr.build, Sem.run_bind, zero_run hz ρ β, Result.andThen_ok, under_run hu, cells_den (ρ := ρ) (β := β) (sk := []) (fun _ h => by cases h) hc, hm, Array.toList_map, List.getElem?_toArray]
  have e' : Instr.fill (fun x => pl[x]?) (SV.dens ρ β cs).toArray (parts.toList.map fun (i, x) => (i, (f x).den ρ β)) = some (SV.dens ρ β l).toArray := e
  rw [e']
  rfl
theorem buildA_run {ρ : Env} {sk : List Nat} (hk : SkOk ρ.vs sk) {t : TypeId} {parts : Array (Nat × Operand)} {f : Operand → SV} {z : SV} {cs l : List SV} {n size : Nat} {elem : TypeId} (hz : zeroB P t = some z) (hu : P.underlying t = some (.array n elem)) (hc : z.cells [] = some cs) (hs : sizeB P elem = some size)
    (h : fillS sk (fun i => some (i * size, size)) cs (parts.toList.map fun (i, x) => (i, f x)) = some l) (β : List Nat) (w : World) :
    (Instr.build t (parts.map fun (i, x) => (i, (f x).den ρ β))).run P w = .ok (.agg (SV.dens ρ β l).toArray) w := by
  have e := fill_den (ρ := ρ) (β := β) hk h
  rw [List.map_map] at e
  simp only [Instr.build, Sem.run_bind, zero_run hz ρ β, Result.andThen_ok, under_run hu, cells_den (ρ := ρ) (β := β) (sk := []) (fun _ h => by cases h) hc, sizeOf_run hs, Array.toList_map]
  have e' : Instr.fill (fun i => some (i * size, size)) (SV.dens ρ β cs).toArray (parts.toList.map fun (i, x) => (i, (f x).den ρ β)) = some (SV.dens ρ β l).toArray := e
  rw [e']
  rfl
/-- what an operation leaves, in whatever memory that fits the state -/
def Ran (P : Program) (s : Sp) (n0 : Nat) (ρ ρ' : Env) (st st' : St) (sv : SV) (o : Oper) : Prop :=
  ∀ (β : List Nat) (a : Act) (w : World), HRel s n0 ρ β st.hp w → (∀ x, a.eval x = (evalO st x).den ρ β) → ∃ γ w' nx, (execOp a.eval o).run P w = .ok nx w' ∧ (nx = .value (sv.den ρ' γ) ∨ nx = .skip ∧ sv = .con undef) ∧
    Le β γ ∧ HRel s n0 ρ' γ st'.hp w' ∧ w.heap.size ≤ w'.heap.size ∧ SV.dens ρ' γ st.tm = SV.dens ρ β st.tm ∧ (quietOp o.op = true → γ = β ∧ w' = w)
/-- the outcome of an operation that is no call -/
def Opd (P : Program) (s : Sp) (n0 : Nat) (ρ : Env) (st : St) (Q : SV × St → Env → Prop) (o : Oper) : Prop :=
  ∃ sv st' ρ', PRel ρ' st' ∧ ρ.le ρ' ∧ st'.tm = st.tm ∧ (quietOp o.op = true → st'.hp = st.hp) ∧ Q (sv, st') ρ' ∧ Ran P s n0 ρ ρ' st st' sv o
theorem opd_plain {ρ : Env} {st st' : St} {Q : SV × St → Env → Prop} {o : Oper} {sv : SV} (hP : PRel ρ st') (hl : Like st st') (hq : Q (sv, st') ρ)
    (h : ∀ (β : List Nat) (a : Act) (w : World), HRel s n0 ρ β st.hp w → (∀ x, a.eval x = (evalO st x).den ρ β) → (execOp a.eval o).run P w = .ok (.value (sv.den ρ β)) w) : Opd P s n0 ρ st Q o :=
  ⟨sv, st', ρ, hP, Env.le_refl ρ, hl.tm, fun _ => hl.hp, hq, fun β a w hH ha => ⟨β, w, _, h β a w hH ha, .inl rfl, .refl _, by rw [hl.hp]; exact hH, Nat.le_refl _, rfl, fun _ => ⟨rfl, rfl⟩⟩⟩
theorem new_ok (F : Inv n0 s) {ρ : Env} {st : St} (hP : PRel ρ st) {cs : List SV} {Q : SV × St → Env → Sp → Prop} (h : (st.new cs).holds P n0 s ρ A Q) :
    ∃ st', PRel ρ st' ∧ st'.tm = st.tm ∧ Q (.ptr st.hp.length 0, st') ρ s ∧ ∀ β w t, HRel s n0 ρ β st.hp w → ∃ γ, Le β γ ∧ γ.getD st.hp.length 0 = w.heap.size ∧ HRel s n0 ρ γ st'.hp (w.alloc (.cells (SV.dens ρ β cs).toArray t)) ∧ SV.dens ρ γ st.tm = SV.dens ρ β st.tm := by
  unfold St.new at h
  split at h
  · rename_i hc
    simp only [St.scoped, Bool.and_eq_true] at hc
    obtain ⟨⟨⟨⟨⟨h1, h2⟩, _⟩, _⟩, _⟩, h4⟩ := hc
    refine ⟨{ st with hp := st.hp ++ [⟨cs, true⟩] }, ⟨hP.ni, hP.nb, hP.nv, hP.bd, hP.kn, hP.sl, hP.sk⟩, rfl, h, fun β w t hH => ⟨β ++ [w.heap.size], ⟨_, rfl⟩, by rw [← hH.len]; simp [List.getD_eq_getElem?_getD], ?_⟩⟩
    rw [← hP.ni, ← hP.nb, ← hP.nv] at h1 h2 h4
    exact ⟨hH.alloc F h2 h4 t, SV.dens_le (Env.le_refl ρ) ⟨_, rfl⟩ (by rw [hH.len]; exact h1)⟩
  · exact h.elim
theorem addr_add_add (a : Addr) (m n : Nat) : (a.add m).add n = a.add (m + n) := by
  unfold Addr.add
  by_cases h : m = 0
  · subst h; simp
  · by_cases k : n = 0
    · subst k; simp [h]
    · simp [h, k, Nat.add_assoc]
theorem fresh_len : ∀ (ks : List CK) (a b c : Nat), (freshS a b c ks).length = ks.length
  | [], _, _, _ => rfl
  | .int _ :: l, _, _, _ => by simp [freshS, fresh_len l]
  | .bool :: l, _, _, _ => by simp [freshS, fresh_len l]
  | .val :: l, _, _, _ => by simp [freshS, fresh_len l]
theorem fresh_den (ρ : Env) (β : List Nat) : ∀ (ks : List CK) (a b c : Nat), ∀ v ∈ freshS a b c ks, v.den ρ β = v.den ρ []
  | [], _, _, _, v, h => by cases h
  | .int _ :: l, a, b, c, v, h => by
    simp only [freshS, List.mem_cons] at h
    rcases h with rfl | h
    · simp [SV.den]
    · exact fresh_den ρ β l _ _ _ v h
  | .bool :: l, a, b, c, v, h => by
    simp only [freshS, List.mem_cons] at h
    rcases h with rfl | h
    · simp [SV.den]
    · exact fresh_den ρ β l _ _ _ v h
  | .val :: l, a, b, c, v, h => by
    simp only [freshS, List.mem_cons] at h
    rcases h with rfl | h
    · simp [SV.den]
    · exact fresh_den ρ β l _ _ _ v h
/-- what a load of a slice's cells leaves -/
theorem get_ok {ρ : Env} {st : St} (hP : PRel ρ st) (hs : st.scoped = true) (hbl : st.bd.length = st.ni) {i : Nat} {e : E} {o : Nat} {ks : List CK} (h0 : 0 < ks.length) {α : Type} {x : T α} {Q : α → Env → Sp → Prop} (h : (T.get i e o ks st.hp x).holds P n0 s ρ A Q) :
    ∃ ρ', ρ.le ρ' ∧ PRel ρ' { st with ni := st.ni + (countS ks).1, nb := st.nb + (countS ks).2.1, nv := st.nv + (countS ks).2.2, bd := st.bd ++ ckBd ks } ∧ x.holds P n0 s ρ' A Q ∧
      ∀ β w, HRel s n0 ρ β st.hp w → HRel s n0 ρ' β st.hp w ∧ SV.dens ρ' β st.tm = SV.dens ρ β st.tm ∧ ∃ a n c, ρ.vs.getD i undef = .slice (some a) n c ∧
        ∀ j v, (SV.dens ρ' β (freshS st.ni st.nb st.nv ks))[j]? = some v → w.cell? ((a.add ((e.den ρ).toNat + o)).add j) = some v := by
  obtain ⟨is, bs, vs, hl, hb, hc, hx⟩ := h
  have p := prel_ext (bs := bs) (vs := vs) hP hs hbl hb
  simp only [← hl]
  refine ⟨ρ.ext is bs vs, Env.le_ext ρ is bs vs, p, hx, fun β w hH => ?_⟩
  simp only [St.scoped, Bool.and_eq_true] at hs
  have s1 := hs.1.1.1.1
  have s2 := hs.1.1.1.2
  rw [← hP.ni, ← hP.nb, ← hP.nv] at s1 s2
  refine ⟨hH.le (Env.le_ext ρ is bs vs) s2, SV.dens_le (Env.le_ext ρ is bs vs) (.refl β) (by rw [hH.len]; exact s1), ?_⟩
  have k := hc β w hH
  rw [hP.ni, hP.nb, hP.nv] at k
  have hlen := fresh_len ks st.ni st.nb st.nv
  obtain ⟨a, n, c, ha, _⟩ := k 0 _ (List.getElem?_eq_getElem (by rw [hlen]; exact h0))
  refine ⟨a, n, c, ha, fun j v hj => ?_⟩
  rw [dens_get, Option.map_eq_some_iff] at hj
  obtain ⟨x', hx', rfl⟩ := hj
  obtain ⟨a', n', c', ha', hcell⟩ := k j x' hx'
  rw [ha] at ha'
  injection ha' with e1
  injection e1 with e1
  subst e1
  rw [addr_add_add, hcell, fresh_den _ β ks _ _ _ x' (List.mem_of_getElem? hx')]
theorem eval_map {ρ : Env} {β : List Nat} {st : St} {a : Act} (ha : ∀ x, a.eval x = (evalO st x).den ρ β) (l : Array Operand) : l.map a.eval = (SV.dens ρ β (l.toList.map (evalO st))).toArray := by
  apply Array.ext'
  simp [dens_eq, Function.comp_def, ha]
theorem eqGuard_int (op : BinOp) (t : TypeId) (x y : Operand) (k k' : IntKind) (a b : Int) (w : World) : (eqGuard op t x y (.int k a) (.int k' b)).run P w = .ok () w := by
  unfold eqGuard
  cases op <;> simp
theorem intOp_ok {ρ : Env} {st : St} (hP : PRel ρ st) {op : BinOp} {t : TypeId} {k : IntKind} {a b : E} {Q : SV → Env → Sp → Prop} (h : (intOp st op k a b).holds P n0 s ρ A Q) :
    ∃ sv, Q sv ρ s ∧ ∀ β w, (binOp op t (.int k (a.den ρ)) (.int k (b.den ρ))).run P w = .ok (sv.den ρ β) w := by
  have dz : ∀ {α : Type} {f : St → T α} {R : α → Env → Sp → Prop}, (tNeed st (bNot (bEq st.bd b (.n 0))) f).holds P n0 s ρ A R → b.den ρ ≠ 0 ∧ ∃ st', PRel ρ st' ∧ (f st').holds P n0 s ρ A R := by
    intro α f R h
    obtain ⟨h1, st', p, _, h2⟩ := tNeed_holds hP h
    rw [bNot_den, bEq_den hP.bd] at h1
    rw [Bool.not_eq_true'] at h1
    exact ⟨of_decide_eq_false h1, st', p, h2⟩
  cases op <;> simp only [intOp] at h
  case add => exact ⟨_, h, fun β w => by simp [binOp, Op.intArith, SV.den, mk_den hP.bd, E.den]⟩
  case sub => exact ⟨_, h, fun β w => by simp [binOp, Op.intArith, SV.den, mk_den hP.bd, E.den]⟩
  case mul => exact ⟨_, h, fun β w => by simp [binOp, Op.intArith, SV.den, mk_den hP.bd, E.den]⟩
  case quo =>
    obtain ⟨h1, st', p, h2⟩ := dz h
    exact ⟨_, h2, fun β w => by simp [binOp, Op.intDiv, h1, SV.den, mk_den p.bd, E.den]⟩
  case rem =>
    obtain ⟨h1, st', p, h2⟩ := dz h
    exact ⟨_, h2, fun β w => by simp [binOp, Op.intDiv, h1, SV.den, nf_den p.bd, E.den]⟩
  case eql => exact ⟨_, h, fun β w => by simp [binOp, Op.intCmp, SV.den, bEq_den hP.bd]; rfl⟩
  case neq => exact ⟨_, h, fun β w => by simp [binOp, Op.intCmp, SV.den, bNot_den, bEq_den hP.bd]; rfl⟩
  case lss => exact ⟨_, h, fun β w => by simp [binOp, Op.intCmp, SV.den, bLt_den hP.bd]⟩
  case leq => exact ⟨_, h, fun β w => by simp [binOp, Op.intCmp, SV.den, bLe_den hP.bd]⟩
  case gtr => exact ⟨_, h, fun β w => by simp [binOp, Op.intCmp, SV.den, bLt_den hP.bd]⟩
  case geq => exact ⟨_, h, fun β w => by simp [binOp, Op.intCmp, SV.den, bLe_den hP.bd]⟩
  all_goals exact h.elim
theorem shrS_ok {ρ : Env} {st : St} (hP : PRel ρ st) {t : TypeId} {k k' : IntKind} {a : E} {c : Int} {Q : SV → Env → Sp → Prop} (h : (shrS st k a c).holds P n0 s ρ A Q) :
    ∃ sv, Q sv ρ s ∧ ∀ β w, (binOp .shr t (.int k (a.den ρ)) (.int k' ((E.n c).den ρ))).run P w = .ok (sv.den ρ β) w := by
  unfold shrS at h
  split at h
  · rename_i l u hr
    split at h
    · rename_i hc
      obtain ⟨h1, h2, h3⟩ := hc
      have hl := (rng_ok hP.bd hr).1
      refine ⟨_, h, fun β w => ?_⟩
      simp only [E.den, SV.den, nf_den hP.bd, binOp_shr]
      rw [shift_shr_any _ _ _ _ h2, Nat.min_eq_left h3, Int.tdiv_eq_ediv_of_nonneg (by omega)]
      rfl
    · exact h.elim
  · exact h.elim
theorem optMap {α γ : Type} {o : Option α} (f : α → γ) : o.map f = match o with | some a => some (f a) | none => none := by cases o <;> rfl
theorem bound_run {d y : Nat} {x : Option SV} {z : Nat} (h : boundS d x = some z) (hz : z ≤ y) (hd : x = none → d = z) (ρ : Env) (β : List Nat) (w : World) (code : BoundsCode) :
    (match x.map (SV.den ρ β) with | some v => Instr.sliceBound v y code | none => pure d).run P w = .ok z w := by
  cases x with
  | none => simp [hd rfl]
  | some x =>
    cases x <;> try cases h
    rename_i k e
    cases e <;> simp only [boundS] at h <;> try cases h
    split at h
    · rename_i h1
      injection h with h2
      simp only [Option.map_some, SV.den, E.den, Instr.sliceBound, asIntOf, Sem.run_bind, Sem.run_pure, Result.andThen_ok]
      rw [if_pos (by omega)]
      simp [h2]
    · cases h
theorem tile (L : List Value) (z : Nat) (hz : L.length = z) : ∀ n, (List.range (n * z)).map (fun i => L[i % z]!) = (List.replicate n L).flatten
  | 0 => by simp
  | n + 1 => by
    rw [Nat.succ_mul, Nat.add_comm, List.range_add, List.map_append, List.replicate_succ, List.flatten_cons, List.map_map, ← tile L z hz n]
    congr 1
    · apply List.ext_getElem (by simp [hz])
      intro i h1 h2
      simp only [List.getElem_map, List.getElem_range]
      rw [Nat.mod_eq_of_lt (by omega)]
      exact getElem!_pos L i h2
    · apply List.map_congr_left
      intro i _
      simp [Nat.add_mod_left]
theorem sliceBounds_run {st : St} {y n : Nat} {lo hi : Option Operand} {lo' hi' : Nat} (hlo : boundS 0 (lo.map (evalO st)) = some lo') (hhi : boundS n (hi.map (evalO st)) = some hi') (h1 : lo' ≤ hi') (h2 : hi' ≤ y) (b : Bool) (ρ : Env) (β : List Nat) (w : World) :
    (Instr.sliceBounds b n y (lo.map fun x => (evalO st x).den ρ β) (hi.map fun x => (evalO st x).den ρ β) none).run P w = .ok (lo', hi', y) w := by
  have e1 : (match (lo.map fun x => (evalO st x).den ρ β) with | some v => Instr.sliceBound v hi' (if (none : Option Value).isSome then .slice3C else .sliceB) | none => pure 0).run P w = .ok lo' w := by
    have := bound_run (P := P) (y := hi') hlo h1 (fun e => by cases lo with | none => simpa [boundS] using hlo | some x => simp at e) ρ β w (if (none : Option Value).isSome then .slice3C else .sliceB)
    rwa [Option.map_map] at this
  have e2 : (match (hi.map fun x => (evalO st x).den ρ β) with | some v => Instr.sliceBound v y (if b then .sliceAcap else .sliceAlen) | none => pure n).run P w = .ok hi' w := by
    have := bound_run (P := P) (y := y) hhi h2 (fun e => by cases hi with | none => simpa [boundS] using hhi | some x => simp at e) ρ β w (if b then .sliceAcap else .sliceAlen)
    rwa [Option.map_map] at this
  unfold Instr.sliceBounds
  cases lo <;> cases hi <;> simp only [Option.map_none, Option.map_some, Sem.run_pure, Result.ok.injEq, and_true] at e1 e2 ⊢
  · subst e1 e2; simp
  · subst e1; simp only [Sem.run_bind, Sem.run_pure, Result.andThen_ok, e2]
  · subst e2; simp only [Sem.run_bind, Sem.run_pure, Result.andThen_ok, e1]
  · simp only [Sem.run_bind, Sem.run_pure, Result.andThen_ok, e1, e2]
theorem slice_at {ρ : Env} {st : St} (hP : PRel ρ st) {i : Nat} {q : Nat} {len : E} (hf : st.sl.find? (fun x => x.1 == i) = some (q, len)) (h0 : 0 < len.den ρ) : ∃ a n c, ρ.vs.getD i undef = .slice (some a) n c ∧ (n : Int) = len.den ρ := by
  have hm := List.mem_of_find?_eq_some hf
  have he := List.find?_some hf
  simp only [beq_iff_eq] at he
  obtain ⟨a, n, c, h1, h2, h3⟩ := hP.sl _ hm
  simp only at h1 h2
  subst he
  have e : len.den ρ = len.den ⟨ρ.is, [], []⟩ := E.den_is len
  have := h3 (by omega)
  cases a with
  | none => cases this
  | some a => exact ⟨a, n, c, h1, by rw [e]; exact h2⟩
theorem evalO_like {st st' : St} (l : Like st st') (x : Operand) : evalO st' x = evalO st x := by cases x <;> simp [evalO, l.tm]
theorem opS_ok (F : Inv n0 s) {ρ : Env} {st : St} {o : Oper} {Q : SV × St → Env → Sp → Prop} (hP : PRel ρ st) (h : (opS P st o.op).holds P n0 s ρ A Q) : Opd P s n0 ρ st (fun r ρ' => Q r ρ' s) o := by
  obtain ⟨dst, op, ty, pos, after, guard⟩ := o
  cases op <;> simp only [opS] at h <;> try exact h.elim
  case move x => exact opd_plain hP (.refl _) h fun β a w hH ha => by simp [execOp, ha]
  case assign x => exact opd_plain hP (.refl _) h fun β a w hH ha => by simp [execOp, ha]
  case pick c a b =>
    split at h
    · rename_i q hq
      obtain ⟨st', p, l, ⟨hb, h⟩ | ⟨hb, h⟩⟩ := tIte_holds hP h
      · exact opd_plain p l h fun β a w hH ha => by simp [execOp, ha, hq, SV.den, asBool, hb, evalO_like l]
      · exact opd_plain p l h fun β a w hH ha => by simp [execOp, ha, hq, SV.den, asBool, hb, evalO_like l]
    · exact h.elim
  case alloc t =>
    split at h
    · rename_i z hz
      split at h
      · rename_i cs hc
        obtain ⟨st', p, htm, hq, hn⟩ := new_ok F hP h
        refine ⟨_, st', ρ, p, Env.le_refl ρ, htm, fun e => (by cases e), hq, fun β a w hH ha => ?_⟩
        obtain ⟨γ, hl, hg, hH', hd⟩ := hn β w t hH
        refine ⟨γ, _, _, ?_, .inl rfl, hl, hH', by simp, hd, fun e => (by cases e)⟩
        have ec := cells_den (ρ := ρ) (β := β) (sk := []) (fun _ h => by cases h) hc
        simp only [execOp, Instr.alloc, Sem.run_bind, zero_run hz ρ β, Result.andThen_ok, newVar_run, ec, Sem.run_pure, SV.den, hg]
      · exact h.elim
    · exact h.elim
  case box t x =>
    split at h
    · rename_i cs hc
      obtain ⟨st', p, htm, hq, hn⟩ := new_ok F hP h
      refine ⟨_, st', ρ, p, Env.le_refl ρ, htm, fun e => (by cases e), hq, fun β a w hH ha => ?_⟩
      obtain ⟨γ, hl, hg, hH', hd⟩ := hn β w t hH
      refine ⟨γ, _, _, ?_, .inl rfl, hl, hH', by simp, hd, fun e => (by cases e)⟩
      simp only [execOp, Instr.box, Sem.run_bind, newVar_run, ha, cells_den hP.sk hc, Result.andThen_ok, Sem.run_pure, SV.den, hg]
    · exact h.elim
  case build t parts =>
    split at h
    · rename_i z fields hz hu
      split at h
      · rename_i cs pl hc hp
        split at h
        · rename_i l hf
          exact opd_plain hP (.refl _) h fun β a w hH ha => by
            have e := build_run hP.sk hz hu hc hp hf β w
            simp only [execOp, Sem.run_bind, ha, e, Result.andThen_ok, Sem.run_pure, SV.den]
        · exact h.elim
      · exact h.elim
    · rename_i z n elem hz hu
      split at h
      · rename_i cs size hc hs
        split at h
        · rename_i l hf
          exact opd_plain hP (.refl _) h fun β a w hH ha => by
            have e := buildA_run hP.sk hz hu hc hs hf β w
            simp only [execOp, Sem.run_bind, ha, e, Result.andThen_ok, Sem.run_pure, SV.den]
        · exact h.elim
      · exact h.elim
    · exact h.elim
  case buildSlice t len parts =>
    split at h
    · rename_i elem hu
      split at h
      · rename_i size z hs hz
        split at h
        · rename_i cs hc
          split at h
          · rename_i hcond
            split at h
            · rename_i l hf
              obtain ⟨st', p, htm, hq, hn⟩ := new_ok F hP (bind_up _ h)
              obtain ⟨_, _, hq⟩ := hq
              simp only [T.holds] at hq
              refine ⟨_, st', ρ, p, Env.le_refl ρ, htm, fun e => (by cases e), hq, fun β a w hH ha => ?_⟩
              obtain ⟨γ, hl, hg, hH', hd⟩ := hn β w elem hH
              refine ⟨γ, _, _, ?_, .inl rfl, hl, hH', by simp, hd, fun e => (by cases e)⟩
              have e := fill_den (ρ := ρ) (β := β) hP.sk hf
              rw [List.map_map] at e
              have e' : Instr.fill (fun i => some (i * size, size)) (SV.dens ρ β (List.replicate len cs).flatten).toArray (parts.toList.map fun (i, x) => (i, (evalO st x).den ρ β)) = some (SV.dens ρ β l).toArray := e
              simp only [execOp, Instr.buildSlice, Sem.run_bind, under_run hu, Result.andThen_ok, sizeOf_run hs, ha]
              have ecs := cells_den (ρ := ρ) (β := β) (sk := []) (fun _ h => by cases h) hc
              rw [if_neg (by have : (1000 : Nat) ≤ 2 ^ 24 := by decide
                             omega)]
              have et := tile (SV.dens ρ β cs) size (by simp [dens_len, hcond.1]) len
              have ef : (List.replicate len (SV.dens ρ β cs)).flatten = SV.dens ρ β (List.replicate len cs).flatten := by
                simp [dens_eq, List.map_flatten]
              have eg : ((Array.range (len * size)).map fun x => (SV.dens ρ β cs).toArray[x % (SV.dens ρ β cs).toArray.size]!) = (SV.dens ρ β (List.replicate len cs).flatten).toArray := by
                apply Array.ext'
                rw [← ef, ← et]
                simp [dens_len, hcond.1]
              by_cases h0 : len * size = 0
              · have hl0 : len = 0 := by
                  rcases Nat.mul_eq_zero.1 h0 with q | q
                  · exact q
                  · omega
                subst hl0
                rw [if_pos h0]
                simp only [Sem.run_bind, Sem.run_pure, Result.andThen_ok, Array.toList_map]
                rw [show ((Array.range (0 * size)).map fun x => (#[] : Array Value)[x % (#[] : Array Value).size]!) = (SV.dens ρ β (List.replicate 0 cs).flatten).toArray by simp [SV.dens], e']
                simp only [Sem.run_bind, newRow_run, Result.andThen_ok, Sem.run_pure, SV.den, hg]
              · rw [if_neg h0]
                simp only [Sem.run_bind, Sem.run_pure, Result.andThen_ok, zero_run hz ρ β, ecs, eg, Array.toList_map, e']
                simp only [newRow_run, Result.andThen_ok, SV.den, hg]
            · exact h.elim
          · exact h.elim
        · exact h.elim
      · exact h.elim
    · exact h.elim
  case load t x =>
    split at h
    · rename_i i o hx
      split at h
      · rename_i v hv
        exact opd_plain hP (.refl _) h fun β a w hH ha => by
          simp only [execOp, Instr.loadAt, ha, hx, SV.den, Instr.sureAddr, Sem.run_bind, Sem.run_pure, Result.andThen_ok, load_run hH hv]
      · exact h.elim
    · rename_i i e o hx
      split at h
      · rename_i ks n d hk hn hd
        split at h
        · rename_i hc
          obtain ⟨c1, c2, c3, c4⟩ := hc
          split at h
          · rename_i hag
            obtain ⟨ρ', l1, p, hq, hcell⟩ := get_ok hP c3 c4 (by omega) h
            refine ⟨_, _, ρ', p, l1, rfl, fun _ => rfl, hq, fun β a w hH ha => ?_⟩
            obtain ⟨hH', hd', a0, n0', c0, hs0, hcl⟩ := hcell β w hH
            refine ⟨β, w, _, ?_, .inl rfl, .refl β, hH', Nat.le_refl _, hd', fun _ => ⟨rfl, rfl⟩⟩
            have k := run_loadCells_list (P := P) w (a0.add ((e.den ρ).toNat + o)) _ hcl
            rw [dens_len, fresh_len, c1] at k
            simp only [execOp, Instr.loadAt, ha, hx, SV.den, hs0, Instr.sureAddr, Sem.run_bind, Sem.run_pure, Result.andThen_ok, loadVar, isAgg_run hd, hag, if_true, sizeOf_run hn, k]
          · rename_i hag
            split at h
            · rename_i v hv
              obtain ⟨ρ', l1, p, hq, hcell⟩ := get_ok hP c3 c4 (by omega) h
              refine ⟨_, _, ρ', p, l1, rfl, fun _ => rfl, hq, fun β a w hH ha => ?_⟩
              obtain ⟨hH', hd', a0, n0', c0, hs0, hcl⟩ := hcell β w hH
              refine ⟨β, w, _, ?_, .inl rfl, .refl β, hH', Nat.le_refl _, hd', fun _ => ⟨rfl, rfl⟩⟩
              rw [hv] at hcl
              have k := hcl 0 (v.den ρ' β) (by simp [SV.dens])
              rw [addr_add_add] at k
              simp only [execOp, Instr.loadAt, ha, hx, SV.den, hs0, Instr.sureAddr, Sem.run_bind, Sem.run_pure, Result.andThen_ok, loadVar, isAgg_run hd, hag, Bool.false_eq_true, if_false, run_load]
              rw [Nat.add_zero] at k
              simp only [k, Result.andThen_ok]
            · exact h.elim
        · exact h.elim
      · exact h.elim
    · exact h.elim
  case store t x y =>
    split at h
    · rename_i i o hx
      split at h
      · rename_i hp hv
        refine ⟨.con undef, { st with hp }, ρ, ⟨hP.ni, hP.nb, hP.nv, hP.bd, hP.kn, hP.sl, hP.sk⟩, Env.le_refl ρ, rfl, fun e => (by cases e), h, fun β a w hH ha => ?_⟩
        obtain ⟨w', e, k, z⟩ := store_run F hP.sk hH hv
        refine ⟨β, w', .skip, ?_, .inr ⟨rfl, rfl⟩, .refl _, k, Nat.le_of_eq z.symm, rfl, fun e => (by cases e)⟩
        simp only [execOp, Instr.storeAt, ha, hx, SV.den, Instr.sureAddr, Sem.run_bind, Sem.run_pure, Result.andThen_ok, e]
      · exact h.elim
    · exact h.elim
  case nilCheck x =>
    split at h
    · rename_i i o hx
      exact opd_plain hP (.refl _) h fun β a w hH ha => by simp [execOp, ha, hx, SV.den]
    · rename_i f x' c hx
      exact opd_plain hP (.refl _) h fun β a w hH ha => by simp [execOp, ha, hx, SV.den]
    · exact h.elim
  case binOp op t x y ty =>
    replace h := bind_up _ h
    unfold binS at h
    split at h
    · rename_i k a1 k' c hx hy
      obtain ⟨sv, ⟨_, _, hq⟩, hr⟩ := shrS_ok (t := t) (k' := k') hP h
      exact opd_plain hP (.refl _) hq fun β a w hH ha => by
        simp only [execOp, ha, hx, hy, SV.den, Sem.run_bind, eqGuard_int, Result.andThen_ok, hr β, Sem.run_pure]
    · rename_i k a1 k' b1 hx hy
      split at h
      · rename_i e
        subst e
        obtain ⟨sv, ⟨_, _, hq⟩, hr⟩ := intOp_ok (t := t) hP h
        exact opd_plain hP (.refl _) hq fun β a w hH ha => by
          simp only [execOp, ha, hx, hy, SV.den, Sem.run_bind, eqGuard_int, Result.andThen_ok, hr β, Sem.run_pure]
      · exact h.elim
    · exact h.elim
  case unOp op t x =>
    split at h
    · rename_i k e hx
      exact opd_plain hP (.refl _) h fun β a w hH ha => by simp [execOp, ha, hx, SV.den, Op.unary, Op.intArith, mk_den hP.bd, E.den]
    · rename_i b hx
      exact opd_plain hP (.refl _) h fun β a w hH ha => by simp [execOp, ha, hx, SV.den, Op.unary, bNot_den]
    · exact h.elim
  case convert src t x =>
    split at h
    · rename_i d k k' e hs hu hx
      exact opd_plain hP (.refl _) h fun β a w hH ha => by
        simp only [execOp, ha, hx, SV.den, convert, Sem.run_bind, under_run hs, under_run hu, Result.andThen_ok, mk_den hP.bd, Conv.intToInt, Sem.run_pure]
    · exact h.elim
  case makeFunc fn first cap =>
    split at h
    · exact opd_plain hP (.refl _) h fun β a w hH ha => by
        simp only [execOp, Instr.makeFunc, eval_map ha, Sem.run_bind, Sem.run_pure, Result.andThen_ok, SV.den]
    · exact h.elim
  case slice t x lo hi mx =>
    split at h
    · rename_i i o l c hx
      split at h
      · rename_i elem lo' hi' hu hlo hhi
        split at h
        · rename_i n hn
          split at h
          · rename_i hc
            exact opd_plain hP (.refl _) h fun β a w hH ha => by
              have e := sliceBounds_run (P := P) hlo hhi hc.1 hc.2 true ρ β w
              have hf : ∀ o : Option Operand, o.map a.eval = o.map fun x => (evalO st x).den ρ β := fun o => by cases o <;> simp [ha]
              simp only [execOp, Instr.sliceAt, Sem.run_bind, under_run hu, Result.andThen_ok, ha, hx, SV.den, Instr.slice, hf, Option.map_none, e, sizeOf_run hn, Sem.run_pure]
              split <;> simp [addr_add]
          · exact h.elim
        · exact h.elim
      · exact h.elim
    · rename_i i o hx
      split at h
      · rename_i n elem hu
        split at h
        · rename_i z lo' hi' hz hlo hhi
          split at h
          · rename_i hc
            exact opd_plain hP (.refl _) h fun β a w hH ha => by
              have e := sliceBounds_run (P := P) hlo hhi hc.1 hc.2 false ρ β w
              have hf : ∀ o : Option Operand, o.map a.eval = o.map fun x => (evalO st x).den ρ β := fun o => by cases o <;> simp [ha]
              simp only [execOp, Instr.sliceAt, Sem.run_bind, under_run hu, Result.andThen_ok, ha, hx, SV.den, Instr.sureAddr, hf, Option.map_none, e, sizeOf_run hz, Sem.run_pure]
              split <;> simp [addr_add]
          · exact h.elim
        · exact h.elim
      · exact h.elim
    · exact h.elim
  case fieldAddr s x f =>
    split at h
    · rename_i i o fields hx hu
      split at h
      · rename_i fd hf
        split at h
        · rename_i n hn
          split at h
          · exact h.elim
          · rename_i hz
            exact opd_plain hP (.refl _) h fun β a w hH ha => by
              simp only [execOp, Instr.fieldAt, ha, hx, SV.den, Sem.run_bind, under_run hu, Result.andThen_ok, hf, Instr.sureAddr, Sem.run_pure, fieldPlace, sizeOf_run hn, if_neg hz, addr_add]
        · exact h.elim
      · exact h.elim
    · rename_i i e o fields hx hu
      split at h
      · rename_i fd hf
        split at h
        · rename_i n hn
          split at h
          · exact h.elim
          · rename_i hz
            split at h
            · rename_i _ len hf2
              obtain ⟨hw, st', p, l, h⟩ := tNeed_holds hP h
              rw [bLt_den hP.bd, decide_eq_true_eq] at hw
              simp only [E.den] at hw
              obtain ⟨a0, n0', c0, hs0, hs1⟩ := slice_at hP hf2 hw
              exact opd_plain p l h fun β a w hH ha => by
                simp only [execOp, Instr.fieldAt, ha, hx, SV.den, hs0, Sem.run_bind, under_run hu, Result.andThen_ok, hf, Instr.sureAddr, Sem.run_pure, fieldPlace, sizeOf_run hn, if_neg hz, addr_add_add, Nat.add_assoc]
            · exact h.elim
        · exact h.elim
      · exact h.elim
    · exact h.elim
  case field s x f =>
    split at h
    · rename_i l fields hx hu
      split at h
      · rename_i fd hf
        split at h
        · rename_i v hv
          exact opd_plain hP (.refl _) h fun β a w hH ha => by
            simp only [execOp, Instr.field, ha, hx, SV.den, Sem.run_bind, under_run hu, Result.andThen_ok, hf, asAgg, Sem.run_pure, part_run hv ρ β]
        · exact h.elim
      · exact h.elim
    · exact h.elim
  case indexAddr t x ix =>
    split at h
    · rename_i i o k e len elem hx hi hu
      split at h
      · rename_i n hn
        obtain ⟨j, st', hj, he, p, l, h⟩ := indexed_holds hP h
        exact opd_plain p l h fun β a w hH ha => by
          simp only [execOp, Instr.indexAt, ha, hx, hi, SV.den, asIntOf, Sem.run_bind, Sem.run_pure, under_run hu, Result.andThen_ok, Instr.sureAddr, he]
          rw [if_pos ⟨by omega, by omega⟩]
          simp only [Sem.run_bind, sizeOf_run hn, Result.andThen_ok, Sem.run_pure, Int.toNat_natCast, addr_add]
      · exact h.elim
    · rename_i i o len c k e elem hx hi hu
      split at h
      · rename_i n hn
        obtain ⟨j, st', hj, he, p, l, h⟩ := indexed_holds hP h
        exact opd_plain p l h fun β a w hH ha => by
          simp only [execOp, Instr.indexAt, ha, hx, hi, SV.den, asIntOf, Sem.run_bind, Sem.run_pure, under_run hu, Result.andThen_ok, he]
          rw [if_pos ⟨by omega, by omega⟩]
          simp only [Sem.run_bind, sizeOf_run hn, Result.andThen_ok, Sem.run_pure, Int.toNat_natCast, addr_add]
      · exact h.elim
    · rename_i i k e elem hx hi hu
      split at h
      · rename_i n _ len hn hf
        obtain ⟨hw, st', p, l, h⟩ := tNeed_holds hP h
        rw [bAnd_den, bLe_den hP.bd, bLt_den hP.bd, Bool.and_eq_true, decide_eq_true_eq, decide_eq_true_eq] at hw
        simp only [E.den] at hw
        obtain ⟨a0, n0', c0, hs0, hs1⟩ := slice_at hP hf (by omega)
        exact opd_plain p l h fun β a w hH ha => by
          simp only [execOp, Instr.indexAt, ha, hx, hi, SV.den, hs0, asIntOf, Sem.run_bind, Sem.run_pure, under_run hu, Result.andThen_ok, nf_den p.bd, E.den]
          rw [if_pos ⟨hw.1, by omega⟩]
          simp only [Sem.run_bind, sizeOf_run hn, Result.andThen_ok, Sem.run_pure, Nat.add_zero]
          rw [Int.toNat_mul hw.1 (by omega), Int.toNat_natCast]
      · exact h.elim
    · exact h.elim
  case index t x ix =>
    split at h
    · rename_i l k e len elem hx hi hu
      split at h
      · rename_i n hn
        obtain ⟨j, st', hj, he, p, lk, h⟩ := indexed_holds hP h
        split at h
        · rename_i v hv
          exact opd_plain p lk h fun β a w hH ha => by
            simp only [execOp, Instr.index, ha, hx, hi, SV.den, asIntOf, Sem.run_bind, Sem.run_pure, under_run hu, Result.andThen_ok, he]
            rw [if_pos ⟨by omega, by omega⟩]
            simp only [Sem.run_bind, sizeOf_run hn, Result.andThen_ok, Int.toNat_natCast, part_run hv ρ β]
        · exact h.elim
      · exact h.elim
    · exact h.elim
  case extract x i =>
    split at h
    · rename_i l hx
      split at h
      · rename_i v hv
        exact opd_plain hP (.refl _) h fun β a w hH ha => by
          have e : (SV.dens ρ β l)[i]? = some (v.den ρ β) := by rw [dens_get, hv]; rfl
          simp only [execOp, Instr.extract, ha, hx, SV.den, List.getElem?_toArray, e, Sem.run_bind, Sem.run_pure, Result.andThen_ok]
      · exact h.elim
    · exact h.elim
end
end Sym
end Go.Proofs.Ythfagiihfkjamaa
