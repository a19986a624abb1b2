/- XFd is sound: each operation that is no call, in a table. -/
import Derived.Test.YtlhnhidoljfnnaaFh
import Derived.Laws.StructEq
import Derived.Laws.Small
set_option linter.unusedVariables false
set_option linter.unusedSimpArgs false
namespace Go.Proofs.Ytlhnhidoljfnnaa
open Go.RowKit
namespace Fx
section
variable {M : Models} {N : Nat} {P : Program} {F : Fr}
theorem eqT_run {ρ : Env} {bd : Bds} (hb : BdOk ρ.ds bd) (w : World) : ∀ (n d : Nat) (t : TypeId) (x y : SV) (e : X), eqT P bd n t x y = some e → (Op.equalIn (d + n) t (x.den ρ) (y.den ρ)).run P w = .ok (e.den ρ.ds).boo w
  | 0, _, _, _, _, _, h => by simp [eqT] at h
  | n + 1, d, t, x, y, e, h => by
    simp only [eqT] at h
    split at h
    · rename_i a b hu
      injection h with h
      subst h
      simp only [SV.den, show d + (n + 1) = (d + n) + 1 from rfl, run_equalIn_bool w (d + n) t _ _ hu]
      rfl
    · rename_i k0 k a k' b hu
      split at h
      · rename_i ek
        subst ek
        injection h with h
        subst h
        rw [bEq_den hb]
        simp only [SV.den, show d + (n + 1) = (d + n) + 1 from rfl]
        simp [Op.equalIn, run_underlying hu]
        rfl
      · cases h
    · rename_i a b hu
      injection h with h
      subst h
      simp only [SV.den, show d + (n + 1) = (d + n) + 1 from rfl, run_equalIn_string w (d + n) t _ _ hu]
      rfl
    · rename_i fields xs ys hu
      split at h
      · cases h
      rename_i hst
      have hf : P.fieldsOf t = fields := by simp [Program.fieldsOf, hu]
      simp only [SV.den, show d + (n + 1) = (d + n) + 1 from rfl]
      rw [run_equalIn_struct w (d + n) t _ _ (by rw [hf]; exact hu) (by simpa using hst), hf]
      clear hf hu
      generalize fields.toList = fs at h
      induction fs generalizing e with
      | nil =>
        simp only [List.foldr_nil, Option.some.injEq] at h
        subst h
        simp [Op.eqFields, X.den, D.boo]
      | cons f fs ih =>
        simp only [List.foldr_cons] at h
        unfold Op.eqFields
        split at h
        · rename_i hn
          rw [if_neg (by simpa using hn)]
          exact ih e h
        · rename_i hn
          rw [if_pos (by simpa using hn)]
          split at h
          · rename_i u v hu hv
            split at h
            · rename_i a b ha hb'
              injection h with h
              subst h
              simp only [Sem.run_bind, part_run hu ρ, part_run hv ρ, Result.andThen_ok, eqT_run hb w n d f.type u v a ha, bAnd_den]
              have := ih b hb'
              cases (X.den ρ.ds a).boo <;> simp [this]
            · cases h
          · cases h
    · cases h
theorem binS_ok {ρ : Env} {st st' : St} {sv : SV} {ds' : List D} (hP : PRel ρ.ds st) {op : BinOp} {t : TypeId} {x y : SV} (px py : Operand) (h : (binS P st op t x y).eval M N ρ.ds = some ((sv, st'), ds')) :
    ds' = ρ.ds ∧ PRel ρ.ds st' ∧ Like st st' ∧ sv.isUnd = false ∧ x.isUnd = false ∧ y.isUnd = false ∧ ∀ w, (eqGuard op t px py (x.den ρ) (y.den ρ)).run P w = .ok () w ∧ (binOp op t (x.den ρ) (y.den ρ)).run P w = .ok (sv.den ρ) w := by
  have gi : ∀ (w : World) (k k' : IntKind) (a b : Int), (eqGuard op t px py (.int k a) (.int k' b)).run P w = .ok () w := fun w k k' a b => by unfold eqGuard; cases op <;> simp
  have gb : ∀ (w : World) (a b : Bool), (eqGuard op t px py (.bool a) (.bool b)).run P w = .ok () w := fun w a b => by unfold eqGuard; cases op <;> simp
  have gs : ∀ (w : World) (a b : ByteArray), (eqGuard op t px py (.string a) (.string b)).run P w = .ok () w := fun w a b => by unfold eqGuard; cases op <;> simp
  have ga : ∀ (w : World) (a b : Array Value), P.eqGuardType P.depth t = false → (eqGuard op t px py (.agg a) (.agg b)).run P w = .ok () w := fun w a b hg => by unfold eqGuard; cases op <;> simp [hg]
  unfold binS at h
  split at h
  · rename_i k a k' c
    obtain ⟨e, p, l, u, hr⟩ := shrS_ok (P := P) (t := t) (k' := k') hP h
    exact ⟨e, p, l, u, rfl, rfl, fun w => ⟨by simp only [SV.den, gi], hr w⟩⟩
  · rename_i k a k' b
    split at h
    · rename_i e
      subst e
      obtain ⟨e, p, l, u, hr⟩ := intOp_ok (P := P) (t := t) hP h
      exact ⟨e, p, l, u, rfl, rfl, fun w => ⟨by simp only [SV.den, gi], hr w⟩⟩
    · simp [T.eval] at h
  · split at h
    · rename_i hu
      simp only [T.eval, Option.some.injEq, Prod.mk.injEq] at h
      obtain ⟨⟨rfl, rfl⟩, rfl⟩ := h
      exact ⟨rfl, hP, .refl _, rfl, rfl, rfl, fun w => ⟨by simp only [SV.den, gb], by simp only [SV.den, run_eql_bool w t _ _ hu]; rfl⟩⟩
    · simp [T.eval] at h
  · split at h
    · rename_i hu
      simp only [T.eval, Option.some.injEq, Prod.mk.injEq] at h
      obtain ⟨⟨rfl, rfl⟩, rfl⟩ := h
      exact ⟨rfl, hP, .refl _, rfl, rfl, rfl, fun w => ⟨by simp only [SV.den, gb], by simp only [SV.den, run_neq_bool w t _ _ hu, bNot_den]; rfl⟩⟩
    · simp [T.eval] at h
  · rename_i a b
    obtain ⟨hb, s1, p, l, h⟩ := tNeed_some hP h
    simp only [T.eval, Option.some.injEq, Prod.mk.injEq] at h
    obtain ⟨⟨rfl, rfl⟩, rfl⟩ := h
    refine ⟨rfl, p, l, rfl, rfl, rfl, fun w => ⟨by simp only [SV.den, gs], ?_⟩⟩
    rw [bLe_den hP.bd] at hb
    have hb := of_decide_eq_true hb
    have e1 : (X.den ρ.ds (.add (xSlen a) (xSlen b))).int = (X.den ρ.ds a).slen + (X.den ρ.ds b).slen := by show (X.den ρ.ds (xSlen a)).int + (X.den ρ.ds (xSlen b)).int = _; rw [xSlen_den, xSlen_den]
    rw [e1] at hb
    simp only [X.den, D.int, D.slen] at hb
    have e2 : ¬ (((X.den ρ.ds a).str.size + (X.den ρ.ds b).str.size : Nat) : Int) > IntKind.i64.max := by
      have : IntKind.i64.max = 9223372036854775807 := rfl
      omega
    simp only [SV.den, binOp, Op.stringOp, if_neg e2, Sem.run_pure, xScat_den]
  · simp only [T.eval, Option.some.injEq, Prod.mk.injEq] at h
    obtain ⟨⟨rfl, rfl⟩, rfl⟩ := h
    refine ⟨rfl, hP, .refl _, rfl, rfl, rfl, fun w => ⟨by simp only [SV.den, gs], ?_⟩⟩
    simp only [SV.den, binOp, Op.stringOp, Sem.run_pure]
    rfl
  · simp only [T.eval, Option.some.injEq, Prod.mk.injEq] at h
    obtain ⟨⟨rfl, rfl⟩, rfl⟩ := h
    refine ⟨rfl, hP, .refl _, rfl, rfl, rfl, fun w => ⟨by simp only [SV.den, gs], ?_⟩⟩
    simp only [SV.den, binOp, Op.stringOp, Sem.run_pure, bNot_den]
    rfl
  · simp only [T.eval, Option.some.injEq, Prod.mk.injEq] at h
    obtain ⟨⟨rfl, rfl⟩, rfl⟩ := h
    refine ⟨rfl, hP, .refl _, rfl, rfl, rfl, fun w => ⟨by simp only [SV.den, gs], ?_⟩⟩
    simp only [SV.den, binOp, Op.stringOp, Sem.run_pure, bNot_den]
    rename_i a b
    have e : (X.den ρ.ds (.and (bNot (.slt a b)) (bNot (.seq a b)))).boo = (!(X.den ρ.ds (.slt a b)).boo && !(X.den ρ.ds (.seq a b)).boo) := by show ((X.den ρ.ds (bNot (.slt a b))).boo && (X.den ρ.ds (bNot (.seq a b))).boo) = _; rw [bNot_den, bNot_den]
    rw [e]
    simp only [X.den, D.boo]
    simp [Bool.not_and]
  · simp only [T.eval, Option.some.injEq, Prod.mk.injEq] at h
    obtain ⟨⟨rfl, rfl⟩, rfl⟩ := h
    refine ⟨rfl, hP, .refl _, rfl, rfl, rfl, fun w => ⟨by simp only [SV.den, gs], ?_⟩⟩
    simp only [SV.den, binOp, Op.stringOp, Sem.run_pure]
    rename_i a b
    have e : (X.den ρ.ds (.and (bNot (.slt a b)) (bNot (.seq a b)))).boo = (!(X.den ρ.ds (.slt a b)).boo && !(X.den ρ.ds (.seq a b)).boo) := by show ((X.den ρ.ds (bNot (.slt a b))).boo && (X.den ρ.ds (bNot (.seq a b))).boo) = _; rw [bNot_den, bNot_den]
    rw [e]
    simp only [X.den, D.boo]
    simp [Bool.not_or]
  · simp only [T.eval, Option.some.injEq, Prod.mk.injEq] at h
    obtain ⟨⟨rfl, rfl⟩, rfl⟩ := h
    refine ⟨rfl, hP, .refl _, rfl, rfl, rfl, fun w => ⟨by simp only [SV.den, gs], ?_⟩⟩
    simp only [SV.den, binOp, Op.stringOp, Sem.run_pure]
    rfl
  · simp only [T.eval, Option.some.injEq, Prod.mk.injEq] at h
    obtain ⟨⟨rfl, rfl⟩, rfl⟩ := h
    refine ⟨rfl, hP, .refl _, rfl, rfl, rfl, fun w => ⟨by simp only [SV.den, gs], ?_⟩⟩
    simp only [SV.den, binOp, Op.stringOp, Sem.run_pure, bNot_den]
    rfl
  · split at h
    · simp [T.eval] at h
    rename_i hg
    split at h
    · rename_i x hx
      simp only [T.eval, Option.some.injEq, Prod.mk.injEq] at h
      obtain ⟨⟨rfl, rfl⟩, rfl⟩ := h
      refine ⟨rfl, hP, .refl _, rfl, rfl, rfl, fun w => ⟨by simp only [SV.den, ga w _ _ (by simpa using hg)], ?_⟩⟩
      have := eqT_run (P := P) hP.bd w 20 9980 t _ _ _ hx
      simp only [SV.den] at this
      simp only [SV.den, Sem.run_bind, Result.andThen_ok, binOp, Op.equal, Op.maxDepth, this, Sem.run_pure]
    · simp [T.eval] at h
  · split at h
    · simp [T.eval] at h
    rename_i hg
    split at h
    · rename_i x hx
      simp only [T.eval, Option.some.injEq, Prod.mk.injEq] at h
      obtain ⟨⟨rfl, rfl⟩, rfl⟩ := h
      refine ⟨rfl, hP, .refl _, rfl, rfl, rfl, fun w => ⟨by simp only [SV.den, ga w _ _ (by simpa using hg)], ?_⟩⟩
      have := eqT_run (P := P) hP.bd w 20 9980 t _ _ _ hx
      simp only [SV.den] at this
      simp only [SV.den, Sem.run_bind, Result.andThen_ok, binOp, Op.equal, Op.maxDepth, this, Sem.run_pure, bNot_den]
    · simp [T.eval] at h
  · simp [T.eval] at h
theorem argX_ok {ρ : Env} {st : St} {w : World} (hH : HRel F ρ st.hp st.sl w) {c : CT} {x : SV} {e : X} (h : argX st false c x = some e) : RepC (rdW w) (Gd F ρ st.hp w) c (x.den ρ) (e.den ρ.ds) ∧ x.isUnd = false := by
  unfold argX at h
  split at h
  · split at h
    · rename_i ek; subst ek; injection h with h; subst h; exact ⟨by simp only [RepC, SV.den], rfl⟩
    · cases h
  · injection h with h; subst h; exact ⟨by simp only [RepC, SV.den], rfl⟩
  · injection h with h; subst h; exact ⟨by simp only [RepC, SV.den], rfl⟩
  · rename_i cs i
    split at h
    · rename_i cs' x' r he
      split at h
      · rename_i hc
        simp only [Bool.false_or, Bool.and_eq_true] at hc
        injection h with h
        subst h
        have := CT.sames_eq hc.1
        subst this
        have hr : r = none := by cases r with | none => rfl | some j => cases hc.2
        subst hr
        refine ⟨?_, rfl⟩
        unfold St.ent at he
        split at he
        · simp at he
        · split at he
          · rename_i en hf
            simp only [Option.some.injEq, Prod.mk.injEq, and_true] at he
            obtain ⟨rfl, rfl⟩ := he
            have hm := List.mem_of_find?_eq_some hf
            have hi := List.find?_some hf
            simp only [beq_iff_eq] at hi
            subst hi
            exact hH.imm en hm
          · cases he
      · cases h
    · cases h
  · rename_i cs
    injection h with h
    subst h
    exact ⟨by simp only [RepC, SV.den, X.den, X.denss, D.rows]; exact ⟨none, 0, rfl, Nat.le_refl _, Nat.zero_le _, .inl rfl⟩, rfl⟩
  · cases h
theorem argXs_ok {ρ : Env} {st : St} {w : World} (hH : HRel F ρ st.hp st.sl w) {rd : Rd} {b : Nat} (hrd : ∀ b, Gd F ρ st.hp w b → ∀ o, rd b o = rdW w b o) : ∀ {cs : List CT} {l : List SV} {r : List X} {o : Nat}, argXs st false cs l = some r → (∀ j v, (SV.dens ρ l)[j]? = some v → rd b (o + j) = some v) →
    RepR rd (Gd F ρ st.hp w) cs b o (X.dens ρ.ds r)
  | [], [], r, o, h, _ => by simp only [argXs, Option.some.injEq] at h; subst h; simp only [X.dens, RepR]
  | [], _ :: _, _, _, h, _ => by cases h
  | _ :: _, [], _, _, h, _ => by cases h
  | c :: cs, x :: l, r, o, h, hc => by
    simp only [argXs] at h
    split at h
    · rename_i a m ha hm
      injection h with h
      subst h
      obtain ⟨h1, _⟩ := argX_ok hH ha
      simp only [X.dens, RepR]
      refine ⟨_, _, rfl, ⟨_, hc 0 _ (by simp [SV.dens]), RepC.mono (fun b g => ⟨g, fun o => hrd b g o⟩) h1⟩, argXs_ok hH hrd hm fun j v hj => ?_⟩
      have := hc (j + 1) v (by simpa [SV.dens] using hj)
      rwa [show o + 1 + j = o + (j + 1) by omega]
    · cases h
theorem argXs_len {st : St} {own : Bool} : ∀ {cs : List CT} {l : List SV} {r : List X}, argXs st own cs l = some r → l.length = cs.length ∧ r.length = cs.length
  | [], [], r, h => by simp only [argXs, Option.some.injEq] at h; subst h; simp
  | [], _ :: _, _, h => by cases h
  | _ :: _, [], _, h => by cases h
  | c :: cs, x :: l, r, h => by
    simp only [argXs] at h
    split at h
    · rename_i a m ha hm
      injection h with h
      subst h
      have := argXs_len hm
      simp [this]
    · cases h
theorem chunks_ok {st : St} {cs : List CT} : ∀ {n : Nat} {l : List SV} {rows : List (List X)}, chunks st cs n l = some rows → rows.length = n ∧ l.length = n * cs.length ∧ ∀ i row, rows[i]? = some row → argXs st false cs ((l.drop (i * cs.length)).take cs.length) = some row
  | 0, [], rows, h => by simp only [chunks, Option.some.injEq] at h; subst h; simp
  | 0, _ :: _, _, h => by cases h
  | n + 1, l, rows, h => by
    simp only [chunks] at h
    split at h
    · rename_i r rs hr hrs
      injection h with h
      subst h
      obtain ⟨h1, h2, h3⟩ := chunks_ok hrs
      have hl := (argXs_len hr).1
      simp only [List.length_take, List.length_drop] at hl h2
      refine ⟨by simp [h1], by rw [Nat.succ_mul]; omega, fun i row hi => ?_⟩
      cases i with
      | zero => simp at hi; subst hi; simpa using hr
      | succ i =>
        simp at hi
        have := h3 i row hi
        rw [List.drop_drop] at this
        rwa [Nat.succ_mul, Nat.add_comm (i * cs.length)]
    · cases h
theorem ctsOf_pos : True := trivial
theorem up_get {α : Type} (f : Nat → α) (n : Nat) (x : α) (i : Nat) (h : i < n) : (fun k => if k = n then x else f k) i = f i := by
  have : i ≠ n := by omega
  simp [this]
def Env.setβ (ρ : Env) (n b : Nat) : Env := ⟨ρ.ds, ρ.vs, fun k => if k = n then b else ρ.β k⟩
def Env.setv (ρ : Env) (n : Nat) (v : Value) : Env := ⟨ρ.ds, fun k => if k = n then v else ρ.vs k, ρ.β⟩
theorem Env.setβ_same (ρ : Env) (n b : Nat) : (ρ.setβ n b).β n = b := by simp [Env.setβ]
theorem Env.setv_same (ρ : Env) (n : Nat) (v : Value) : (ρ.setv n v).vs n = v := by simp [Env.setv]
theorem Ag.setβ (nd nv nh : Nat) (ρ : Env) (b : Nat) : Ag nd nv nh ρ (ρ.setβ nh b) := ⟨AgD.refl _ _, fun _ _ => rfl, fun i hi => up_get ρ.β nh _ i hi⟩
theorem Ag.setv (nd nv nh : Nat) (ρ : Env) (v : Value) : Ag nd nv nh ρ (ρ.setv nv v) := ⟨AgD.refl _ _, fun i hi => up_get ρ.vs nv _ i hi, fun _ _ => rfl⟩
/-- scoped states -/
structure Scp (st : St) : Prop where
  tm : ∀ x ∈ st.tm, x.isUnd = false → x.sc st.nd st.nv st.nh = true
  hp : HSc st.nd st.nv st.hp
  kn : ∀ p ∈ st.kn, p.1.sc st.nd = true
  sl : ∀ e ∈ st.sl, e.i < st.nv ∧ e.x.sc st.nd = true
  bd : st.bd.length ≤ st.nd
theorem scoped_iff {st : St} (h : st.scoped = true) : Scp st := by
  simp only [St.scoped, bA_true, lenQ_eq] at h
  obtain ⟨h1, h2, h3, h4, h5⟩ := h
  refine ⟨fun x hx hu => SV.okR_true (allR_true h1 x hx) hu, fun b hb => Blk.scR_true (allR_true h2 b hb), fun p hp => ?_, fun e he => ?_, Nat.le_of_ble_eq_true h5⟩
  · rw [← X.scR_eq]; exact allR_true h3 p hp
  · have := allR_true h4 e he
    rw [bA_true, ble_lt, X.scR_eq, decide_eq_true_eq] at this
    exact this
theorem Ag.keep {st : St} (hs : Scp st) {ρ ρ' : Env} (h : Ag st.nd st.nv st.nh ρ ρ') : ∀ x ∈ st.tm, x.isUnd = false → x.den ρ' = x.den ρ := fun x hx hu => SV.den_ag h (hs.tm x hx hu)
/-- a new block of cells -/
theorem new_ok {ρ : Env} {st st' : St} {cs : List SV} {sv : SV} {ds' : List D} {w : World} (hP : PRel ρ.ds st) (hH : HRel F ρ st.hp st.sl w) (t : TypeId) (h : (st.new cs).eval M N ρ.ds = some ((sv, st'), ds')) :
    sv = .ptr st.nh 0 ∧ ∃ ρ', ρ'.ds = ds' ∧ ρ'.β st.nh = w.heap.size ∧ Stp F ρ ρ' st st' w (w.alloc (.cells (SV.dens ρ cs).toArray t)) := by
  unfold St.new at h
  split at h
  · rename_i hc
    simp only [Bool.and_eq_true] at hc
    obtain ⟨hc1, hc2⟩ := hc
    have S := scoped_iff hc1
    simp only [T.eval, Option.some.injEq, Prod.mk.injEq] at h
    obtain ⟨⟨rfl, rfl⟩, rfl⟩ := h
    have ag := Ag.setβ st.nd st.nv st.nh ρ w.heap.size
    refine ⟨rfl, ρ.setβ st.nh w.heap.size, rfl, Env.setβ_same _ _ _, ag, ⟨hP.nd, hP.bd, hP.kn⟩, ?_, rfl, Nat.le_refl _, Nat.le_refl _, by simp [St.nh], Ag.keep S ag, by simp⟩
    have eb : (ρ.setβ st.nh w.heap.size).β st.hp.length = w.heap.size := Env.setβ_same _ _ _
    refine hH.push (blk := .fix cs true) S.hp S.sl ag (.inl (by rw [blkOf, eb])) ⟨fun o x hx hu => ?_, fun o ho => ?_, fun _ o => ?_⟩
    · rw [eb, World.cell?_alloc_new, List.getElem?_toArray, dens_get, hx, Option.map_some]
      rw [scs_eq, List.all_eq_true] at hc2
      rw [SV.den_ag ag (hc2 x (List.mem_of_getElem? hx))]
    · rw [eb, World.cell?_alloc_new, List.getElem?_toArray, dens_get, List.getElem?_eq_getElem ho]
      rfl
    · rw [eb]
      exact World.frozen?_alloc_new _ _ _ _
  · simp [T.eval] at h
/-- a new slice that is owned -/
theorem own_ok {ρ : Env} {st st' : St} {ct : List CT} {rows : List (List X)} {l : List SV} {len : Nat} {sv : SV} {ds' : List D} {w : World} (hP : PRel ρ.ds st) (hH : HRel F ρ st.hp st.sl w) (t : TypeId) (hr : chunks st ct len l = some rows) (hlen : len ≤ 1000) (h : (st.own ct (.rows rows)).eval M N ρ.ds = some ((sv, st'), ds')) :
    sv = .var st.nv ∧ ∃ ρ', ρ'.ds = ds' ∧ ρ'.vs st.nv = .slice (some ⟨w.heap.size, 0, none⟩) len len ∧ Stp F ρ ρ' st st' w (w.alloc (.cells (SV.dens ρ l).toArray t)) := by
  unfold St.own at h
  split at h
  · rename_i hc
    simp only [Bool.and_eq_true] at hc
    obtain ⟨hc1, hc2⟩ := hc
    have S := scoped_iff hc1
    simp only [T.eval, Option.some.injEq, Prod.mk.injEq] at h
    obtain ⟨⟨rfl, rfl⟩, rfl⟩ := h
    have ag := Ag.setv st.nd st.nv st.nh ρ (.slice (some ⟨w.heap.size, 0, none⟩) len len)
    obtain ⟨h1, h2, h3⟩ := chunks_ok hr
    have ev := Env.setv_same ρ st.nv (.slice (some ⟨w.heap.size, 0, none⟩) len len)
    refine ⟨rfl, ρ.setv st.nv (.slice (some ⟨w.heap.size, 0, none⟩) len len), rfl, ev, ag, ⟨hP.nd, hP.bd, hP.kn⟩, ?_, rfl, Nat.le_refl _, by simp, by simp [St.nh], Ag.keep S ag, by simp⟩
    have er : (X.den ρ.ds (.rows rows)).rows = rows.map (X.dens ρ.ds) := by simp only [X.den, D.rows, xdenss_eq]
    refine hH.push (blk := .rows ct (.rows rows) st.nv) S.hp S.sl ag (if h0 : len = 0 then .inr (by rw [blkOf, ev, h0]; rfl) else .inl (by obtain ⟨m, rfl⟩ := Nat.exists_eq_succ_of_ne_zero h0; rw [blkOf, ev]; rfl)) ?_
    have er' : (X.den (ρ.setv st.nv (.slice (some ⟨w.heap.size, 0, none⟩) len len)).ds (.rows rows)).rows = rows.map (X.dens ρ.ds) := er
    simp only [BlkOk, ev, er']
    by_cases h0 : len = 0
    · subst h0
      have : rows = [] := List.length_eq_zero_iff.1 h1
      subst this
      exact .inl ⟨_, rfl, rfl⟩
    · refine .inr ⟨w.heap.size, len, by simp [h1], Nat.pos_of_ne_zero h0, by simp [h1], by unfold maxLen; omega, fun o ho => ?_, fun o => World.frozen?_alloc_new _ _ _ _, fun i row hi => ?_⟩
      · rw [World.cell?_alloc_new, List.getElem?_toArray, dens_get, List.getElem?_eq_getElem (by rw [h2]; exact ho)]
        rfl
      · rw [List.getElem?_map, Option.map_eq_some_iff] at hi
        obtain ⟨r, hri, rfl⟩ := hi
        have hx := h3 i r hri
        refine argXs_ok hH (fun b g o => ?_) hx fun j v hj => ?_
        · exact (World.cell?_alloc_lt _ _ _ g.2.1)
        · have hjl : j < ct.length := by
            have := lt_of_get hj
            rw [dens_len, (argXs_len hx).1] at this
            exact this
          simp only [rdW]
          rw [World.cell?_alloc_new, List.getElem?_toArray]
          rw [dens_get] at hj ⊢
          rw [← hj]
          rw [List.getElem?_take_of_lt hjl, List.getElem?_drop]
  · simp [T.eval] at h
end
end Fx
end Go.Proofs.Ytlhnhidoljfnnaa
