/- XFd is sound: regions that draw their order, whatever the order. -/
import Derived.Test.YtlhnhidoljfnnaaFs
set_option linter.unusedVariables false
set_option linter.unusedSimpArgs false
set_option linter.unusedSectionVars false
namespace Go.Proofs.Ytlhnhidoljfnnaa
open Go.RowKit
namespace Fx
theorem maskT_len {ts : List Nat} : ∀ {i : Nat} {l : List SV}, (maskT i ts l).length = l.length
  | _, [] => rfl
  | i, x :: l => by simp [maskT_nil, maskT_cons, maskT_len (i := i + 1) (l := l)]
theorem maskH_len {ts : List Nat} : ∀ {i : Nat} {l : List Blk}, (maskH i ts l).length = l.length
  | _, [] => rfl
  | i, x :: l => by simp [maskH_nil, maskH_cons, maskH_len (i := i + 1) (l := l)]
theorem mergeH_len {bs : List Nat} : ∀ {i : Nat} {xs ys : List Blk}, xs.length ≤ ys.length → (mergeH i bs xs ys).length = ys.length
  | i, [], ys, _ => by simp [mergeH]
  | i, x :: xs, [], h => by simp at h
  | i, x :: xs, y :: ys, h => by simp [mergeH, mergeH_len (i := i + 1) (xs := xs) (ys := ys) (by simpa using h)]
def hpOf (H : Nat) (f : Nat → Blk) : List Blk := (List.range H).map f
theorem hpOf_get {H : Nat} {f : Nat → Blk} {c : Nat} : (hpOf H f)[c]? = if c < H then some (f c) else none := by
  simp only [hpOf, List.getElem?_map, List.getElem?_range]
  by_cases h : c < H
  · simp [h]
  · simp [h]
/-- the canonical run -/
structure Run where
  S : Nat → St
  E : Nat → List D
  Mp : Nat → St
  RL : Nat → List Rec
noncomputable def Run.m (ops : Array Oper) (bfs : List Nat) (R : Run) (j : Nat) (o : Oper) : St := maskSt ops (bfs.getD j 0) (R.RL j) j o (R.S j)
noncomputable def Run.rc (ops : Array Oper) (bfs : List Nat) (R : Run) (j : Nat) (o : Oper) : Rec := recOf ops o (blksOf (R.S j) o) (R.S j) (R.m ops bfs j o) (R.Mp j)
def Run.Rc (R : Run) (k : Nat) : Rec := (R.RL (k + 1)).headD ⟨[], [], [], [], 0, 0, 0, 0, []⟩
mutual
theorem X.sc_up {nd nd' : Nat} (hl : nd ≤ nd') : ∀ {e : X}, e.sc nd = true → e.sc nd' = true
  | .V i, h => by simp only [X.sc, decide_eq_true_eq] at *; omega
  | .N z, _ | .B z, _ | .S z, _ => by simp only [X.sc]
  | .add a b, h | .sub a b, h | .mul a b, h | .quo a b, h | .rem a b, h | .mx a b, h | .mn a b, h | .lt a b, h | .eq a b, h | .beq a b, h | .and a b, h | .seq a b, h | .app a b, h | .take a b, h | .drop a b, h | .sat a b, h | .scat a b, h | .slt a b, h => by
    simp only [X.sc, Bool.and_eq_true] at h ⊢; exact ⟨X.sc_up hl h.1, X.sc_up hl h.2⟩
  | .rep n r, h => by simp only [X.sc, Bool.and_eq_true] at h ⊢; exact ⟨X.sc_up hl h.1, X.scs_up hl h.2⟩
  | .cond a b c, h | .ssub a b c, h => by simp only [X.sc, Bool.and_eq_true] at h ⊢; exact ⟨⟨X.sc_up hl h.1.1, X.sc_up hl h.1.2⟩, X.sc_up hl h.2⟩
  | .wr k a, h | .not a, h | .len a, h | .slen a, h | .sbytes a, h | .bstr a, h => by simp only [X.sc] at h ⊢; exact X.sc_up hl h
  | .at l i c, h => by simp only [X.sc, Bool.and_eq_true] at h ⊢; exact ⟨X.sc_up hl h.1, X.sc_up hl h.2⟩
  | .put l i c x, h => by simp only [X.sc, Bool.and_eq_true] at h ⊢; exact ⟨⟨X.sc_up hl h.1.1, X.sc_up hl h.1.2⟩, X.sc_up hl h.2⟩
  | .rows r, h => by simp only [X.sc] at h ⊢; exact X.scss_up hl h
theorem X.scs_up {nd nd' : Nat} (hl : nd ≤ nd') : ∀ {e : List X}, X.scs nd e = true → X.scs nd' e = true
  | [], _ => by simp only [X.scs]
  | x :: xs, h => by simp only [X.scs, Bool.and_eq_true] at h ⊢; exact ⟨X.sc_up hl h.1, X.scs_up hl h.2⟩
theorem X.scss_up {nd nd' : Nat} (hl : nd ≤ nd') : ∀ {e : List (List X)}, X.scss nd e = true → X.scss nd' e = true
  | [], _ => by simp only [X.scss]
  | x :: xs, h => by simp only [X.scss, Bool.and_eq_true] at h ⊢; exact ⟨X.scs_up hl h.1, X.scss_up hl h.2⟩
end
mutual
theorem SV.sc_up {nd nv nh nd' nv' nh' : Nat} (h1 : nd ≤ nd') (h2 : nv ≤ nv') (h3 : nh ≤ nh') : ∀ {x : SV}, x.sc nd nv nh = true → x.sc nd' nv' nh' = true
  | .int k e, h | .bool e, h | .str e, h => by simp only [SV.sc] at h ⊢; exact X.sc_up h1 h
  | .con v, _ => by simp only [SV.sc]
  | .var i, h => by simp only [SV.sc, decide_eq_true_eq] at h ⊢; omega
  | .el i e n o, h => by simp only [SV.sc, Bool.and_eq_true, decide_eq_true_eq] at h ⊢; exact ⟨by omega, X.sc_up h1 h.2⟩
  | .pel i o e l, h => by simp only [SV.sc, Bool.and_eq_true, decide_eq_true_eq] at h ⊢; exact ⟨by omega, X.sc_up h1 h.2⟩
  | .ptr i o, h | .row i o l c, h => by simp only [SV.sc, decide_eq_true_eq] at h ⊢; omega
  | .agg l, h | .tuple l, h => by simp only [SV.sc] at h ⊢; exact SV.scs_up h1 h2 h3 h
  | .fn f x c, h => by simp only [SV.sc, Bool.and_eq_true] at h ⊢; exact ⟨SV.scs_up h1 h2 h3 h.1, SV.scs_up h1 h2 h3 h.2⟩
  | .und, h => by simp [SV.sc] at h
theorem SV.scs_up {nd nv nh nd' nv' nh' : Nat} (h1 : nd ≤ nd') (h2 : nv ≤ nv') (h3 : nh ≤ nh') : ∀ {x : List SV}, SV.scs nd nv nh x = true → SV.scs nd' nv' nh' x = true
  | [], _ => by simp only [SV.scs]
  | x :: xs, h => by simp only [SV.scs, Bool.and_eq_true] at h ⊢; exact ⟨SV.sc_up h1 h2 h3 h.1, SV.scs_up h1 h2 h3 h.2⟩
end
theorem Blk.sc_up {nd nv nh nd' nv' nh' : Nat} (h1 : nd ≤ nd') (h2 : nv ≤ nv') (h3 : nh ≤ nh') {b : Blk} (h : b.sc nd nv nh = true) : b.sc nd' nv' nh' = true := by
  cases b with
  | fix c w =>
    simp only [Blk.sc, List.all_eq_true, Bool.or_eq_true] at h ⊢
    exact fun x hx => (h x hx).imp id (SV.sc_up h1 h2 h3)
  | rows cs x i =>
    simp only [Blk.sc, Bool.and_eq_true, decide_eq_true_eq] at h ⊢
    exact ⟨X.sc_up h1 h.1, by omega⟩
  | none => rfl
theorem mergeH_mem {bs : List Nat} {b : Blk} : ∀ {i : Nat} {xs ys : List Blk}, b ∈ mergeH i bs xs ys → b ∈ xs ∨ b ∈ ys
  | i, [], ys, h => by simp only [mergeH] at h; exact .inr h
  | i, x :: xs, [], h => by simp only [mergeH] at h; exact .inl h
  | i, x :: xs, y :: ys, h => by
    simp only [mergeH, List.mem_cons] at h
    rcases h with h | h
    · split at h
      · exact .inr (by rw [h]; exact List.mem_cons_self ..)
      · exact .inl (by rw [h]; exact List.mem_cons_self ..)
    · exact (mergeH_mem h).imp (List.mem_cons_of_mem _) (List.mem_cons_of_mem _)
/-- slots, blocks and slices within their bounds -/
structure Scq (st : St) : Prop where
  tm : ∀ x ∈ st.tm, x.isUnd = false → x.sc st.nd st.nv st.nh = true
  hp : HSc st.nd st.nv st.hp
  sl : ∀ e ∈ st.sl, e.i < st.nv ∧ e.x.sc st.nd = true
theorem Scq.mask {st : St} (h : Scq st) {ops : Array Oper} {bf : Nat} {rs : List Rec} {i : Nat} {o : Oper} : Scq (maskSt ops bf rs i o st) := by
  refine ⟨fun x hx hu => ?_, fun b hb => ?_, fun e he => ?_⟩
  · obtain ⟨t, ht⟩ := List.getElem?_of_mem hx
    simp only [maskSt, maskT_get, Option.map_eq_some_iff] at ht
    obtain ⟨y, h1, h2⟩ := ht
    split at h2
    · subst h2
      have := h.tm y (List.mem_of_getElem? h1) hu
      simpa only [maskSt, St.nh, maskH_len] using this
    · subst h2; cases hu
  · obtain ⟨t, ht⟩ := List.getElem?_of_mem hb
    simp only [maskSt, maskH_get, Option.map_eq_some_iff] at ht
    obtain ⟨y, h1, h2⟩ := ht
    split at h2
    · subst h2
      have := h.hp y (List.mem_of_getElem? h1)
      simpa only [maskSt, maskH_len] using this
    · subst h2; rfl
  · simp only [maskSt, List.mem_filter] at he
    exact h.sl e he.1
structure Dsc (o : Oper) (st : St) : Prop where
  tm : ∀ d x, o.dst = some d → st.tm[d]? = some x → x.isUnd = false → x.sc st.nd st.nv st.nh = true
  hp : HSc st.nd st.nv st.hp
  sl : ∀ e ∈ st.sl, e.i < st.nv ∧ e.x.sc st.nd = true
theorem dstOk_iff {o : Oper} {st : St} (h : dstOk o st = true) : Dsc o st := by
  simp only [dstOk, bA_true, lenQ_eq] at h
  obtain ⟨h1, h2, h3⟩ := h
  refine ⟨fun d x hd hx hu => ?_, fun b hb => Blk.scR_true (allR_true h2 b hb), fun e he => ?_⟩
  · simp only [hd, getR_eq, List.getD_eq_getElem?_getD, hx, Option.getD_some] at h1
    exact SV.okR_true h1 hu
  · have := allR_true h3 e he
    rw [bA_true, ble_lt, X.scR_eq, decide_eq_true_eq] at this
    exact this
section
variable {P : Program} {M : Models} {N : Nat} {call : Caller} {ops : Array Oper} {bfs : List Nat} {R : Run}
structure Run.Ok (P : Program) (M : Models) (N : Nat) (call : Caller) (ops : Array Oper) (bfs : List Nat) (R : Run) : Prop where
  tr : ∀ j o, ops[j]? = some o → Tr P M N call ops bfs R.S R.E R.Mp R.RL j o
  r0 : R.RL 0 = []
  s0 : Scq (R.S 0)
theorem op_at {i : Nat} (h : i < ops.size) : ∃ o, ops[i]? = some o := ⟨ops[i], Array.getElem?_eq_getElem h⟩
theorem op_lt {i : Nat} {o : Oper} (h : ops[i]? = some o) : i < ops.size := by
  rcases Nat.lt_or_ge i ops.size with k | k
  · exact k
  · rw [Array.getElem?_eq_none k] at h; cases h
variable (RO : R.Ok P M N call ops bfs)
include RO
theorem Run.rc_eq {k : Nat} {o : Oper} (ho : ops[k]? = some o) : R.Rc k = R.rc ops bfs k o := by
  unfold Run.Rc
  rw [(RO.tr k o ho).rl]
  rfl
theorem Run.rl {i : Nat} (hi : i < ops.size) : R.RL (i + 1) = R.Rc i :: R.RL i := by
  obtain ⟨o, ho⟩ := op_at hi
  rw [Run.rc_eq RO ho]
  exact (RO.tr i o ho).rl
/-- what is known of an operation -/
structure Run.Known (ops : Array Oper) (bfs : List Nat) (R : Run) (j : Nat) (o : Oper) : Prop where
  ssc : Scq (R.S j) → Scq (R.S (j + 1))
  psc : Dsc o (R.Mp j)
  clr : ∀ k, k < j → ¬ (bfs.getD j 0).testBit k = true → (R.rc ops bfs j o).clash (R.Rc k) = false
  rv : ∀ x, (x ∈ (dstV o (R.Mp j)).refV ∨ (∃ c ∈ (R.rc ops bfs j o).wb, x ∈ ((R.Mp j).hp.getD c .none).refV) ∨ x ∈ (R.rc ops bfs j o).es) → ∀ k, k < j → ¬ (bfs.getD j 0).testBit k = true → ¬ ((R.Rc k).v0 ≤ x ∧ x < (R.Rc k).v1)
  rh : ∀ x, (x ∈ (dstV o (R.Mp j)).refH ∨ (∃ c ∈ (R.rc ops bfs j o).wb, x ∈ ((R.Mp j).hp.getD c .none).refH)) → ∀ k, k < j → ¬ (bfs.getD j 0).testBit k = true → ¬ ((R.Rc k).h0 ≤ x ∧ x < (R.Rc k).h1)
  sl : (R.Mp j).sl.take (R.m ops bfs j o).sl.length = (R.m ops bfs j o).sl
  nv : (R.S j).nv ≤ (R.Mp j).nv
  nh : (R.S j).nh ≤ (R.Mp j).nh
  bs : ∀ c ∈ blksOf (R.S j) o, c < (R.S j).nh
theorem Run.known {j : Nat} {o : Oper} (ho : ops[j]? = some o) : R.Known ops bfs j o := by
  have h := (RO.tr j o ho).ok
  have hj := op_lt ho
  change okStep (bfs.getD j 0) (R.RL j) j o (R.S j) (R.m ops bfs j o) (R.Mp j) (R.rc ops bfs j o) = true at h
  simp only [okStep, Bool.and_eq_true, decide_eq_true_eq, List.all_eq_true, List.mem_append, List.mem_flatMap, List.mem_map] at h
  obtain ⟨⟨⟨⟨⟨⟨⟨⟨h1, h2⟩, h3⟩, h4⟩, h5⟩, h6⟩, h7⟩, h8⟩, h9⟩ := h
  have D := dstOk_iff h1
  have hnd := Nat.le_of_ble_eq_true h2
  refine ⟨fun q => ?_, D, clearOf_ok RO.r0 (fun i hi => Run.rl RO hi) j (by omega) h3, fun x hx => ?_, fun x hx => ?_, entsSame_eq h6, h7, h8, h9⟩
  · have hlen : (backSt o (blksOf (R.S j) o) (R.S j) (R.m ops bfs j o) (R.Mp j)).nh = (R.Mp j).nh := mergeH_len h8
    rw [(RO.tr j o ho).sv]
    change Scq (backSt o (blksOf (R.S j) o) (R.S j) (R.m ops bfs j o) (R.Mp j))
    have up : ∀ x ∈ (R.S j).tm, x.isUnd = false → x.sc (R.Mp j).nd (R.Mp j).nv (R.Mp j).nh = true := fun x hx hu => SV.sc_up hnd h7 h8 (q.tm x hx hu)
    refine ⟨fun x hx hu => ?_, fun b hb => ?_, fun e he => ?_⟩
    · rw [hlen]
      change x.sc (R.Mp j).nd (R.Mp j).nv (R.Mp j).nh = true
      simp only [backSt] at hx
      split at hx
      · rename_i d hd
        rcases List.mem_or_eq_of_mem_set hx with hx | hx
        · exact up x hx hu
        · subst hx
          simp only [dstV, hd, List.getD_eq_getElem?_getD] at hu ⊢
          cases e : (R.Mp j).tm[d]? with
          | none => rw [e] at hu; cases hu
          | some y => rw [e] at hu; exact D.tm d y hd e hu
      · exact up x hx hu
    · have hl : (backSt o (blksOf (R.S j) o) (R.S j) (R.m ops bfs j o) (R.Mp j)).hp.length = (R.Mp j).hp.length := hlen
      rw [hl]
      change b.sc (R.Mp j).nd (R.Mp j).nv (R.Mp j).hp.length = true
      rcases mergeH_mem (show b ∈ mergeH 0 (blksOf (R.S j) o) (R.S j).hp (R.Mp j).hp from hb) with hb | hb
      · exact Blk.sc_up hnd h7 h8 (q.hp b hb)
      · exact D.hp b hb
    · change e.i < (R.Mp j).nv ∧ e.x.sc (R.Mp j).nd = true
      rcases List.mem_append.1 (show e ∈ (R.S j).sl ++ (R.Mp j).sl.drop (R.m ops bfs j o).sl.length from he) with he | he
      · exact ⟨Nat.lt_of_lt_of_le (q.sl e he).1 h7, X.sc_up hnd (q.sl e he).2⟩
      · exact D.sl e (List.mem_of_mem_drop he)
  · refine madeV_ok RO.r0 (fun i hi => Run.rl RO hi) j (by omega) (h4 x ?_)
    rcases hx with hx | ⟨c, hc, hx⟩ | hx
    · exact .inl hx
    · exact .inr (.inl ⟨_, ⟨c, hc, rfl⟩, hx⟩)
    · exact .inr (.inr hx)
  · refine madeH_ok RO.r0 (fun i hi => Run.rl RO hi) j (by omega) (h5 x ?_)
    rcases hx with hx | ⟨c, hc, hx⟩
    · exact .inl hx
    · exact .inr ⟨_, ⟨c, hc, rfl⟩, hx⟩
theorem Run.scq : ∀ {j : Nat}, j ≤ ops.size → Scq (R.S j)
  | 0, _ => RO.s0
  | j + 1, h => by
    obtain ⟨o, ho⟩ := op_at (ops := ops) (i := j) (by omega)
    exact (Run.known RO ho).ssc (Run.scq (by omega))
theorem Run.msc {j : Nat} {o : Oper} (ho : ops[j]? = some o) : Scq (R.m ops bfs j o) := (Run.scq RO (Nat.le_of_lt (op_lt ho))).mask
theorem Run.next {j : Nat} {o : Oper} (ho : ops[j]? = some o) : R.S (j + 1) = backSt o (blksOf (R.S j) o) (R.S j) (R.m ops bfs j o) (R.Mp j) := (RO.tr j o ho).sv
theorem Run.next_nv {j : Nat} {o : Oper} (ho : ops[j]? = some o) : (R.S (j + 1)).nv = (R.Mp j).nv := by rw [Run.next RO ho]; rfl
theorem Run.next_nh {j : Nat} {o : Oper} (ho : ops[j]? = some o) : (R.S (j + 1)).nh = (R.Mp j).nh := by
  rw [Run.next RO ho]
  exact mergeH_len (Run.known RO ho).nh
theorem Run.mono {i : Nat} : ∀ d, i + d ≤ ops.size → (R.S i).nv ≤ (R.S (i + d)).nv ∧ (R.S i).nh ≤ (R.S (i + d)).nh
  | 0, _ => ⟨Nat.le_refl _, Nat.le_refl _⟩
  | d + 1, h => by
    obtain ⟨o, ho⟩ := op_at (ops := ops) (i := i + d) (by omega)
    obtain ⟨h1, h2⟩ := Run.mono (i := i) d (by omega)
    have k := Run.known RO ho
    rw [← Nat.add_assoc, Run.next_nv RO ho, Run.next_nh RO ho]
    exact ⟨Nat.le_trans h1 k.nv, Nat.le_trans h2 k.nh⟩
theorem Run.le {i j : Nat} (h : i ≤ j) (hj : j ≤ ops.size) : (R.S i).nv ≤ (R.S j).nv ∧ (R.S i).nh ≤ (R.S j).nh := by
  have := Run.mono RO (i := i) (j - i) (by omega)
  rwa [show i + (j - i) = j by omega] at this
theorem Run.ext {i : Nat} : ∀ d, i + d ≤ ops.size → ∃ l, R.E (i + d) = R.E i ++ l
  | 0, _ => ⟨[], by simp⟩
  | d + 1, h => by
    obtain ⟨o, ho⟩ := op_at (ops := ops) (i := i + d) (by omega)
    obtain ⟨l, e⟩ := Run.ext (i := i) d (by omega)
    obtain ⟨l', e'⟩ := eval_ext (RO.tr _ o ho).ev
    exact ⟨l ++ l', by rw [← Nat.add_assoc, e', e, List.append_assoc]⟩
theorem Run.extD {i : Nat} (hi : i ≤ ops.size) : AgD (R.E i).length (R.E i) (R.E ops.size) := by
  obtain ⟨l, e⟩ := Run.ext RO (i := i) (ops.size - i) (by omega)
  rw [show i + (ops.size - i) = ops.size by omega] at e
  rw [e]
  exact AgD.app _ _
theorem Run.tml : ∀ i, i ≤ ops.size → (R.S i).tm.length = (R.S 0).tm.length
  | 0, _ => rfl
  | i + 1, h => by
    obtain ⟨o, ho⟩ := op_at (ops := ops) (i := i) (by omega)
    rw [Run.next RO ho, ← Run.tml i (by omega)]
    simp only [backSt]
    split <;> simp
def Wt (ops : Array Oper) (k t : Nat) : Prop := ∃ o, ops[k]? = some o ∧ o.dst = some t
def Qt (ops : Array Oper) (k t : Nat) : Prop := ∃ o, ops[k]? = some o ∧ t ∈ tmpsOf ops o
def Wb (ops : Array Oper) (bfs : List Nat) (R : Run) (k c : Nat) : Prop := ∃ o, ops[k]? = some o ∧ c ∈ (R.rc ops bfs k o).wb
def Qb (ops : Array Oper) (R : Run) (k c : Nat) : Prop := ∃ o, ops[k]? = some o ∧ c ∈ blksOf (R.S k) o
def Bit (bfs : List Nat) (j k : Nat) : Prop := (bfs.getD j 0).testBit k = true
theorem Run.clashes {j k : Nat} (hk : k < j) (hj : j < ops.size) (hb : ¬ Bit bfs j k) :
    (∀ c, (Wt ops j c → ¬ Wt ops k c ∧ ¬ Qt ops k c) ∧ (Wt ops k c → ¬ Qt ops j c)) ∧ ∀ c, (Wb ops bfs R j c → ¬ Wb ops bfs R k c ∧ ¬ Qb ops R k c) ∧ (Wb ops bfs R k c → ¬ Qb ops R j c) := by
  obtain ⟨o, ho⟩ := op_at hj
  obtain ⟨o', ho'⟩ := op_at (ops := ops) (i := k) (by omega)
  have h := (Run.known RO ho).clr k hk hb
  rw [Run.rc_eq RO ho'] at h
  obtain ⟨h1, h2, h3, h4⟩ := clash_no h
  have ut : ∀ {k o t}, ops[k]? = some o → Wt ops k t → t ∈ (R.rc ops bfs k o).wt := fun h ⟨o2, e, e2⟩ => by
    rw [h] at e
    injection e with e
    subst e
    simp [Run.rc, recOf, e2]
  have uq : ∀ {k o t}, ops[k]? = some o → Qt ops k t → t ∈ (R.rc ops bfs k o).ts := fun h ⟨o2, e, e2⟩ => by
    rw [h] at e
    injection e with e
    subst e
    exact e2
  have ub : ∀ {k o t}, ops[k]? = some o → Wb ops bfs R k t → t ∈ (R.rc ops bfs k o).wb := fun h ⟨o2, e, e2⟩ => by
    rw [h] at e
    injection e with e
    subst e
    exact e2
  have us : ∀ {k o t}, ops[k]? = some o → Qb ops R k t → t ∈ (R.rc ops bfs k o).bs := fun h ⟨o2, e, e2⟩ => by
    rw [h] at e
    injection e with e
    subst e
    exact e2
  exact ⟨fun c => ⟨fun w => ⟨fun w' => (h1 c (ut ho w)).1 (ut ho' w'), fun q => (h1 c (ut ho w)).2 (uq ho' q)⟩, fun w q => h2 c (ut ho' w) (uq ho q)⟩, fun c => ⟨fun w => ⟨fun w' => (h3 c (ub ho w)).1 (ub ho' w'), fun q => (h3 c (ub ho w)).2 (us ho' q)⟩, fun w q => h4 c (ub ho' w) (us ho q)⟩⟩
theorem Run.val_t {k t : Nat} (hk : k < ops.size) (h : ¬ Wt ops k t) : (R.S (k + 1)).tm[t]? = (R.S k).tm[t]? := by
  obtain ⟨o, ho⟩ := op_at hk
  rw [Run.next RO ho]
  simp only [backSt]
  split
  · rename_i d hd
    exact List.getElem?_set_ne fun e => h ⟨o, ho, by rw [hd, e]⟩
  · rfl
theorem mem_wb {j : Nat} {o : Oper} {c : Nat} : c ∈ (R.rc ops bfs j o).wb ↔ (c ∈ blksOf (R.S j) o ∧ ∀ a b, (R.S j).hp[c]? = some a → (R.Mp j).hp[c]? = some b → a.same b = false) ∨ ((R.S j).nh ≤ c ∧ c < (R.Mp j).nh) := by
  simp only [Run.rc, recOf, List.mem_append, List.mem_filter, List.mem_map, List.mem_range]
  refine or_congr (and_congr_right fun _ => ?_) ?_
  · split
    · rename_i a b e1 e2
      simp [e1, e2]
    · rename_i h
      simp only [true_iff]
      intro a b e1 e2
      exact (h a b e1 e2).elim
  · constructor
    · rintro ⟨a, h1, rfl⟩; omega
    · rintro ⟨h1, h2⟩; exact ⟨c - (R.S j).nh, by omega, by omega⟩
/-- blocks that are not changed -/
theorem Run.mp_of {j : Nat} {o : Oper} (ho : ops[j]? = some o) {c : Nat} (hb : c ∈ blksOf (R.S j) o) (h : c ∉ (R.rc ops bfs j o).wb) : (R.Mp j).hp[c]? = (R.S j).hp[c]? := by
  have k := Run.known RO ho
  have h1 := k.bs c hb
  have h2 : c < (R.Mp j).nh := Nat.lt_of_lt_of_le h1 k.nh
  have e1 := List.getElem?_eq_getElem (l := (R.S j).hp) h1
  have e2 := List.getElem?_eq_getElem (l := (R.Mp j).hp) h2
  rw [mem_wb RO] at h
  rw [e1, e2]
  cases e : ((R.S j).hp[c]).same ((R.Mp j).hp[c]) with
  | true => rw [Blk.same_eq e]
  | false =>
    refine (h (.inl ⟨hb, fun a b q1 q2 => ?_⟩)).elim
    rw [e1] at q1
    rw [e2] at q2
    injection q1 with q1
    injection q2 with q2
    rw [← q1, ← q2]
    exact e
theorem Run.hp_next {j : Nat} {o : Oper} (ho : ops[j]? = some o) (c : Nat) : (R.S (j + 1)).hp.getD c .none = if c ∈ (R.rc ops bfs j o).wb then (R.Mp j).hp.getD c .none else (R.S j).hp.getD c .none := by
  have k := Run.known RO ho
  rw [Run.next RO ho]
  simp only [backSt, List.getD_eq_getElem?_getD, mergeH_get 0 _ _ _ k.nh, Nat.zero_add, List.contains_eq_mem, decide_eq_true_eq]
  split
  · rename_i h
    split
    · rename_i hb
      split
      · rfl
      · rename_i hw
        rw [Run.mp_of RO ho hb hw]
    · rename_i hb
      split
      · rename_i hw
        rw [mem_wb RO] at hw
        exact (hw.elim (fun q => hb q.1) fun q => by unfold St.nh at q; omega).elim
      · rfl
  · rename_i h
    split
    · rfl
    · rename_i hw
      rw [mem_wb RO] at hw
      have : (R.Mp j).nh ≤ c := Nat.le_of_not_lt fun q => hw (.inr ⟨Nat.le_of_not_lt h, q⟩)
      rw [List.getElem?_eq_none (show (R.Mp j).hp.length ≤ c from this), List.getElem?_eq_none (Nat.le_of_not_lt h)]
theorem Run.val_b {k c : Nat} (hk : k < ops.size) (h : ¬ Wb ops bfs R k c) : (R.S (k + 1)).hp.getD c .none = (R.S k).hp.getD c .none := by
  obtain ⟨o, ho⟩ := op_at hk
  rw [Run.hp_next RO ho, if_neg fun q => h ⟨o, ho, q⟩]
/-- slices told of are told from the start or by an operation ahead -/
theorem Run.sl_of : ∀ j, j ≤ ops.size → ∀ e ∈ (R.S j).sl, e ∈ (R.S 0).sl ∨ ∃ k o, k < j ∧ ops[k]? = some o ∧ e ∈ (R.Mp k).sl.drop (R.m ops bfs k o).sl.length
  | 0, _, e, he => .inl he
  | j + 1, h, e, he => by
    obtain ⟨o, ho⟩ := op_at (ops := ops) (i := j) (by omega)
    rw [Run.next RO ho] at he
    simp only [backSt, List.mem_append] at he
    rcases he with he | he
    · rcases Run.sl_of j (by omega) e he with q | ⟨k, o', h1, h2, h3⟩
      · exact .inl q
      · exact .inr ⟨k, o', by omega, h2, h3⟩
    · exact .inr ⟨j, o, by omega, ho, he⟩
/-- what is named is not made by an operation -/
def Av (R : Run) (k : Nat) (rv rh : List Nat) : Prop := (∀ i ∈ rv, ¬ ((R.S k).nv ≤ i ∧ i < (R.Mp k).nv)) ∧ ∀ i ∈ rh, ¬ ((R.S k).nh ≤ i ∧ i < (R.Mp k).nh)
/-- where some operations have been carried out -/
structure PI (ops : Array Oper) (bfs : List Nat) (R : Run) (F : Fr) (L : Nat → Prop) (ρ0 : Env) (w0 : World) (us : List SV) (f : Nat → Blk) (sl : List Ent) (ρ : Env) (a : Act) (w : World) : Prop where
  ds : ρ.ds = R.E ops.size
  h : HRel F ρ (hpOf (R.S ops.size).nh f) sl w
  tm : TmRel ρ us a
  df : a.defers = []
  tl : us.length = (R.S 0).tm.length
  vt : ∀ i t, i ≤ ops.size → (i = ops.size ∨ Qt ops i t) → ¬ L i → (∀ k, k < i → Wt ops k t → L k) → us[t]? = (R.S i).tm[t]?
  vb : ∀ i c, i ≤ ops.size → (i = ops.size ∨ Qb ops R i c) → ¬ L i → (∀ k, k < i → Wb ops bfs R k c → L k) → f c = (R.S i).hp.getD c .none
  sl0 : ∀ e ∈ (R.S 0).sl, e ∈ sl
  sln : ∀ k o, ops[k]? = some o → L k → ∀ e ∈ (R.Mp k).sl.drop (R.m ops bfs k o).sl.length, e ∈ sl
  rt : ∀ k, k < ops.size → ¬ L k → (∀ x ∈ us, Av R k x.refV x.refH) ∧ (∀ c, Av R k (f c).refV (f c).refH) ∧ ∀ e ∈ sl, Av R k [e.i] []
  ag : Ag (R.S 0).nd (R.S 0).nv (R.S 0).nh ρ0 ρ
  size : w0.heap.size ≤ w.heap.size

theorem PI.step (hc : CallerOk P M N call) {F : Fr} {L L' : Nat → Prop} {ρ0 ρ : Env} {w0 w : World} {tm : List SV} {f : Nat → Blk} {sl : List Ent} {a : Act} {j : Nat} {o : Oper} (ho : ops[j]? = some o)
    (hL : ∀ i, L' i ↔ i = j ∨ L i) (hnl : ¬ L j) (hb : ∀ k, k < j → Bit bfs j k → L k) (hcl : ∀ k i, k < ops.size → L k → i < k → Bit bfs k i → L i)
    (p : PRel (R.E j) (R.S j)) (I : PI ops bfs R F L ρ0 w0 tm f sl ρ a w) {next : Act → World → Prop} {K : Exit → Act → World → Prop}
    (hn : ∀ tm' f' sl' ρ' a' w', PI ops bfs R F L' ρ0 w0 tm' f' sl' ρ' a' w' → PRel (R.E (j + 1)) (R.S (j + 1)) → next a' w') :
    if Region.wanted o (yielded ops a.tmps) = true then o.wp P a w next K else next (a.put o.dst undef) w := by
  have hj := op_lt ho
  have T := RO.tr j o ho
  have Kn := Run.known RO ho
  have now_b : ∀ c ∈ blksOf (R.S j) o, f c = (R.S j).hp.getD c .none := fun c hcb => sched_now (n := ops.size) (W := Wb ops bfs R) (Q := Qb ops R) (val := fun i c => (R.S i).hp.getD c .none) (bit := Bit bfs) (L := L) (cur := f) (fun j k c h1 h2 h3 => (Run.clashes RO h1 h2 h3).2 c) hj hnl hb I.vb ⟨o, ho, hcb⟩
  have now_t : ∀ t ∈ tmpsOf ops o, tm[t]? = (R.S j).tm[t]? := fun t ht => sched_now (n := ops.size) (W := Wt ops) (Q := Qt ops) (val := fun i (t : Nat) => (R.S i).tm[t]?) (bit := Bit bfs) (L := L) (cur := fun (t : Nat) => tm[t]?) (fun j k c h1 h2 h3 => (Run.clashes (R := R) RO h1 h2 h3).1 c) hj hnl hb I.vt ⟨o, ho, ht⟩
  have le_n : (R.S j).nh ≤ (R.S ops.size).nh ∧ (R.Mp j).nh ≤ (R.S ops.size).nh := by
    refine ⟨(Run.le RO (by omega) (Nat.le_refl _)).2, ?_⟩
    rw [← Run.next_nh RO ho]
    exact (Run.le RO (by omega) (Nat.le_refl _)).2
  have mhp : ∀ (c : Nat) (b : Blk), (R.m ops bfs j o).hp[c]? = some b → b = .none ∨ (c ∈ blksOf (R.S j) o ∧ (R.S j).hp[c]? = some b) := fun c b h => by
    simp only [Run.m, maskSt, maskH_get, Nat.zero_add, Option.map_eq_some_iff] at h
    obtain ⟨x, h1, h2⟩ := h
    split at h2
    · rename_i hm
      exact .inr ⟨List.contains_iff_mem.1 hm, by rw [h1, h2]⟩
    · exact .inl h2.symm
  have sub : ∀ (c : Nat) (b : Blk), (R.m ops bfs j o).hp[c]? = some b → b = .none ∨ (hpOf (R.S ops.size).nh f)[c]? = some b := fun c b h => by
    refine (mhp c b h).imp id fun ⟨h1, h2⟩ => ?_
    have hl : c < (R.S j).nh := lt_of_get h2
    rw [hpOf_get, if_pos (by omega), now_b c h1, List.getD_eq_getElem?_getD, h2, Option.getD_some]
  have nh_m : (R.m ops bfs j o).nh = (R.S j).nh := by simp only [St.nh, Run.m, maskSt, maskH_len]
  have adj : AgD (R.S j).nd (R.E j) ρ.ds := by rw [I.ds, ← p.nd]; exact Run.extD RO (by omega)
  have ssub : ∀ e ∈ (R.m ops bfs j o).sl, e ∈ sl := fun e he => by
    simp only [Run.m, maskSt, List.mem_filter] at he
    rcases Run.sl_of RO j (by omega) e he.1 with q | ⟨k, o', h1, h2, h3⟩
    · exact I.sl0 e q
    · refine I.sln k o' h2 (hb k h1 (addBy_ok RO.r0 (fun i hi => Run.rl RO hi) j (by omega) he.2 k h1 ?_)) e h3
      rw [Run.rc_eq RO h2]
      exact List.mem_map.2 ⟨e, h3, rfl⟩
  have part := I.h.part (g := gl_of I.h sub) (sm := (R.m ops bfs j o).sl) (ρm := ⟨R.E j, ρ.vs, ρ.β⟩) (nd := (R.S j).nd) (nv := (R.S j).nv) sub rfl rfl adj (Run.msc RO ho).hp (Run.msc RO ho).sl ssub
  have tmr : TmRel ⟨R.E j, ρ.vs, ρ.β⟩ (R.m ops bfs j o).tm a := by
    have e0 : (R.m ops bfs j o).tm = maskT 0 (tmpsOf ops o) (R.S j).tm := rfl
    refine ⟨by rw [I.tm.size, I.tl, e0, maskT_len, Run.tml RO j (by omega)], fun t x hx hu => ?_⟩
    have hs := (Run.msc RO ho).tm x (List.mem_of_getElem? hx) hu
    rw [e0, maskT_get, Nat.zero_add, Option.map_eq_some_iff] at hx
    obtain ⟨y, h1, h2⟩ := hx
    split at h2
    · rename_i hm
      subst h2
      rw [← now_t t (List.contains_iff_mem.1 hm)] at h1
      rw [I.tm.at_ t y h1 hu]
      have ag : Ag (R.S j).nd (R.S j).nv (R.m ops bfs j o).nh ⟨R.E j, ρ.vs, ρ.β⟩ ρ := ⟨adj, fun _ _ => rfl, fun _ _ => rfl⟩
      exact congrArg some (SV.den_ag ag hs)
    · subst h2
      cases hu
  have srel : SRel (frOf F ρ (hpOf (R.S ops.size).nh f) (R.m ops bfs j o).hp w (gl_of I.h sub)) ⟨R.E j, ρ.vs, ρ.β⟩ (R.m ops bfs j o) a w := ⟨⟨p.nd, p.bd, p.kn⟩, part, tmr, I.df⟩
  refine turn_ok hc (frOf_ok I.h sub) srel T.ev fun ρ' v w' hd t => ?_
  have rel := t.rel srel
  have wnt := t.went srel
  simp only [nh_m] at wnt
  have lv : ∀ i, i < (R.S j).nv → ρ'.vs i = ρ.vs i := wnt.ag.vs
  have lβ : ∀ i, i < (R.S j).nh → ρ'.β i = ρ.β i := wnt.ag.β
  let ρ2 : Env := ⟨R.E ops.size, fun i => if (R.S j).nv ≤ i ∧ i < (R.Mp j).nv then ρ'.vs i else ρ.vs i, fun i => if (R.S j).nh ≤ i ∧ i < (R.Mp j).nh then ρ'.β i else ρ.β i⟩
  have ag2 : Ag (R.Mp j).nd (R.Mp j).nv (R.Mp j).nh ρ' ρ2 := by
    refine ⟨?_, fun i hi => ?_, fun i hi => ?_⟩
    · rw [← rel.p.nd, hd]
      exact Run.extD RO (by omega)
    · by_cases q : (R.S j).nv ≤ i ∧ i < (R.Mp j).nv
      · simp only [ρ2, if_pos q]
      · simp only [ρ2, if_neg q]
        exact (lv i (by omega)).symm
    · by_cases q : (R.S j).nh ≤ i ∧ i < (R.Mp j).nh
      · simp only [ρ2, if_pos q]
      · simp only [ρ2, if_neg q]
        exact (lβ i (by omega)).symm
  have B := HRel.ag Kn.psc.hp Kn.psc.sl ag2 rel.h
  have avV : ∀ {rv rh : List Nat}, Av R j rv rh → (∀ i ∈ rv, ρ2.vs i = ρ.vs i) ∧ ∀ i ∈ rh, ρ2.β i = ρ.β i := fun h => ⟨fun i hi => by simp only [ρ2, if_neg (h.1 i hi)], fun i hi => by simp only [ρ2, if_neg (h.2 i hi)]⟩
  have rtj := I.rt j hj hnl
  let f' : Nat → Blk := fun c => if c ∈ (R.rc ops bfs j o).wb then (R.Mp j).hp.getD c .none else f c
  have bs_lt : ∀ c, (c ∈ blksOf (R.S j) o ∨ ((R.S j).nh ≤ c ∧ c < (R.Mp j).nh)) → c < (R.Mp j).nh := fun c h => h.elim (fun h => Nat.lt_of_lt_of_le (Kn.bs c h) Kn.nh) fun h => h.2
  have ft : ∀ c, (c ∈ blksOf (R.S j) o ∨ ((R.S j).nh ≤ c ∧ c < (R.Mp j).nh)) → f' c = (R.Mp j).hp.getD c .none := fun c h => by
    by_cases q : c ∈ (R.rc ops bfs j o).wb
    · simp only [f', if_pos q]
    · have h : c ∈ blksOf (R.S j) o := h.resolve_right fun h => q ((mem_wb RO).2 (.inr h))
      simp only [f', if_neg q]
      rw [now_b c h, List.getD_eq_getElem?_getD, List.getD_eq_getElem?_getD, Run.mp_of RO ho h q]
  have fu : ∀ c, ¬ (c ∈ blksOf (R.S j) o ∨ ((R.S j).nh ≤ c ∧ c < (R.Mp j).nh)) → f' c = f c := fun c h => if_neg fun q => h (((mem_wb RO).1 q).imp (fun q => q.1) id)
  have hH : HRel F ρ2 (hpOf (R.S ops.size).nh f') (sl ++ (R.Mp j).sl.drop (R.m ops bfs j o).sl.length) w' := by
    refine I.h.back sub B (T := fun c => c ∈ blksOf (R.S j) o ∨ ((R.S j).nh ≤ c ∧ c < (R.Mp j).nh)) (fun c b h1 h2 => .inl ((mhp c b h1).resolve_left h2).1) (fun c h => ?_) (fun c b h h1 => ?_) I.ds.symm (fun e he => ?_)
    · have hl := bs_lt c h
      rw [hpOf_get, if_pos (by omega), ft c h, List.getD_eq_getElem?_getD, List.getElem?_eq_getElem (show c < (R.Mp j).hp.length from hl), Option.getD_some]
    · rw [hpOf_get] at h1 ⊢
      rw [fu c h] at h1
      split at h1
      · rename_i hlt
        injection h1 with h1
        subst h1
        have := avV (rtj.2.1 c)
        exact ⟨if_pos hlt, this.1, this.2, by simp only [ρ2, if_neg fun q => h (.inr q)]⟩
      · cases h1
    · rcases List.mem_append.1 he with he | he
      · exact .inl ⟨he, (avV (rtj.2.2 e he)).1 e.i (by simp)⟩
      · exact .inr (List.mem_of_mem_drop he)
  have tmo : ∀ x ∈ tm, x.den ρ2 = x.den ρ := fun x hx => SV.den_ref (by rw [I.ds]) (avV (rtj.1 x hx)).1 (avV (rtj.1 x hx)).2
  have tmn : ∀ (d : Nat) (x : SV), o.dst = some d → (R.Mp j).tm[d]? = some x → x.isUnd = false → (a.put o.dst v).tmps[d]? = some (x.den ρ2) := fun d x hdst hx hu => by
    rw [rel.tm.at_ d x hx hu, SV.den_ag ag2 (Kn.psc.tm d x hdst hx hu)]
  have tlj : tm.length = (R.S j).tm.length := by rw [I.tl, Run.tml RO j (by omega)]
  have pn : PRel (R.E (j + 1)) (R.S (j + 1)) := by
    have := rel.p
    rw [hd] at this
    rw [Run.next RO ho]
    exact ⟨this.nd, this.bd, this.kn⟩
  have S1 : (R.S (j + 1)).tm = match o.dst with | some d => (R.S j).tm.set d (dstV o (R.Mp j)) | none => (R.S j).tm := by rw [Run.next RO ho]; rfl
  have bigV : ∀ {k}, k < ops.size → j < k → (R.Mp j).nv ≤ (R.S k).nv ∧ (R.Mp j).nh ≤ (R.S k).nh := fun {k} hk hjk => by
    rw [← Run.next_nv RO ho, ← Run.next_nh RO ho]
    exact Run.le RO (by omega) (by omega)
  have newAv : ∀ {k}, k < ops.size → ¬ L' k → ∀ {rv rh : List Nat}, (∀ i ∈ rv, i < (R.Mp j).nv) → (∀ i ∈ rh, i < (R.Mp j).nh) → (∀ k, k < j → ¬ (bfs.getD j 0).testBit k = true → (∀ i ∈ rv, ¬ ((R.Rc k).v0 ≤ i ∧ i < (R.Rc k).v1)) ∧ ∀ i ∈ rh, ¬ ((R.Rc k).h0 ≤ i ∧ i < (R.Rc k).h1)) → Av R k rv rh := fun {k} hk hl {rv rh} h1 h2 h3 => by
    rcases Nat.lt_trichotomy k j with q | q | q
    · have hbit : ¬ Bit bfs j k := fun b => hl ((hL k).2 (.inr (hb k q b)))
      obtain ⟨o', ho'⟩ := op_at hk
      have := h3 k q hbit
      rw [Run.rc_eq RO ho'] at this
      exact this
    · exact (hl ((hL k).2 (.inl q))).elim
    · have := bigV hk q
      exact ⟨fun i hi h => by have := h1 i hi; omega, fun i hi h => by have := h2 i hi; omega⟩
  have dstR : ∀ d, o.dst = some d → (∀ i ∈ (dstV o (R.Mp j)).refV, i < (R.Mp j).nv) ∧ ∀ i ∈ (dstV o (R.Mp j)).refH, i < (R.Mp j).nh := fun d hdst => by
    simp only [dstV, hdst, List.getD_eq_getElem?_getD]
    cases e : (R.Mp j).tm[d]? with
    | none => simp [SV.refV, SV.refH]
    | some x => exact SV.ref_und fun hu => Kn.psc.tm d x hdst e hu
  refine hn (match o.dst with | some d => tm.set d (dstV o (R.Mp j)) | none => tm) f' (sl ++ (R.Mp j).sl.drop (R.m ops bfs j o).sl.length) ρ2 (a.put o.dst v) w' ?_ pn
  refine ⟨rfl, hH, ?_, (put_df _ _).trans I.df, ?_, ?_, ?_, fun e he => List.mem_append_left _ (I.sl0 e he), fun k o' ho' hk e he => ?_, fun k hk hl => ⟨fun x hx => ?_, fun c => ?_, fun e he => ?_⟩, ?_, Nat.le_trans I.size wnt.size⟩
  · cases hdst : o.dst with
    | none =>
      simp only [Act.put]
      exact I.tm.of fun x hx _ => tmo x hx
    | some d =>
      refine ⟨by simp [Act.put, I.tm.size], fun t x hx hu => ?_⟩
      by_cases e : t = d
      · subst e
        simp only [List.getElem?_set, if_true] at hx
        split at hx
        · rename_i hlt
          injection hx with hx
          subst hx
          simp only [dstV, hdst, List.getD_eq_getElem?_getD] at hu ⊢
          cases e : (R.Mp j).tm[t]? with
          | none => rw [e] at hu; cases hu
          | some x =>
            rw [e] at hu
            have := tmn t x hdst e hu
            rw [hdst] at this
            exact this
        · cases hx
      · simp only [List.getElem?_set_ne (fun q => e q.symm)] at hx
        simp only [Act.put, Array.getElem?_setIfInBounds_ne (fun q => e q.symm)]
        rw [I.tm.at_ t x hx hu, tmo x (List.mem_of_getElem? hx)]
  · split
    · rw [List.length_set]; exact I.tl
    · exact I.tl
  · refine sched (n := ops.size) (W := Wt ops) (Q := Qt ops) (val := fun i (t : Nat) => (R.S i).tm[t]?) (bit := Bit bfs) (L := L) (L' := L') (cur := fun (t : Nat) => tm[t]?) (cur' := fun (t : Nat) => (match o.dst with | some d => tm.set d (dstV o (R.Mp j)) | none => tm)[t]?) (fun j k c h1 h2 h3 => (Run.clashes (R := R) RO h1 h2 h3).1 c) (fun k c hk h => Run.val_t RO hk h) hL hj hnl hb hcl (fun t => ⟨fun ⟨o', h1, h2⟩ => ?_, fun h => ?_⟩) I.vt
    · rw [ho] at h1
      injection h1 with h1
      subst h1
      simp only [S1, h2, List.getElem?_set, if_true, tlj]
    · cases hdst : o.dst with
      | none => rfl
      | some d => exact List.getElem?_set_ne fun e => h ⟨o, ho, by rw [hdst, e]⟩
  · refine sched (n := ops.size) (W := Wb ops bfs R) (Q := Qb ops R) (val := fun i c => (R.S i).hp.getD c .none) (bit := Bit bfs) (L := L) (L' := L') (cur := f) (cur' := f') (fun j k c h1 h2 h3 => (Run.clashes RO h1 h2 h3).2 c) (fun k c hk h => Run.val_b RO hk h) hL hj hnl hb hcl (fun c => ⟨fun ⟨o', h1, h2⟩ => ?_, fun h => ?_⟩) I.vb
    · rw [ho] at h1
      injection h1 with h1
      subst h1
      simp only [f', if_pos h2, Run.hp_next RO ho]
    · exact if_neg fun q => h ⟨o, ho, q⟩
  · rcases (hL k).1 hk with rfl | hk
    · rw [ho] at ho'
      injection ho' with ho'
      subst ho'
      exact List.mem_append_right _ he
    · exact List.mem_append_left _ (I.sln k o' ho' hk e he)
  · have hlk : ¬ L k := fun q => hl ((hL k).2 (.inr q))
    cases hdst : o.dst with
    | none =>
      rw [hdst] at hx
      exact (I.rt k hk hlk).1 x hx
    | some d =>
      rw [hdst] at hx
      rcases List.mem_or_eq_of_mem_set hx with hx | rfl
      · exact (I.rt k hk hlk).1 x hx
      · exact newAv hk hl (dstR d hdst).1 (dstR d hdst).2 fun k hk hb => ⟨fun i hi => Kn.rv i (.inl hi) k hk hb, fun i hi => Kn.rh i (.inl hi) k hk hb⟩
  · have hlk : ¬ L k := fun q => hl ((hL k).2 (.inr q))
    by_cases q : c ∈ (R.rc ops bfs j o).wb
    · simp only [f', if_pos q]
      have hlt : (∀ i ∈ ((R.Mp j).hp.getD c .none).refV, i < (R.Mp j).nv) ∧ ∀ i ∈ ((R.Mp j).hp.getD c .none).refH, i < (R.Mp j).nh := by
        rw [List.getD_eq_getElem?_getD]
        cases e : (R.Mp j).hp[c]? with
        | none => simp [Blk.refV, Blk.refH]
        | some b => exact Blk.ref_lt (Kn.psc.hp.at e)
      exact newAv hk hl hlt.1 hlt.2 fun k hk hb => ⟨fun i hi => Kn.rv i (.inr (.inl ⟨c, q, hi⟩)) k hk hb, fun i hi => Kn.rh i (.inr ⟨c, q, hi⟩) k hk hb⟩
    · simp only [f', if_neg q]
      exact (I.rt k hk hlk).2.1 c
  · have hlk : ¬ L k := fun q => hl ((hL k).2 (.inr q))
    rcases List.mem_append.1 he with he | he
    · exact (I.rt k hk hlk).2.2 e he
    · refine newAv hk hl (fun i hi => ?_) (fun i hi => by cases hi) fun k hk hb => ⟨fun i hi => ?_, fun i hi => by cases hi⟩
      · simp only [List.mem_singleton] at hi
        subst hi
        exact (Kn.psc.sl e (List.mem_of_mem_drop he)).1
      · simp only [List.mem_singleton] at hi
        subst hi
        exact Kn.rv e.i (.inr (.inr (List.mem_map.2 ⟨e, he, rfl⟩))) k hk hb
  · have h0 := Run.le RO (i := 0) (j := j) (by omega) (by omega)
    refine ⟨by rw [show ρ2.ds = ρ.ds from I.ds.symm]; exact I.ag.ds, fun i hi => ?_, fun i hi => ?_⟩
    · simp only [ρ2, if_neg (show ¬ ((R.S j).nv ≤ i ∧ i < (R.Mp j).nv) by omega)]
      exact I.ag.vs i hi
    · simp only [ρ2, if_neg (show ¬ ((R.S j).nh ≤ i ∧ i < (R.Mp j).nh) by omega)]
      exact I.ag.β i hi
end
end Fx
end Go.Proofs.Ytlhnhidoljfnnaa
