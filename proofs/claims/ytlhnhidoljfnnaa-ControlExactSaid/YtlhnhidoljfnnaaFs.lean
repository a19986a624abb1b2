/- XFd is sound: one operation of a region on the part of the state that it sees. -/
import Derived.Test.YtlhnhidoljfnnaaFq
set_option linter.unusedVariables false
set_option linter.unusedSimpArgs false
set_option linter.unusedSectionVars false
namespace Go.Proofs.Ytlhnhidoljfnnaa
open Go.RowKit
namespace Fx
/-- what an operation leaves, when its turn comes: each cell has the value that it has in the canonical run -/
theorem sched {C V : Type} {n : Nat} {W Q : Nat → C → Prop} {val : Nat → C → V} {bit : Nat → Nat → Prop} {L L' : Nat → Prop} {cur cur' : C → V} {j : Nat}
    (hc : ∀ j k c, k < j → j < n → ¬ bit j k → (W j c → ¬ W k c ∧ ¬ Q k c) ∧ (W k c → ¬ Q j c))
    (hv : ∀ k c, k < n → ¬ W k c → val (k + 1) c = val k c)
    (hL : ∀ i, L' i ↔ i = j ∨ L i) (hj : j < n) (hnl : ¬ L j) (hb : ∀ k, k < j → bit j k → L k)
    (hcl : ∀ k i, k < n → L k → i < k → bit k i → L i)
    (hcur : ∀ c, (W j c → cur' c = val (j + 1) c) ∧ (¬ W j c → cur' c = cur c))
    (I : ∀ i c, i ≤ n → (i = n ∨ Q i c) → ¬ L i → (∀ k, k < i → W k c → L k) → cur c = val i c) :
    ∀ i c, i ≤ n → (i = n ∨ Q i c) → ¬ L' i → (∀ k, k < i → W k c → L' k) → cur' c = val i c := by
  intro i c hi hq hl hw
  have hlj : i ≠ j ∧ ¬ L i := ⟨fun e => hl ((hL i).2 (.inl e)), fun e => hl ((hL i).2 (.inr e))⟩
  by_cases w : W j c
  · rw [(hcur c).1 w]
    rcases Nat.lt_or_ge j i with q | q
    · have stay : ∀ d, j + 1 + d ≤ i → val (j + 1 + d) c = val (j + 1) c := by
        intro d
        induction d with
        | zero => intro _; rfl
        | succ d ih =>
          intro hd
          rw [show j + 1 + (d + 1) = j + 1 + d + 1 by omega, hv (j + 1 + d) c (by omega) fun wk => ?_, ih (by omega)]
          have lk := (hL _).1 (hw (j + 1 + d) (by omega) wk)
          have lk : L (j + 1 + d) := lk.resolve_left (by omega)
          by_cases b : bit (j + 1 + d) j
          · exact hnl (hcl _ _ (by omega) lk (by omega) b)
          · exact ((hc (j + 1 + d) j c (by omega) (by omega) b).1 wk).1 w
      have := stay (i - (j + 1)) (by omega)
      rw [show j + 1 + (i - (j + 1)) = i by omega] at this
      exact this.symm
    · have hin : i < n := by omega
      have hq := hq.resolve_left (by omega)
      have b : ¬ bit j i := fun b => hlj.2 (hb i (by omega) b)
      exact absurd hq ((hc j i c (by omega) hj b).1 w).2
  · rw [(hcur c).2 w]
    exact I i c hi hq hlj.2 fun k hk wk => ((hL k).1 (hw k hk wk)).resolve_left fun e => w (e ▸ wk)
theorem sched_now {C V : Type} {n : Nat} {W Q : Nat → C → Prop} {val : Nat → C → V} {bit : Nat → Nat → Prop} {L : Nat → Prop} {cur : C → V} {j : Nat} {c : C}
    (hc : ∀ j k c, k < j → j < n → ¬ bit j k → (W j c → ¬ W k c ∧ ¬ Q k c) ∧ (W k c → ¬ Q j c)) (hj : j < n) (hnl : ¬ L j) (hb : ∀ k, k < j → bit j k → L k)
    (I : ∀ i c, i ≤ n → (i = n ∨ Q i c) → ¬ L i → (∀ k, k < i → W k c → L k) → cur c = val i c) (hq : Q j c) : cur c = val j c :=
  I j c (by omega) (.inr hq) hnl fun k hk wk => hb k hk (Classical.byContradiction fun b => (hc j k c hk hj b).2 wk hq)
/- the records of the operations ahead -/
section
variable {RL : Nat → List Rec} {Rc : Nat → Rec} {n : Nat} (h0 : RL 0 = []) (hs : ∀ i, i < n → RL (i + 1) = Rc i :: RL i)
include h0 hs
theorem clearOf_ok {bf : Nat} {r : Rec} : ∀ i, i ≤ n → clearOf bf r (RL i) i = true → ∀ k, k < i → ¬ bf.testBit k = true → r.clash (Rc k) = false
  | 0, _, _, k, hk => by omega
  | i + 1, hi, h, k, hk => fun hb => by
    rw [hs i hi] at h
    simp only [clearOf, Nat.add_sub_cancel, Bool.and_eq_true, Bool.or_eq_true, Bool.not_eq_true'] at h
    rcases Nat.lt_or_ge k i with q | q
    · exact clearOf_ok i (by omega) h.2 k q hb
    · obtain rfl : k = i := by omega
      exact h.1.resolve_left hb
theorem madeV_ok {bf : Nat} {x : Nat} : ∀ i, i ≤ n → madeBy bf true x (RL i) i = true → ∀ k, k < i → ¬ bf.testBit k = true → ¬ ((Rc k).v0 ≤ x ∧ x < (Rc k).v1)
  | 0, _, _, k, hk => by omega
  | i + 1, hi, h, k, hk => fun hb => by
    rw [hs i hi] at h
    simp only [madeBy, if_true, Nat.add_sub_cancel, Bool.and_eq_true, Bool.or_eq_true, Bool.not_eq_true', Bool.and_eq_false_iff, decide_eq_false_iff_not] at h
    rcases Nat.lt_or_ge k i with q | q
    · exact madeV_ok i (by omega) h.2 k q hb
    · obtain rfl : k = i := by omega
      have := h.1.resolve_right hb
      omega
theorem madeH_ok {bf : Nat} {x : Nat} : ∀ i, i ≤ n → madeBy bf false x (RL i) i = true → ∀ k, k < i → ¬ bf.testBit k = true → ¬ ((Rc k).h0 ≤ x ∧ x < (Rc k).h1)
  | 0, _, _, k, hk => by omega
  | i + 1, hi, h, k, hk => fun hb => by
    rw [hs i hi] at h
    simp only [madeBy, Bool.false_eq_true, if_false, Nat.add_sub_cancel, Bool.and_eq_true, Bool.or_eq_true, Bool.not_eq_true', Bool.and_eq_false_iff, decide_eq_false_iff_not] at h
    rcases Nat.lt_or_ge k i with q | q
    · exact madeH_ok i (by omega) h.2 k q hb
    · obtain rfl : k = i := by omega
      have := h.1.resolve_right hb
      omega
theorem addBy_ok {bf : Nat} {x : Nat} : ∀ i, i ≤ n → addBy bf x (RL i) i = true → ∀ k, k < i → x ∈ (Rc k).es → bf.testBit k = true
  | 0, _, _, k, hk => by omega
  | i + 1, hi, h, k, hk => fun hb => by
    rw [hs i hi] at h
    simp only [addBy, Nat.add_sub_cancel, Bool.and_eq_true, Bool.or_eq_true, Bool.not_eq_true'] at h
    rcases Nat.lt_or_ge k i with q | q
    · exact addBy_ok i (by omega) h.2 k q hb
    · obtain rfl : k = i := by omega
      refine h.1.resolve_left fun q => ?_
      rw [List.contains_iff_mem.2 hb] at q
      cases q
end
theorem hit_no {a b : List Nat} (h : hit a b = false) {c : Nat} (ha : c ∈ a) : c ∉ b := fun hb => by
  have : hit a b = true := List.any_eq_true.2 ⟨c, ha, List.contains_iff_mem.2 hb⟩
  rw [h] at this
  cases this
theorem clash_no {r s : Rec} (h : r.clash s = false) : (∀ c ∈ r.wt, c ∉ s.wt ∧ c ∉ s.ts) ∧ (∀ c ∈ s.wt, c ∉ r.ts) ∧ (∀ c ∈ r.wb, c ∉ s.wb ∧ c ∉ s.bs) ∧ ∀ c ∈ s.wb, c ∉ r.bs := by
  simp only [Rec.clash, Bool.or_eq_false_iff] at h
  obtain ⟨⟨⟨h1, h2⟩, h3⟩, h4⟩ := h
  exact ⟨fun c hc => by have := hit_no h1 hc; simp only [List.mem_append, not_or] at this; exact ⟨this.2, this.1⟩, fun c hc => hit_no h2 hc, fun c hc => by have := hit_no h3 hc; simp only [List.mem_append, not_or] at this; exact ⟨this.2, this.1⟩, fun c hc => hit_no h4 hc⟩
/- what a value names is there -/
mutual
theorem SV.ref_lt {nd nv nh : Nat} : ∀ {x : SV}, x.sc nd nv nh = true → (∀ i ∈ x.refV, i < nv) ∧ ∀ i ∈ x.refH, i < nh
  | .int k e, _ | .bool e, _ | .str e, _ | .con v, _ | .und, _ => by simp [SV.refV, SV.refH]
  | .var i, h => by simp only [SV.sc, decide_eq_true_eq] at h; simp [SV.refV, SV.refH, h]
  | .el i e n o, h => by simp only [SV.sc, Bool.and_eq_true, decide_eq_true_eq] at h; simp [SV.refV, SV.refH, h.1]
  | .pel i o e l, h => by simp only [SV.sc, Bool.and_eq_true, decide_eq_true_eq] at h; simp [SV.refV, SV.refH, h.1]
  | .ptr i o, h | .row i o l c, h => by simp only [SV.sc, decide_eq_true_eq] at h; simp [SV.refV, SV.refH, h]
  | .agg l, h | .tuple l, h => by simp only [SV.sc] at h; simp only [SV.refV, SV.refH]; exact SV.refs_lt h
  | .fn f x c, h => by
    simp only [SV.sc, Bool.and_eq_true] at h
    simp only [SV.refV, SV.refH, List.mem_append]
    exact ⟨fun i hi => hi.elim ((SV.refs_lt h.1).1 i) ((SV.refs_lt h.2).1 i), fun i hi => hi.elim ((SV.refs_lt h.1).2 i) ((SV.refs_lt h.2).2 i)⟩
theorem SV.refs_lt {nd nv nh : Nat} : ∀ {x : List SV}, SV.scs nd nv nh x = true → (∀ i ∈ SV.refVs x, i < nv) ∧ ∀ i ∈ SV.refHs x, i < nh
  | [], _ => by simp [SV.refVs, SV.refHs]
  | x :: xs, h => by
    simp only [SV.scs, Bool.and_eq_true] at h
    simp only [SV.refVs, SV.refHs, List.mem_append]
    exact ⟨fun i hi => hi.elim ((SV.ref_lt h.1).1 i) ((SV.refs_lt h.2).1 i), fun i hi => hi.elim ((SV.ref_lt h.1).2 i) ((SV.refs_lt h.2).2 i)⟩
end
theorem SV.ref_und {nd nv nh : Nat} {x : SV} (h : x.isUnd = false → x.sc nd nv nh = true) : (∀ i ∈ x.refV, i < nv) ∧ ∀ i ∈ x.refH, i < nh := by
  cases e : x.isUnd with
  | false => exact SV.ref_lt (h e)
  | true => cases x <;> simp [SV.isUnd] at e; simp [SV.refV, SV.refH]
theorem refs_mem : ∀ {l : List SV} {i : Nat}, (i ∈ SV.refVs l ↔ ∃ x ∈ l, i ∈ x.refV) ∧ (i ∈ SV.refHs l ↔ ∃ x ∈ l, i ∈ x.refH)
  | [], i => by simp [SV.refVs, SV.refHs]
  | x :: xs, i => by simp [SV.refVs, SV.refHs, (refs_mem (l := xs) (i := i)).1, (refs_mem (l := xs) (i := i)).2]
theorem Blk.ref_lt {nd nv nh : Nat} {b : Blk} (h : b.sc nd nv nh = true) : (∀ i ∈ b.refV, i < nv) ∧ ∀ i ∈ b.refH, i < nh := by
  cases b with
  | fix c w =>
    simp only [Blk.sc, List.all_eq_true, Bool.or_eq_true] at h
    refine ⟨fun i hi => ?_, fun i hi => ?_⟩
    · obtain ⟨x, hx, hi⟩ := refs_mem.1.1 hi
      exact (SV.ref_und fun hu => (h x hx).resolve_left (by simp [hu])).1 i hi
    · obtain ⟨x, hx, hi⟩ := refs_mem.2.1 hi
      exact (SV.ref_und fun hu => (h x hx).resolve_left (by simp [hu])).2 i hi
  | rows cs x hh =>
    simp only [Blk.sc, Bool.and_eq_true, decide_eq_true_eq] at h
    simp [Blk.refV, Blk.refH, h.2]
  | none => simp [Blk.refV, Blk.refH]
/- the part of memory that an operation sees -/
def pbOf (ρ : Env) (hm : List Blk) : List Nat := (List.range hm.length).filterMap fun c => match hm[c]? with
  | some (Blk.fix _ _) => some (ρ.β c)
  | _ => none
def obOf (ρ : Env) (hm : List Blk) : List Nat := (List.range hm.length).filterMap fun c => match hm[c]? with
  | some (Blk.rows _ _ h) => roomAt (ρ.vs h)
  | _ => none
theorem mem_pbOf {ρ : Env} {hm : List Blk} {b : Nat} : b ∈ pbOf ρ hm ↔ ∃ (c : Nat) (cells : List SV) (wr : Bool), hm[c]? = some (Blk.fix cells wr) ∧ ρ.β c = b := by
  simp only [pbOf, List.mem_filterMap, List.mem_range]
  constructor
  · rintro ⟨c, hc, h⟩
    split at h
    · rename_i cells wr e; exact ⟨c, cells, wr, e, by simpa using h⟩
    · cases h
  · rintro ⟨c, cells, wr, e, h⟩
    exact ⟨c, lt_of_get e, by rw [e]; simp [h]⟩
theorem mem_obOf {ρ : Env} {hm : List Blk} {b : Nat} : b ∈ obOf ρ hm ↔ ∃ (c : Nat) (cs : List CT) (x : X) (h : Nat), hm[c]? = some (Blk.rows cs x h) ∧ roomAt (ρ.vs h) = some b := by
  simp only [obOf, List.mem_filterMap, List.mem_range]
  constructor
  · rintro ⟨c, hc, h⟩
    split at h
    · rename_i cs x hh e; exact ⟨c, cs, x, hh, e, h⟩
    · cases h
  · rintro ⟨c, cs, x, hh, e, h⟩
    exact ⟨c, lt_of_get e, by rw [e]; exact h⟩
/-- the frame of one operation -/
def frOf (F : Fr) (ρ : Env) (hp hm : List Blk) (w : World) (g : Gl w (pbOf ρ hm) (obOf ρ hm)) : Fr := ⟨w, pbOf ρ hm, obOf ρ hm, Gd F ρ hp w, g⟩
section
variable {F : Fr} {ρ : Env} {hp hm : List Blk} {sl sm : List Ent} {w : World} (A : HRel F ρ hp sl w) (sub : ∀ (c : Nat) (b : Blk), hm[c]? = some b → b = .none ∨ hp[c]? = some b)
include sub in
theorem blkAt_sub {ρ' : Env} (hv : ρ'.vs = ρ.vs) (hb : ρ'.β = ρ.β) {c b : Nat} (h : blkAt ρ' hm c = some b) : blkAt ρ hp c = some b := by
  unfold blkAt at h ⊢
  split at h
  · rename_i k e
    rcases sub c k e with rfl | q
    · simp [blkOf] at h
    · rw [q]
      cases k with
      | fix cells wr => simpa only [blkOf, hb] using h
      | rows cs x hh => simpa only [blkOf, hv] using h
      | none => simp [blkOf] at h
  · cases h
include sub in
theorem pb_at {b : Nat} (h : b ∈ pbOf ρ hm) : ∃ (c : Nat) (k : Blk), hm[c]? = some k ∧ k ≠ Blk.none ∧ blkAt ρ hp c = some b := by
  obtain ⟨c, cells, wr, e, rfl⟩ := mem_pbOf.1 h
  exact ⟨c, _, e, by simp, blkAt_sub sub rfl rfl (blkAt_fix e)⟩
include sub in
theorem ob_at {b : Nat} (h : b ∈ obOf ρ hm) : ∃ (c : Nat) (cs : List CT) (x : X) (hh : Nat), hm[c]? = some (Blk.rows cs x hh) ∧ hp[c]? = some (Blk.rows cs x hh) ∧ blkAt ρ hp c = some b := by
  obtain ⟨c, cs, x, hh, e, h⟩ := mem_obOf.1 h
  exact ⟨c, cs, x, hh, e, (sub c _ e).resolve_left (by simp), blkAt_sub sub rfl rfl (by rw [blkAt_rows e]; exact h)⟩
include A sub in
theorem gl_of : Gl w (pbOf ρ hm) (obOf ρ hm) :=
  A.gl (fun b h => by obtain ⟨c, _, _, _, e⟩ := pb_at sub h; exact (A.lo c b e).2) fun b h => by obtain ⟨c, _, _, _, _, _, e⟩ := ob_at sub h; exact (A.lo c b e).2
variable {g : Gl w (pbOf ρ hm) (obOf ρ hm)}
include A sub in
theorem frOf_ok : (frOf F ρ hp hm w g).Ok :=
  ⟨fun b g => ⟨g.2.1, fun h => by obtain ⟨c, _, _, _, e⟩ := pb_at sub h; exact g.2.2 c e⟩, fun b h => by obtain ⟨c, _, _, _, e⟩ := pb_at sub h; exact (A.lo c b e).1⟩
include A sub in
theorem HRel.part {ρm : Env} {nd nv : Nat} (hv : ρm.vs = ρ.vs) (hb : ρm.β = ρ.β) (hd : AgD nd ρm.ds ρ.ds) (hs : HSc nd nv hm) (hse : ∀ e ∈ sm, e.i < nv ∧ e.x.sc nd = true) (ssub : ∀ e ∈ sm, e ∈ sl) : HRel (frOf F ρ hp hm w g) ρm hm sm w := by
  have ag : Ag nd nv hm.length ρm ρ := ⟨hd, fun i _ => by rw [hv], fun i _ => by rw [hb]⟩
  have gd : ∀ b, Gd F ρ hp w b → Gd (frOf F ρ hp hm w g) ρm hm w b := fun b g => ⟨.inl g, g.2.1, fun c e => g.2.2 c (blkAt_sub sub hv hb e)⟩
  refine ⟨Nat.le_refl _, fun _ _ _ => rfl, fun c b e => ⟨(A.lo c b (blkAt_sub sub hv hb e)).1, ?_⟩, fun c cs x hh b e1 e2 => .inr (mem_obOf.2 ⟨c, cs, x, hh, e1, by rw [blkAt_rows e1, hv] at e2; exact e2⟩), fun c d b e1 e2 => A.inj c d b (blkAt_sub sub hv hb e1) (blkAt_sub sub hv hb e2), fun c cells wr e o x hx hu => ?_, fun c cells wr e o ho => ?_, fun c cells e o => ?_, fun c cs x hh e => ?_, fun e he => ?_, Io.refl _⟩
  · unfold blkAt at e
    split at e
    · rename_i k hk
      cases k with
      | fix cells wr => refine .inr (mem_pbOf.2 ⟨c, cells, wr, hk, ?_⟩); simpa only [blkOf, hb, Option.some.injEq] using e
      | rows cs x hh => refine .inl (.inr (mem_obOf.2 ⟨c, cs, x, hh, hk, ?_⟩)); simpa only [blkOf, hv] using e
      | none => simp [blkOf] at e
    · cases e
  · have k := hs.at e
    simp only [Blk.sc, List.all_eq_true] at k
    have k := k x (List.mem_of_getElem? hx)
    rw [hu, Bool.false_or] at k
    rw [← SV.den_ag ag k, hb]
    exact A.fix c cells wr ((sub c _ e).resolve_left (by simp)) o x hx hu
  · rw [hb]; exact A.has c cells wr ((sub c _ e).resolve_left (by simp)) o ho
  · rw [hb]; exact A.frz c cells ((sub c _ e).resolve_left (by simp)) o
  · have k := hs.at e
    simp only [Blk.sc, Bool.and_eq_true, decide_eq_true_eq] at k
    rw [← X.den_ag ag.ds k.1, hv]
    exact (A.rows c cs x hh ((sub c _ e).resolve_left (by simp))).mono (fun b g => ⟨gd b g, rfl⟩) fun _ _ => rfl
  · rw [← X.den_ag ag.ds (hse e he).2, hv]
    exact RepC.mono (fun b g => ⟨gd b g, fun _ => rfl⟩) (A.imm e (ssub e he))
include A sub in
theorem HRel.back {ρ2 : Env} {hq hp' : List Blk} {sq sl' : List Ent} {w' : World} (B : HRel (frOf F ρ hp hm w g) ρ2 hq sq w') {T : Nat → Prop}
    (tm : ∀ (c : Nat) (b : Blk), hm[c]? = some b → b ≠ .none → T c) (t1 : ∀ c, T c → hp'[c]? = hq[c]?)
    (t2 : ∀ (c : Nat) (b : Blk), ¬ T c → hp'[c]? = some b → hp[c]? = some b ∧ (∀ i ∈ b.refV, ρ2.vs i = ρ.vs i) ∧ (∀ i ∈ b.refH, ρ2.β i = ρ.β i) ∧ ρ2.β c = ρ.β c)
    (ds : ρ2.ds = ρ.ds) (s1 : ∀ e ∈ sl', (e ∈ sl ∧ ρ2.vs e.i = ρ.vs e.i) ∨ e ∈ sq) : HRel F ρ2 hp' sl' w' := by
  have size : w.heap.size ≤ w'.heap.size := B.size
  -- blocks of the state that the operation does not see
  have un : ∀ c b, ¬ T c → blkAt ρ2 hp' c = some b → blkAt ρ hp c = some b := fun c b hT e => by
    unfold blkAt at e ⊢
    split at e
    · rename_i k hk
      obtain ⟨h1, h2, h3, h4⟩ := t2 c k hT hk
      rw [h1]
      cases k with
      | fix cells wr => simpa only [blkOf, h4] using e
      | rows cs x hh => simpa only [blkOf, h2 hh (by simp [Blk.refV])] using e
      | none => simp [blkOf] at e
    · cases e
  have to : ∀ c, T c → blkAt ρ2 hp' c = blkAt ρ2 hq c := fun c hT => by simp only [blkAt, t1 c hT]
  -- the blocks that it may change
  have chg : ∀ b, (frOf F ρ hp hm w g).own b ∨ b ∈ (frOf F ρ hp hm w g).pb → w.heap.size ≤ b ∨ ∃ c, T c ∧ blkAt ρ hp c = some b := fun b h => by
    rcases h with (h | h) | h
    · exact .inl h
    · obtain ⟨c, cs, x, hh, e1, e2, e3⟩ := ob_at sub h
      exact .inr ⟨c, tm c _ e1 (by simp), e3⟩
    · obtain ⟨c, k, e1, e2, e3⟩ := pb_at sub h
      exact .inr ⟨c, tm c _ e1 e2, e3⟩
  have own : ∀ b, (frOf F ρ hp hm w g).own b → F.own b := fun b h => by
    rcases h with h | h
    · exact .inl (Nat.le_trans A.size h)
    · obtain ⟨c, cs, x, hh, e1, e2, e3⟩ := ob_at sub h
      exact A.npb c cs x hh b e2 e3
  have same : ∀ b, b < w.heap.size → (∀ c, T c → blkAt ρ hp c ≠ some b) → w'.heap[b]? = w.heap[b]? := fun b hb hn => by
    have no : ¬ ((frOf F ρ hp hm w g).own b ∨ b ∈ (frOf F ρ hp hm w g).pb) := fun h => by
      rcases chg b h with h | ⟨c, hT, e⟩
      · exact absurd hb (Nat.not_lt.2 h)
      · exact hn c hT e
    exact B.keep b (fun h => no (.inl h)) (fun h => no (.inr h))
  have sameU : ∀ c b, ¬ T c → blkAt ρ hp c = some b → w'.heap[b]? = w.heap[b]? := fun c b hT e => same b (A.lo c b e).1 fun d hd e' => hT (A.inj d c b e' e ▸ hd)
  have gd1 : ∀ b, Gd (frOf F ρ hp hm w g) ρ2 hq w' b → Gd F ρ2 hp' w' b := fun b g => by
    refine ⟨?_, g.2.1, fun c e => ?_⟩
    · rcases g.1 with g | g
      · exact g.1
      · exact .inr (own b g)
    · by_cases hT : T c
      · exact g.2.2 c (by rwa [to c hT] at e)
      · have e' := un c b hT e
        rcases g.1 with g | g
        · exact g.2.2 c e'
        · rcases chg b (.inl g) with h | ⟨d, hd, e2⟩
          · exact absurd (A.lo c b e').1 (Nat.not_lt.2 h)
          · exact hT (A.inj d c b e2 e' ▸ hd)
  have gd2 : ∀ b, Gd F ρ hp w b → Gd F ρ2 hp' w' b ∧ w'.heap[b]? = w.heap[b]? := fun b g => by
    refine ⟨⟨g.1, Nat.lt_of_lt_of_le g.2.1 size, fun c e => ?_⟩, same b g.2.1 fun c _ => g.2.2 c⟩
    by_cases hT : T c
    · rw [to c hT] at e
      rcases chg b (B.lo c b e).2 with h | ⟨d, hd, e2⟩
      · exact absurd g.2.1 (Nat.not_lt.2 h)
      · exact g.2.2 d e2
    · exact g.2.2 c (un c b hT e)
  refine ⟨Nat.le_trans A.size size, fun b h1 h2 => ?_, fun c b e => ?_, fun c cs x hh b e1 e2 => ?_, fun c d b e1 e2 => ?_, fun c cells wr e o x hx hu => ?_, fun c cells wr e o ho => ?_, fun c cells e o => ?_, fun c cs x hh e => ?_, fun e he => ?_, A.io.trans B.io⟩
  · rw [same b (Nat.lt_of_lt_of_le (F.lt_of h1) A.size) fun c _ e => (A.lo c b e).2.elim h1 h2]
    exact A.keep b h1 h2
  · by_cases hT : T c
    · rw [to c hT] at e
      refine ⟨(B.lo c b e).1, ?_⟩
      rcases (B.lo c b e).2 with h | h
      · exact .inl (own b h)
      · obtain ⟨d, _, _, _, e3⟩ := pb_at sub h
        exact (A.lo d b e3).2
    · have e' := un c b hT e
      exact ⟨Nat.lt_of_lt_of_le (A.lo c b e').1 size, (A.lo c b e').2⟩
  · by_cases hT : T c
    · rw [to c hT] at e2
      rw [t1 c hT] at e1
      exact own b (B.npb c cs x hh b e1 e2)
    · exact A.npb c cs x hh b (t2 c _ hT e1).1 (un c b hT e2)
  · have mix : ∀ c d, T c → ¬ T d → blkAt ρ2 hp' c = some b → blkAt ρ2 hp' d = some b → False := fun c d hc hd e1 e2 => by
      have e2 := un d b hd e2
      rw [to c hc] at e1
      rcases chg b (B.lo c b e1).2 with h | ⟨d', hd', e3⟩
      · exact absurd (A.lo d b e2).1 (Nat.not_lt.2 h)
      · exact hd (A.inj d' d b e3 e2 ▸ hd')
    by_cases hc : T c
    · by_cases hd : T d
      · exact B.inj c d b (by rwa [to c hc] at e1) (by rwa [to d hd] at e2)
      · exact (mix c d hc hd e1 e2).elim
    · by_cases hd : T d
      · exact (mix d c hd hc e2 e1).elim
      · exact A.inj c d b (un c b hc e1) (un d b hd e2)
  · by_cases hT : T c
    · rw [t1 c hT] at e
      exact B.fix c cells wr e o x hx hu
    · obtain ⟨h1, h2, h3, h4⟩ := t2 c _ hT e
      have hb : w'.heap[ρ2.β c]? = w.heap[ρ2.β c]? := by rw [h4]; exact sameU c _ hT (blkAt_fix h1)
      rw [World.cell?_of_block (a := ⟨ρ2.β c, o, none⟩) hb, h4, SV.den_ref ds (fun i hi => h2 i (by simp only [Blk.refV]; exact refs_mem.1.2 ⟨x, List.mem_of_getElem? hx, hi⟩)) (fun i hi => h3 i (by simp only [Blk.refH]; exact refs_mem.2.2 ⟨x, List.mem_of_getElem? hx, hi⟩))]
      exact A.fix c cells wr h1 o x hx hu
  · by_cases hT : T c
    · rw [t1 c hT] at e
      exact B.has c cells wr e o ho
    · obtain ⟨h1, h2, h3, h4⟩ := t2 c _ hT e
      have hb : w'.heap[ρ2.β c]? = w.heap[ρ2.β c]? := by rw [h4]; exact sameU c _ hT (blkAt_fix h1)
      rw [World.cell?_of_block (a := ⟨ρ2.β c, o, none⟩) hb, h4]
      exact A.has c cells wr h1 o ho
  · by_cases hT : T c
    · rw [t1 c hT] at e
      exact B.frz c cells e o
    · obtain ⟨h1, h2, h3, h4⟩ := t2 c _ hT e
      have hb : w'.heap[ρ2.β c]? = w.heap[ρ2.β c]? := by rw [h4]; exact sameU c _ hT (blkAt_fix h1)
      rw [World.frozen?_of_block (a := ⟨ρ2.β c, o, none⟩) hb, h4]
      exact A.frz c cells h1 o
  · by_cases hT : T c
    · rw [t1 c hT] at e
      exact (B.rows c cs x hh e).mono (fun b g => ⟨gd1 b g, rfl⟩) fun _ _ => rfl
    · obtain ⟨h1, h2, h3, h4⟩ := t2 c _ hT e
      rw [h2 hh (by simp [Blk.refV]), ds]
      exact (A.rows c cs x hh h1).mono gd2 fun b hb => sameU c b hT (by rw [blkAt_rows h1]; exact hb)
  · rcases s1 e he with ⟨h1, h2⟩ | h1
    · rw [h2, ds]
      exact RepC.mono (fun b g => ⟨(gd2 b g).1, fun o => rd_of_block (gd2 b g).2 o⟩) (A.imm e h1)
    · exact RepC.mono (fun b g => ⟨gd1 b g, fun _ => rfl⟩) (B.imm e h1)
end
end Fx
end Go.Proofs.Ytlhnhidoljfnnaa
