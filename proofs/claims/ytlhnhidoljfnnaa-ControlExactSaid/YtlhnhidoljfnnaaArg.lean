/- Arguments of any types, as data: what a law's row hands in is what a run over data begins with. -/
import Derived.Test.YtlhnhidoljfnnaaFw
import Derived.OpenShut
import Derived.ProofKit
set_option linter.unusedVariables false
set_option linter.unusedSimpArgs false
namespace Go.Proofs.Ytlhnhidoljfnnaa
open Go.RowKit Go.ChangeShapes Go.WideShapes Go.ChangeAt
namespace Fx
mutual
/-- data of a cell, well formed -/
def WfC : CT → D → Prop
  | .int k, d => ∃ z, d = .i z ∧ (Lit.int k z).wf = true
  | .bool, d => ∃ b, d = .b b
  | .str, d => ∃ s, d = .s s ∧ s.size ≤ maxLen
  | .sl cs, d => ∃ rows, d = .l rows ∧ rows.length ≤ maxLen ∧ ∀ row ∈ rows, WfR cs row
def WfR : List CT → List D → Prop
  | [], ds => ds = []
  | c :: cs, ds => ∃ d ds', ds = d :: ds' ∧ WfC c d ∧ WfR cs ds'
end
mutual
/-- no slice of what has no cells -/
def CT.solid : CT → Bool
  | .sl cs => !cs.isEmpty && CT.solids cs
  | _ => true
def CT.solids : List CT → Bool
  | [] => true
  | c :: cs => c.solid && CT.solids cs
end
theorem solids_append : ∀ {a b : List CT}, CT.solids (a ++ b) = (CT.solids a && CT.solids b)
  | [], b => by simp [CT.solids]
  | c :: a, b => by simp only [List.cons_append, CT.solids, solids_append (a := a) (b := b), Bool.and_assoc]
theorem WfR.append : ∀ {a b : List CT} {x y : List D}, WfR a x → WfR b y → WfR (a ++ b) (x ++ y)
  | [], b, x, y, h, k => by simp only [WfR] at h; subst h; simpa using k
  | c :: a, b, x, y, h, k => by
    simp only [WfR] at h
    obtain ⟨d, ds', rfl, h1, h2⟩ := h
    simp only [List.cons_append, WfR]
    exact ⟨d, ds' ++ y, rfl, h1, WfR.append h2 k⟩
theorem RepCs.append {rd : Rd} {G : Nat → Prop} : ∀ {a b : List CT} {u v : List Value} {x y : List D}, RepCs rd G a u x → RepCs rd G b v y → RepCs rd G (a ++ b) (u ++ v) (x ++ y)
  | [], b, [], v, [], y, _, k => by simpa using k
  | c :: a, b, w :: u, v, d :: x, y, h, k => by
    simp only [List.cons_append, RepCs]
    exact ⟨h.1, RepCs.append h.2 k⟩
  | [], _, _ :: _, _, _, _, h, _ => by cases h
  | [], _, [], _, _ :: _, _, h, _ => by cases h
  | _ :: _, _, [], _, _, _, h, _ => by cases h
  | _ :: _, _, _ :: _, _, [], _, h, _ => by cases h
section
variable {H : Type} {enc : TypeId × Value → H} {P : Program} {w : World} {base : Nat} {spare : Nat → Bool} {held : Bool}
theorem row_fine (hl : laidOutB P = true) {t : TypeId} (ht : isVar P t = true) : t < P.types.size ∧ rowFine P t = true := by
  unfold laidOutB at hl
  simp only [Bool.and_eq_true, List.all_eq_true] at hl
  have h1 : t < P.types.size := by
    unfold isVar at ht
    simp only [Bool.and_eq_true, decide_eq_true_eq] at ht
    exact ht.1
  exact ⟨h1, hl.1.1 t (by simpa using h1)⟩
/-- what a type with so many cells reads as -/
def Reads (enc : TypeId × Value → H) (P : Program) (w : World) (base : Nat) (spare : Nat → Bool) (held : Bool) (t : TypeId) (cts : List CT) : Prop := ∀ (fuel : Nat) (cs : List Value) (x : DataW H × List MemPlace), DataW.trod enc P w base spare held fuel t cs = some x → (∀ p ∈ x.2, p.block < w.heap.size) →
  ∃ ds, RepCs (rdW w) (fun b => b < w.heap.size) cts cs ds ∧ WfR cts ds
theorem fields_rep : ∀ (fl : List Field) (f : TypeId → Option (List CT)) (cts : List CT) (o m : Nat) (cs : List Value) (xs : List (DataW H × List MemPlace)),
    fl.foldr (fun f' l => match f f'.type, l with | some a, some b => some (a ++ b) | _, _ => none) (some []) = some cts →
    (∀ x ∈ fl, ∀ c, f x.type = some c → c.length = P.cellsOf x.type ∧ (CT.solids c = true → Reads enc P w base spare held x.type c)) → CT.solids cts = true →
    (∀ (j : Nat) (x : Field), fl[j]? = some x → x.offset = o + ((fl.take j).map fun f => P.cellsOf f.type).sum) → cs.length = (fl.map fun f => P.cellsOf f.type).sum → xs.length = fl.length →
    (∀ (j : Nat) (x : Field), fl[j]? = some x → DataW.trod enc P w base spare held m x.type ((cs.drop (x.offset - o)).take (P.cellsOf x.type)) = xs[j]?) → (∀ x ∈ xs, ∀ p ∈ x.2, p.block < w.heap.size) →
    ∃ ds, RepCs (rdW w) (fun b => b < w.heap.size) cts cs ds ∧ WfR cts ds
  | [], f, cts, o, m, cs, xs, hf, _, _, _, hc, _, _, _ => by
    simp only [List.foldr_nil, Option.some.injEq] at hf
    subst hf
    simp only [List.map_nil, List.sum_nil, List.length_eq_zero_iff] at hc
    subst hc
    exact ⟨[], trivial, by simp [WfR]⟩
  | x :: fl, f, cts, o, m, cs, xs, hf, hr, hs, ho, hc, hx, ht, hp => by
    simp only [List.foldr_cons] at hf
    split at hf
    · rename_i a b ha hb
      injection hf with hf
      subst hf
      rw [solids_append, Bool.and_eq_true] at hs
      obtain ⟨la, ra⟩ := hr x (List.mem_cons_self ..) a ha
      have o0 := ho 0 x rfl
      simp only [List.take_zero, List.map_nil, List.sum_nil, Nat.add_zero] at o0
      cases xs with
      | nil => simp at hx
      | cons y ys =>
        have t0 := ht 0 x rfl
        rw [o0] at t0
        simp only [Nat.sub_self, List.drop_zero, List.getElem?_cons_zero] at t0
        obtain ⟨d1, r1, w1⟩ := ra hs.1 m _ y t0 (hp y (List.mem_cons_self ..))
        simp only [List.map_cons, List.sum_cons] at hc
        obtain ⟨d2, r2, w2⟩ := fields_rep fl f b (o + P.cellsOf x.type) m (cs.drop (P.cellsOf x.type)) ys hb (fun z hz => hr z (List.mem_cons_of_mem _ hz)) hs.2 (fun j z hz => by
            have := ho (j + 1) z (by simpa using hz)
            simp only [List.take_succ_cons, List.map_cons, List.sum_cons] at this
            omega) (by rw [List.length_drop]; omega) (by simpa using hx) (fun j z hz => by
            have h1 := ht (j + 1) z (by simpa using hz)
            have h2 := ho (j + 1) z (by simpa using hz)
            simp only [List.take_succ_cons, List.map_cons, List.sum_cons] at h2
            simp only [List.getElem?_cons_succ] at h1
            rw [List.drop_drop, ← h1]
            congr 2
            congr 1
            omega) (fun z hz => hp z (List.mem_cons_of_mem _ hz))
        refine ⟨d1 ++ d2, ?_, w1.append w2⟩
        have e : cs = cs.take (P.cellsOf x.type) ++ cs.drop (P.cellsOf x.type) := (List.take_append_drop _ _).symm
        rw [e]
        exact r1.append r2
    · cases hf
theorem elems_rep {e : TypeId} {c : List CT} (lc : c.length = P.cellsOf e) (re : Reads enc P w base spare held e c) : ∀ (n m : Nat) (cs : List Value) (xs : List (DataW H × List MemPlace)), cs.length = n * P.cellsOf e → xs.length = n →
    (∀ j, j < n → DataW.trod enc P w base spare held m e ((cs.drop (j * P.cellsOf e)).take (P.cellsOf e)) = xs[j]?) → (∀ x ∈ xs, ∀ p ∈ x.2, p.block < w.heap.size) → ∃ ds, RepCs (rdW w) (fun b => b < w.heap.size) (List.replicate n c).flatten cs ds ∧ WfR (List.replicate n c).flatten ds
  | 0, m, cs, xs, hc, _, _, _ => by
    simp only [Nat.zero_mul, List.length_eq_zero_iff] at hc
    subst hc
    exact ⟨[], by simp [RepCs], by simp [WfR]⟩
  | n + 1, m, cs, xs, hc, hx, ht, hp => by
    cases xs with
    | nil => simp at hx
    | cons y ys =>
      have t0 := ht 0 (by omega)
      simp only [Nat.zero_mul, List.drop_zero, List.getElem?_cons_zero] at t0
      obtain ⟨d1, r1, w1⟩ := re m _ y t0 (hp y (List.mem_cons_self ..))
      obtain ⟨d2, r2, w2⟩ := elems_rep lc re n m (cs.drop (P.cellsOf e)) ys (by rw [List.length_drop, hc, Nat.succ_mul]; omega) (by simpa using hx) (fun j hj => by
        have := ht (j + 1) (by omega)
        simp only [List.getElem?_cons_succ] at this
        rw [List.drop_drop, ← this]
        congr 2
        congr 1
        rw [Nat.succ_mul, Nat.add_comm]) (fun z hz => hp z (List.mem_cons_of_mem _ hz))
      refine ⟨d1 ++ d2, ?_, ?_⟩
      · have e : cs = cs.take (P.cellsOf e) ++ cs.drop (P.cellsOf e) := (List.take_append_drop _ _).symm
        rw [e, List.replicate_succ, List.flatten_cons]
        exact r1.append r2
      · rw [List.replicate_succ, List.flatten_cons]
        exact w1.append w2
theorem solids_rep {c : List CT} : ∀ {n : Nat}, 0 < n → CT.solids (List.replicate n c).flatten = true → CT.solids c = true
  | n + 1, _, h => by
    rw [List.replicate_succ, List.flatten_cons, solids_append, Bool.and_eq_true] at h
    exact h.1
theorem rep_of_trod (hl : laidOutB P = true) : ∀ (n : Nat) (t : TypeId) (cts : List CT), isVar P t = true → ctsOf P n t = some cts → cts.length = P.cellsOf t ∧ (CT.solids cts = true → Reads enc P w base spare held t cts)
  | 0, t, cts, _, h => by simp [ctsOf] at h
  | n + 1, t, cts, hv, h => by
    obtain ⟨hsz, hrow⟩ := row_fine hl hv
    unfold rowFine at hrow
    rw [hv] at hrow
    simp only [Bool.not_true, Bool.false_or] at hrow
    unfold ctsOf at h
    split at h
    · rename_i k hu
      injection h with h
      subst h
      rw [hu] at hrow
      simp only [beq_iff_eq] at hrow
      refine ⟨by rw [hrow]; rfl, fun _ fuel cs x ht hp => ?_⟩
      cases fuel with
      | zero => simp [DataW.trod] at ht
      | succ m =>
        unfold DataW.trod at ht
        rw [hu] at ht
        split at ht <;> simp_all
        obtain ⟨⟨e1, e2⟩, e3⟩ := ht
        exact ⟨[.i _], ⟨by simp only [RepC]; rfl, trivial⟩, ⟨_, _, rfl, ⟨_, rfl, e2⟩, rfl⟩⟩
    · rename_i hu
      injection h with h
      subst h
      rw [hu] at hrow
      simp only [beq_iff_eq] at hrow
      refine ⟨by rw [hrow]; rfl, fun _ fuel cs x ht hp => ?_⟩
      cases fuel with
      | zero => simp [DataW.trod] at ht
      | succ m =>
        unfold DataW.trod at ht
        rw [hu] at ht
        split at ht <;> simp_all
        rename_i z
        exact ⟨[.b z], by simp [RepCs, RepC, D.boo], by simp [WfR, WfC]⟩
    · rename_i hu
      injection h with h
      subst h
      rw [hu] at hrow
      simp only [beq_iff_eq] at hrow
      refine ⟨by rw [hrow]; rfl, fun _ fuel cs x ht hp => ?_⟩
      cases fuel with
      | zero => simp [DataW.trod] at ht
      | succ m =>
        unfold DataW.trod at ht
        rw [hu] at ht
        split at ht <;> simp_all
        rename_i z
        exact ⟨[.s z], by simp [RepCs, RepC, D.str], by simp [WfR, WfC]; exact ht.1⟩
    · rename_i e hu
      rw [Option.map_eq_some_iff] at h
      obtain ⟨c, hc, rfl⟩ := h
      rw [hu] at hrow
      simp only [Bool.and_eq_true, beq_iff_eq] at hrow
      obtain ⟨le, re⟩ := rep_of_trod hl n e c hrow.1 hc
      refine ⟨by rw [hrow.2]; rfl, fun hs fuel cs x ht hp => ?_⟩
      simp only [CT.solids, CT.solid, Bool.and_eq_true, Bool.not_eq_true', Bool.and_true] at hs
      have cpos : 0 < P.cellsOf e := by
        rw [← le]
        cases c with
        | nil => simp at hs
        | cons a b => simp
      have re := re hs.2
      rcases DataW.trod_slice hu ht with ⟨rfl, _⟩ | ⟨a, len, cap, elems, rest, m, _, rfl, rfl, hb, hlc, hm, hlen, hel, _, _⟩
      · refine ⟨[.l []], ⟨?_, trivial⟩, ?_⟩
        · simp only [RepC, D.rows, List.length_nil]
          exact ⟨none, 0, rfl, Nat.le_refl _, Nat.zero_le _, .inl trivial⟩
        · simp only [WfR, WfC]
          exact ⟨_, _, rfl, ⟨[], rfl, Nat.zero_le _, fun r hr => by simp at hr⟩, rfl⟩
      · have each : ∀ i, ∃ row, i < len → (∃ vs, RepCs (rdW w) (fun b => b < w.heap.size) c vs row ∧ vs.length = P.cellsOf e ∧ ∀ j v, vs[j]? = some v → w.cell? ((a.add (i * P.cellsOf e)).add j) = some v) ∧ WfR c row := by
          intro i
          by_cases hi : i < len
          · have h1 := hel i hi
            rw [List.getElem?_eq_getElem (by omega), Option.bind_eq_some_iff] at h1
            obtain ⟨vs, h2, h3⟩ := h1
            obtain ⟨hb2, hvl, hvc⟩ := World.cells?_some h2
            obtain ⟨ds, r1, r2⟩ := re m vs _ h3 (fun p hpp => hp p (List.mem_append_right _ (by
              rw [List.mem_flatMap]
              exact ⟨_, List.mem_append_left _ (List.getElem_mem (by omega)), hpp⟩)))
            refine ⟨ds, fun _ => ⟨⟨vs, r1, hvl, fun j v hj => ?_⟩, r2⟩⟩
            rw [hvc j (by rw [← hvl]; exact lt_of_get hj)]
            exact hj
          · exact ⟨[], fun h => absurd h hi⟩
        obtain ⟨f, hf⟩ := Classical.axiomOfChoice each
        refine ⟨[.l ((List.range len).map f)], ⟨?_, trivial⟩, ?_⟩
        · simp only [RepC, D.rows, List.length_map, List.length_range]
          refine ⟨some a, cap, rfl, hlc, hm, ?_⟩
          rcases Nat.eq_zero_or_pos len with h0 | h0
          · exact .inl h0
          · right
            obtain ⟨⟨vs, q1, q2, q3⟩, _⟩ := hf 0 h0
            have hvl : 0 < vs.length := by omega
            have hc0 := q3 0 _ (List.getElem?_eq_getElem hvl)
            have hspot : a.spot = none := by
              have := World.cell?_spot hc0
              obtain ⟨b, o, sp⟩ := a
              simpa [Addr.add] using this
            obtain ⟨b, o, sp⟩ := a
            simp only at hspot
            subst hspot
            refine ⟨b, o, rfl, ?_, fun i row hi => ?_⟩
            · refine .inr (hp (.cell b (o + 0)) (List.mem_append_left _ (List.mem_map.2 ⟨0, ?_, rfl⟩)))
              rw [List.mem_range]
              exact Nat.mul_pos (by omega) cpos
            · rw [List.getElem?_map, Option.map_eq_some_iff] at hi
              obtain ⟨j, hj, rfl⟩ := hi
              have hji := lt_of_get hj
              rw [List.length_range] at hji
              rw [List.getElem?_range hji] at hj
              injection hj with hj
              subst hj
              obtain ⟨⟨vs, q1, q2, q3⟩, _⟩ := hf i hji
              refine RepR.of_cs q1 fun j v hj => ?_
              have := q3 j v hj
              rw [addr_add, addr_add] at this
              rw [le]
              exact this
        · simp only [WfR, WfC]
          refine ⟨_, _, rfl, ⟨_, rfl, by rw [List.length_map, List.length_range]; omega, fun row hr => ?_⟩, rfl⟩
          rw [List.mem_map] at hr
          obtain ⟨i, hi, rfl⟩ := hr
          exact (hf i (by simpa using hi)).2
    · rename_i fs hu
      rw [hu] at hrow
      simp only [Bool.and_eq_true, List.all_eq_true, beq_iff_eq] at hrow
      obtain ⟨⟨r1, r2⟩, r3⟩ := hrow
      have hoff : ∀ (j : Nat) (x : Field), fs.toList[j]? = some x → x.offset = 0 + ((fs.toList.take j).map fun f => P.cellsOf f.type).sum := fun j x hx => by
        have := r3 j (by rw [List.mem_range]; exact lt_of_get hx)
        rw [hx] at this
        simp only [beq_iff_eq] at this
        rw [this, Nat.zero_add]
      have lens : ∀ (fl : List Field) (cts : List CT), (∀ x ∈ fl, isVar P x.type = true) → fl.foldr (fun f' l => match ctsOf P n f'.type, l with | some a, some b => some (a ++ b) | _, _ => none) (some []) = some cts → cts.length = (fl.map fun f => P.cellsOf f.type).sum := by
        intro fl
        induction fl with
        | nil => intro cts _ h; simp only [List.foldr_nil, Option.some.injEq] at h; subst h; rfl
        | cons x fl ih =>
          intro cts hx h
          simp only [List.foldr_cons] at h
          split at h
          · rename_i a b ha hb
            injection h with h
            subst h
            rw [List.length_append, (rep_of_trod hl n x.type a (hx x (List.mem_cons_self ..)) ha).1, ih b (fun z hz => hx z (List.mem_cons_of_mem _ hz)) hb, List.map_cons, List.sum_cons]
          · cases h
      refine ⟨by rw [r2, lens _ _ r1 h], fun hs fuel cs x ht hp => ?_⟩
      obtain ⟨xs, m, _, rfl, hcs, hxl, hx⟩ := DataW.trod_struct hu ht
      refine fields_rep fs.toList (ctsOf P n) cts 0 m cs xs h (fun z hz c hc => rep_of_trod hl n z.type c (r1 z hz) hc) hs hoff (by rw [hcs, r2]) (by rw [hxl]; simp) (fun j z hz => by rw [Nat.sub_zero]; exact hx j z (by simpa using hz)) (fun z hz p hpp => hp p (by
        rw [List.mem_flatMap]
        exact ⟨z, hz, hpp⟩))
    · rename_i len e hu
      rw [Option.map_eq_some_iff] at h
      obtain ⟨c, hc, rfl⟩ := h
      rw [hu] at hrow
      simp only [Bool.and_eq_true, beq_iff_eq] at hrow
      obtain ⟨le, re⟩ := rep_of_trod hl n e c hrow.1 hc
      refine ⟨by rw [hrow.2]; simp [List.length_flatten, le], fun hs fuel cs x ht hp => ?_⟩
      obtain ⟨xs, m, _, rfl, hcs, hxl, hx⟩ := DataW.trod_array hu ht
      rcases Nat.eq_zero_or_pos len with h0 | h0
      · subst h0
        rw [hrow.2, Nat.zero_mul] at hcs
        have := List.length_eq_zero_iff.1 hcs
        subst this
        exact ⟨[], by simp [RepCs], by simp [WfR]⟩
      · exact elems_rep le (re (solids_rep h0 hs)) len m cs xs (by rw [hcs, hrow.2]) hxl hx (fun z hz p hpp => hp p (by
          rw [List.mem_flatMap]
          exact ⟨z, hz, hpp⟩))
    · cases h
end
def pvOf (P : Program) (t : TypeId) : Option PK := (ctsOf P 20 t).map (.val (isAggB P t))
def pvAll (P : Program) : List TypeId → Option (List PK)
  | [] => some []
  | t :: l => match pvOf P t, pvAll P l with
    | some a, some m => some (a :: m)
    | _, _ => none
def ctsP (ps : List PK) : List CT := ps.flatMap PK.cs
theorem shut_cells {P : Program} {w : World} {r : Go.Reach} {base : Nat} {t : TypeId} {v : Value} {c : List CT} (hc : ctsOf P 20 t = some c) (hv : Value.okWide P w r base t v) : cellsV (isAggB P t) v v.cells.toList := by
  unfold Value.okWide at hv
  unfold cellsV
  split at hv
  · rename_i fs hu
    obtain ⟨cs, rfl, _, _⟩ := hv
    have e : isAggB P t = true := by unfold isAggB; rw [hu]
    simp [e, Value.cells]
  · rename_i n e hu
    obtain ⟨cs, rfl, _, _⟩ := hv
    have e : isAggB P t = true := by unfold isAggB; rw [hu]
    simp [e, Value.cells]
  · rename_i h1 h2
    have hagg : ∀ cs, v ≠ .agg cs := by
      rintro cs rfl
      unfold Cell.okWide at hv
      unfold ctsOf at hc
      split at hc <;> rename_i hu <;> first | (rw [hu] at hv; simp [Cell.ok, hu] at hv; done) | (exact h1 _ hu) | (exact h2 _ _ hu) | (cases hc)
    have e : isAggB P t = false := by
      unfold isAggB
      split
      · rename_i fs hu; exact absurd hu (h1 fs)
      · rename_i n e hu; exact absurd hu (h2 n e)
      · rfl
    rw [e]
    cases v <;> first | rfl | (exact absurd rfl (hagg _))
theorem args_of {H : Type} {enc : TypeId × Value → H} {P : Program} {w : World} {b0 : Nat} {spare : Nat → Bool} {held : Bool} {r : Go.Reach} {base : Nat} (hl : laidOutB P = true) : ∀ {ts : List TypeId} {ps : List PK} {vs : List Value} {ds : List (DataW H)} {p : List MemPlace}, pvAll P ts = some ps → CT.solids (ctsP ps) = true → (∀ t ∈ ts, isVar P t = true) →
    (∀ (j : Nat) t v, ts[j]? = some t → vs[j]? = some v → Value.okWide P w r base t v) → DataW.TrodAll enc P w b0 spare held ts vs ds p → (∀ x ∈ p, x.block < w.heap.size) → ∃ dd, WfR (ctsP ps) dd ∧ ∀ G : Nat → Prop, (∀ b, b < w.heap.size → G b) → Args w G ps vs dd []
  | [], ps, vs, ds, p, h1, _, _, _, h3, _ => by
    simp only [pvAll, Option.some.injEq] at h1
    subst h1
    match vs, ds, h3 with
    | [], [], _ => exact ⟨[], by simp [ctsP, WfR], fun _ _ => trivial⟩
  | t :: ts, ps, vs, ds, p, h1, hs, hv, ho, h3, hp => by
    simp only [pvAll] at h1
    split at h1
    · rename_i a m ha hm
      injection h1 with h1
      subst h1
      unfold pvOf at ha
      rw [Option.map_eq_some_iff] at ha
      obtain ⟨c, hc, rfl⟩ := ha
      match vs, ds, h3 with
      | v :: vs, d :: ds, h3 =>
        obtain ⟨p1, p2, h4, h5, rfl⟩ := h3
        have hs' : CT.solids (c ++ ctsP m) = true := hs
        rw [solids_append, Bool.and_eq_true] at hs'
        obtain ⟨fuel, h4⟩ := h4
        obtain ⟨d1, q1, q2⟩ := (rep_of_trod hl 20 t c (hv t (List.mem_cons_self ..)) hc).2 hs'.1 fuel _ _ h4 (fun x hx => hp x (List.mem_append_left _ hx))
        obtain ⟨d2, q3, q4⟩ := args_of hl hm hs'.2 (fun t ht => hv t (List.mem_cons_of_mem _ ht)) (fun j t v hj hk => ho (j + 1) t v (by simpa using hj) (by simpa using hk)) h5 (fun x hx => hp x (List.mem_append_right _ hx))
        refine ⟨d1 ++ d2, WfR.append q2 q3, fun G hG => ?_⟩
        simp only [Args]
        exact ⟨_, d1, d2, rfl, shut_cells hc (ho 0 t v rfl rfl), RepCs.mono (fun b hb => ⟨hG b hb, fun _ => rfl⟩) q1, q4 G hG⟩
    · cases h1
theorem below_trodAll {H : Type} {enc : TypeId × Value → H} {P : Program} (hl : laidOutB P = true) {W W' : World} (hb : Below W.heap.size W W') : ∀ {ts : List TypeId} {vs : List Value} {ds : List (DataW H)} {p : List MemPlace}, ts.all (fun t => P.readableRec t && decide (t < P.types.size)) = true →
    DataW.TrodAll enc P W 0 (fun _ => true) true ts vs ds p → (∀ x ∈ p, x.block < W.heap.size) → DataW.TrodAll enc P W' 0 (fun b => decide (b < W.heap.size)) true ts vs ds p
  | [], [], [], p, _, h, _ => h
  | t :: ts, v :: vs, d :: ds, p, hr, h, hp => by
    obtain ⟨p1, p2, h4, h5, rfl⟩ := h
    simp only [List.all_cons, Bool.and_eq_true, decide_eq_true_eq] at hr
    exact ⟨p1, p2, Below.trod hl hr.1.1 hr.1.2 h4 hb (fun x hx => hp x (List.mem_append_left _ hx)), below_trodAll hl hb hr.2 h5 (fun x hx => hp x (List.mem_append_right _ hx)), rfl⟩
  | [], _ :: _, _, _, _, h, _ => h.elim
  | [], [], _ :: _, _, _, h, _ => h.elim
  | _ :: _, [], _, _, _, h, _ => h.elim
  | _ :: _, _ :: _, [], _, _, h, _ => h.elim
/-- a law, for all data -/
def LawOk (P : Program) (f : FuncId) (ps : List PK) : Prop := ∀ (w : World) (args : List Value) (ds : List D), WfR (ctsP ps) ds → (∀ G : Nat → Prop, (∀ b, b < w.heap.size → G b) → Args w G ps args ds []) → Gl w [] [] → Calls P f args.toArray w fun e w' => e = .returned (.bool true) ∧ Below w.heap.size w w'
theorem law_all {P : Program} {k : Con} {m : List D → Option (List D)} (hk : ConOk P k m) (hr : k.rs = [.val false [.bool]]) (hps : k.ps.all PK.isV = true) (hm : ∀ ds, WfR (ctsP k.ps) ds → m ds = some [.b true]) : LawOk P k.f k.ps := fun w args ds hw hp hg =>
  con_law hk hr hp (fun p h => by
    rw [List.all_eq_true] at hps
    have := hps p h
    cases p with
    | val a cs => exact ⟨a, cs, rfl⟩
    | ptr cs => simp [PK.isV] at this) (hm ds hw) hg
end Fx
end Go.Proofs.Ytlhnhidoljfnnaa
