/- Rows that are made, grown and copied: what memory holds of them. -/
import Derived.Test.YtlhnhidoljfnnaaFi
import Derived.Laws.AppendOwn
import Derived.Laws.MakeOwn
set_option linter.unusedVariables false
set_option linter.unusedSimpArgs false
namespace Go.Proofs.Ytlhnhidoljfnnaa
open Go.RowKit
namespace Fx
section
theorem oneCell_rep {rd : Rd} {G : Nat → Prop} {c : CT} {v : Value} {d : D} (h : RepC rd G c v d) : v.oneCell' = true := by
  cases c <;> simp only [RepC] at h
  all_goals first
    | (subst h; rfl)
    | (obtain ⟨a, c, rfl, _⟩ := h; rfl)
mutual
theorem CT.same_refl : ∀ c : CT, c.same c = true
  | .int k => by simp [CT.same]
  | .bool => rfl
  | .str => rfl
  | .sl cs => by simp only [CT.same]; exact CT.sames_refl cs
theorem CT.sames_refl : ∀ cs : List CT, CT.sames cs cs = true
  | [] => rfl
  | c :: cs => by simp only [CT.sames, CT.same_refl c, CT.sames_refl cs, Bool.and_self]
end
/-- values of cells that stand for rows -/
structure RowsV (rd : Rd) (G : Nat → Prop) (cs : List CT) (vals : List Value) (rows : List (List D)) : Prop where
  len : vals.length = rows.length * cs.length
  one : ∀ v ∈ vals, v.oneCell' = true
  to : ∀ (rd' : Rd) (G' : Nat → Prop), (∀ c v d, RepC rd G c v d → RepC rd' G' c v d) → ∀ (i : Nat) (row : List D), rows[i]? = some row → ∀ b' o', (∀ j, j < cs.length → ∀ v, vals[i * cs.length + j]? = some v → rd' b' (o' + j) = some v) → RepR rd' G' cs b' o' row
theorem RepR.vals {rd : Rd} {G : Nat → Prop} {b : Nat} : ∀ {cs : List CT} {o : Nat} {row : List D}, RepR rd G cs b o row → ∃ vals : List Value, vals.length = cs.length ∧ (∀ j v, vals[j]? = some v → rd b (o + j) = some v) ∧ (∀ v ∈ vals, v.oneCell' = true) ∧
    ∀ (rd' : Rd) (G' : Nat → Prop) (b' o' : Nat), (∀ c v d, RepC rd G c v d → RepC rd' G' c v d) → (∀ j v, vals[j]? = some v → rd' b' (o' + j) = some v) → RepR rd' G' cs b' o' row
  | [], o, row, h => by
    simp only [RepR] at h
    subst h
    exact ⟨[], rfl, fun j v e => by simp at e, fun v e => by simp at e, fun _ _ _ _ _ _ => by simp only [RepR]⟩
  | c :: cs, o, row, h => by
    simp only [RepR] at h
    obtain ⟨d, row', rfl, ⟨v, hv, hc⟩, hr⟩ := h
    obtain ⟨vals, h1, h2, h3, h4⟩ := RepR.vals hr
    refine ⟨v :: vals, by simp [h1], fun j u hj => ?_, fun u hu => ?_, fun rd' G' b' o' ht hj => ?_⟩
    · cases j with
      | zero => simp at hj; subst hj; exact hv
      | succ j => simp at hj; have := h2 j u hj; rwa [show o + (j + 1) = o + 1 + j by omega]
    · rcases List.mem_cons.1 hu with rfl | hu
      · exact oneCell_rep hc
      · exact h3 u hu
    · simp only [RepR]
      exact ⟨d, row', rfl, ⟨v, hj 0 v rfl, ht _ _ _ hc⟩, h4 rd' G' b' (o' + 1) ht fun j u hu => by have := hj (j + 1) u (by simpa using hu); rwa [show o' + 1 + j = o' + (j + 1) by omega]⟩
theorem RowsV.nil (rd : Rd) (G : Nat → Prop) (cs : List CT) : RowsV rd G cs [] [] := ⟨by simp, fun v h => by simp at h, fun _ _ _ i row h => by simp at h⟩
theorem idx_lt {i n s j : Nat} (h : i < n) (k : j < s) : i * s + j < n * s := by
  have := Nat.mul_le_mul_right s (show i + 1 ≤ n from h)
  rw [Nat.succ_mul] at this
  omega
theorem RowsV.append {rd : Rd} {G : Nat → Prop} {cs : List CT} {u v : List Value} {x y : List (List D)} (h : RowsV rd G cs u x) (k : RowsV rd G cs v y) : RowsV rd G cs (u ++ v) (x ++ y) := by
  refine ⟨by rw [List.length_append, List.length_append, h.len, k.len, Nat.add_mul], fun w hw => (List.mem_append.1 hw).elim (h.one w) (k.one w), fun rd' G' ht i row hi b' o' hv => ?_⟩
  rcases Nat.lt_or_ge i x.length with hl | hl
  · rw [List.getElem?_append_left hl] at hi
    refine h.to rd' G' ht i row hi b' o' fun j hj w hw => hv j hj w ?_
    rw [List.getElem?_append_left (by rw [h.len]; exact idx_lt hl hj)]
    exact hw
  · rw [List.getElem?_append_right hl] at hi
    refine k.to rd' G' ht (i - x.length) row hi b' o' fun j hj w hw => hv j hj w ?_
    have e : x.length * cs.length ≤ i * cs.length := Nat.mul_le_mul_right _ hl
    rw [List.getElem?_append_right (by rw [h.len]; omega), h.len, show i * cs.length + j - x.length * cs.length = (i - x.length) * cs.length + j by rw [Nat.sub_mul]; omega]
    exact hw
theorem RowsV.take {rd : Rd} {G : Nat → Prop} {cs : List CT} {u : List Value} {x : List (List D)} (h : RowsV rd G cs u x) (n : Nat) : RowsV rd G cs (u.take (n * cs.length)) (x.take n) := by
  refine ⟨?_, fun w hw => h.one w (List.mem_of_mem_take hw), fun rd' G' ht i row hi b' o' hv => ?_⟩
  · rw [List.length_take, List.length_take, h.len]
    rcases Nat.le_total n x.length with q | q
    · rw [Nat.min_eq_left q, Nat.min_eq_left (Nat.mul_le_mul_right _ q)]
    · rw [Nat.min_eq_right q, Nat.min_eq_right (Nat.mul_le_mul_right _ q)]
  · rw [List.getElem?_take] at hi
    split at hi
    · rename_i hn
      exact h.to rd' G' ht i row hi b' o' fun j hj w hw => hv j hj w (by rw [List.getElem?_take_of_lt (idx_lt hn hj)]; exact hw)
    · cases hi
theorem RowsV.drop {rd : Rd} {G : Nat → Prop} {cs : List CT} {u : List Value} {x : List (List D)} (h : RowsV rd G cs u x) (n : Nat) : RowsV rd G cs (u.drop (n * cs.length)) (x.drop n) := by
  refine ⟨by rw [List.length_drop, List.length_drop, h.len, Nat.sub_mul], fun w hw => h.one w (List.mem_of_mem_drop hw), fun rd' G' ht i row hi b' o' hv => ?_⟩
  rw [List.getElem?_drop] at hi
  exact h.to rd' G' ht (n + i) row hi b' o' fun j hj w hw => hv j hj w (by rw [List.getElem?_drop, ← hw, Nat.add_mul, Nat.add_assoc])
theorem rows_vals {rd : Rd} {G : Nat → Prop} {b : Nat} {cs : List CT} : ∀ (rows : List (List D)) (o : Nat), (∀ i row, rows[i]? = some row → RepR rd G cs b (o + i * cs.length) row) → ∃ vals, RowsV rd G cs vals rows ∧ ∀ j v, vals[j]? = some v → rd b (o + j) = some v
  | [], o, _ => ⟨[], .nil _ _ _, fun j v e => by simp at e⟩
  | row :: rows, o, h => by
    have h0 := h 0 row rfl
    rw [Nat.zero_mul, Nat.add_zero] at h0
    obtain ⟨v0, a1, a2, a3, a4⟩ := RepR.vals h0
    obtain ⟨vs, b1, b2⟩ := rows_vals rows (o + cs.length) fun i r hr => by have := h (i + 1) r (by simpa using hr); rwa [show o + (i + 1) * cs.length = o + cs.length + i * cs.length by rw [Nat.succ_mul]; omega] at this
    have one : RowsV rd G cs v0 [row] := ⟨by simp [a1], a3, fun rd' G' ht i r hr b' o' hv => by
      have hi := lt_of_get hr
      simp only [List.length_singleton] at hi
      obtain rfl : i = 0 := by omega
      simp at hr
      subst hr
      exact a4 rd' G' b' o' ht fun j v hj => hv j (by rw [← a1]; exact lt_of_get hj) v (by rw [Nat.zero_mul, Nat.zero_add]; exact hj)⟩
    refine ⟨v0 ++ vs, one.append b1, fun j v hj => ?_⟩
    rcases Nat.lt_or_ge j v0.length with hl | hl
    · rw [List.getElem?_append_left hl] at hj; exact a2 j v hj
    · rw [List.getElem?_append_right hl] at hj
      have := b2 _ v hj
      rwa [show o + cs.length + (j - v0.length) = o + j by omega] at this
theorem RowsV.rep {rd : Rd} {G : Nat → Prop} {cs : List CT} {v0 : List Value} {row : List D} (h : RowsV rd G cs v0 [row]) : ∀ n, RowsV rd G cs (List.replicate n v0).flatten (List.replicate n row)
  | 0 => .nil _ _ _
  | n + 1 => by
    rw [List.replicate_succ, List.flatten_cons, List.replicate_succ]
    exact h.append (RowsV.rep h n)
theorem Told.vals {rd : Rd} {G : Nat → Prop} {cs : List CT} {u : Value} {rows : List (List D)} (h : Told rd G cs u rows) : ∃ a c vals, u = .slice a rows.length c ∧ rows.length ≤ c ∧ c ≤ maxLen ∧ RowsV rd G cs vals rows ∧ (rows.length = 0 ∨ ∃ b o, a = some ⟨b, o, none⟩ ∧ ∀ j v, vals[j]? = some v → rd b (o + j) = some v) := by
  obtain ⟨a, c, h1, h2, h3, h4⟩ := h.sh
  rcases h4 with h4 | ⟨b, o, rfl, h4⟩
  · have : rows = [] := List.length_eq_zero_iff.1 h4
    subst this
    exact ⟨a, c, [], h1, h2, h3, .nil _ _ _, .inl rfl⟩
  · obtain ⟨vals, q1, q2⟩ := rows_vals rows o h4
    exact ⟨_, c, vals, h1, h2, h3, q1, .inr ⟨b, o, rfl, q2⟩⟩
theorem firstCells_told {P : Program} {w : World} {G : Nat → Prop} {cs : List CT} {u : Value} {rows : List (List D)} (h : Told (rdW w) G cs u rows) : ∃ vals, RowsV (rdW w) G cs vals rows ∧ (∀ w' : World, (∀ a, w'.cell? a = w.cell? a) → ∀ n, n ≤ rows.length → (Builtin.firstCells cs.length n u).run P w' = .ok (vals.take (n * cs.length)).toArray w') ∧ ∃ a c, u = .slice a rows.length c := by
  obtain ⟨a, c, vals, rfl, h2, h3, h4, h5⟩ := h.vals
  refine ⟨vals, h4, fun w' hw n hn => ?_, a, c, rfl⟩
  rcases h5 with h5 | ⟨b, o, rfl, h5⟩
  · have : vals = [] := List.length_eq_zero_iff.1 (by rw [h4.len, h5, Nat.zero_mul])
    subst this
    obtain rfl : n = 0 := by omega
    cases a with
    | none => simp [Builtin.firstCells]
    | some a => simpa using run_firstCells_some (P := P) w' cs.length 0 a rows.length c [] (by simp) (by simp)
  · refine run_firstCells_some (P := P) w' cs.length n _ _ c _ (by rw [List.length_take, h4.len, Nat.min_eq_left (Nat.mul_le_mul_right _ hn)]) fun j v hj => ?_
    rw [List.getElem?_take] at hj
    split at hj
    · rw [addr_add, hw]; exact h5 j v hj
    · cases hj
theorem Owns.told {w : World} {G : Nat → Prop} {cs : List CT} {v : Value} {rows : List (List D)} (h : Owns w G cs v rows) : Told (rdW w) G cs v rows := by
  rcases h with ⟨a, rfl, rfl⟩ | ⟨b, cp, rfl, h1, h2, h3, _, _, h4⟩
  · exact ⟨a, 0, rfl, Nat.le_refl _, Nat.zero_le _, .inl rfl⟩
  · exact ⟨_, cp, rfl, h2, h3, .inr ⟨b, 0, rfl, fun i row hi => by rw [Nat.zero_add]; exact h4 i row hi⟩⟩
/-- rows in a new block -/
theorem owns_new {w w0 : World} {G : Nat → Prop} {cs : List CT} {vals zs : List Value} {rows : List (List D)} {cp : Nat} {e : TypeId} (hh : w0.heap = w.heap) (hG : ∀ b, G b → b < w.heap.size) (hr : RowsV (rdW w) G cs vals rows) (hz : vals.length + zs.length = cp * cs.length) (h0 : 0 < cp) (h1 : rows.length ≤ cp) (h2 : cp ≤ maxLen) :
    Owns (w0.alloc (.cells (vals ++ zs).toArray e)) G cs (.slice (some ⟨w.heap.size, 0, none⟩) rows.length cp) rows := by
  have hsz : w.heap.size = w0.heap.size := by rw [hh]
  have hc : ∀ o, (w0.alloc (.cells (vals ++ zs).toArray e)).cell? ⟨w.heap.size, o, none⟩ = (vals ++ zs)[o]? := fun o => by rw [hsz, World.cell?_alloc_new, List.getElem?_toArray]
  refine .inr ⟨w.heap.size, cp, rfl, h0, h1, h2, fun o ho => ?_, fun o => by rw [hsz]; exact World.frozen?_alloc_new _ _ _ _, fun i row hi => ?_⟩
  · rw [hc, List.getElem?_eq_getElem (by rw [List.length_append, hz]; exact ho)]; rfl
  · refine hr.to _ _ (fun c v d hcv => RepC.mono (fun b g => ⟨g, fun o => ?_⟩) hcv) i row hi _ _ fun j hj v hv => ?_
    · refine rd_of_block ?_ o
      rw [Below.heap_alloc _ _ _ (by rw [← hsz]; exact hG b g), hh]
    · simp only [rdW]
      rw [hc, List.getElem?_append_left (lt_of_get hv)]
      exact hv
theorem heap_setCells (b : Nat) : ∀ (vs : List Value) (o : Nat) (w : World) (i : Nat), i ≠ b → (w.setCells b o vs).heap[i]? = w.heap[i]?
  | [], _, _, _, _ => rfl
  | v :: r, o, w, i, h => by rw [World.setCells, heap_setCells b r (o + 1) _ i h]; exact Below.heap_setCell _ _ _ _ h
theorem size_setCells (b : Nat) : ∀ (vs : List Value) (o : Nat) (w : World), (w.setCells b o vs).heap.size = w.heap.size
  | [], _, _ => rfl
  | v :: r, o, w => by rw [World.setCells, size_setCells b r (o + 1)]; simp
theorem io_setCells (b : Nat) : ∀ (vs : List Value) (o : Nat) (w : World), Io w (w.setCells b o vs)
  | [], _, _ => Io.refl _
  | v :: r, o, w => (⟨rfl, rfl, rfl⟩ : Io w (w.setCell ⟨b, o, none⟩ v)).trans (io_setCells b r (o + 1) _)
/-- cells of an owned row that are written, within its room -/
theorem owns_set {w : World} {G : Nat → Prop} {cs : List CT} {b cp o : Nat} {vals news : List Value} {rows : List (List D)} (hG : ∀ b', G b' → b' ≠ b) (h2 : cp ≤ maxLen) (hc : ∀ o, o < cp * cs.length → (w.cell? ⟨b, o, none⟩).isSome) (hf : ∀ o, w.frozen? ⟨b, o, none⟩ = false)
    (hr : RowsV (rdW w) G cs vals rows) (h0 : 0 < cp) (h1 : rows.length ≤ cp) (hn : o + news.length ≤ cp * cs.length) (hv : ∀ j v, vals[j]? = some v → (w.setCells b o news).cell? ⟨b, j, none⟩ = some v) :
    Owns (w.setCells b o news) G cs (.slice (some ⟨b, 0, none⟩) rows.length cp) rows := by
  refine .inr ⟨b, cp, rfl, h0, h1, h2, fun o' ho => ?_, fun o' => by rw [World.frozen?_setCells]; exact hf o', fun i row hi => ?_⟩
  · rcases Nat.lt_or_ge o' o with q | q
    · rw [World.cell?_setCells_out b news o w _ (fun _ _ => .inl q)]; exact hc o' ho
    · rcases Nat.lt_or_ge o' (o + news.length) with q2 | q2
      · obtain ⟨j, rfl⟩ := Nat.exists_eq_add_of_le q
        rw [World.cell?_setCells_in b news o w (fun j hj => hc _ (by omega)) j (by omega)]; rfl
      · rw [World.cell?_setCells_out b news o w _ (fun _ _ => .inr q2)]; exact hc o' ho
  · refine hr.to _ _ (fun c v d hcv => RepC.mono (fun b' g => ⟨g, fun o' => rd_of_block (heap_setCells b news o w b' (hG b' g)) o'⟩) hcv) i row hi _ _ fun j hj v hjv => hv _ v hjv
variable {P : Program}
/-- append, to rows that are owned -/
theorem append_run {t ty e : TypeId} {i : TypeInfo} {z : Value} (ht : P.underlying t = some (.slice e)) (hi : P.info? e = some i) (hz : i.zero = some z) {cs : List CT} (hsize : i.size = cs.length) (hzs : z.cells.size = i.size) (hpos : 0 < cs.length) (hby : 0 < i.bytes) {w : World} {G : Nat → Prop} {v u : Value} {rows rows2 : List (List D)}
    (hO : Owns w G cs v rows) (hT : Told (rdW w) G cs u rows2) (hG : ∀ b, G b → b < w.heap.size ∧ roomAt v ≠ some b) (hb : (rows.length + rows2.length) * i.bytes ≤ 140737488355328) :
    ∃ v' w', (Builtin.append_ #[t, t] ty #[v, u]).run P w = .ok v' w' ∧ Owns w' G cs v' (rows ++ rows2) ∧ w.heap.size ≤ w'.heap.size ∧ Io w w' ∧ (∀ b, b < w.heap.size → roomAt v ≠ some b → w'.heap[b]? = w.heap[b]?) ∧ ∀ b, roomAt v' = some b → roomAt v = some b ∨ (w.heap.size ≤ b ∧ b < w'.heap.size) := by
  have hmax : rows.length + rows2.length ≤ 140737488355328 := Nat.le_trans (Nat.le_mul_of_pos_right _ hby) hb
  have hml : (140737488355328 : Nat) ≤ maxLen := by unfold maxLen; decide
  obtain ⟨news, n1, n2, a2, c2, rfl⟩ := firstCells_told (P := P) hT
  obtain ⟨a2', c2', news', e2, m1, m2, n1', n3⟩ := hT.vals
  obtain ⟨olds, o1, o2⟩ : ∃ olds, RowsV (rdW w) G cs olds rows ∧ ((rows = [] ∧ ∃ a, v = .slice a 0 0) ∨ ∃ b cp, v = .slice (some ⟨b, 0, none⟩) rows.length cp ∧ 0 < cp ∧ rows.length ≤ cp ∧ cp ≤ maxLen ∧ (∀ o, o < cp * cs.length → (w.cell? ⟨b, o, none⟩).isSome) ∧ (∀ o, w.frozen? ⟨b, o, none⟩ = false) ∧ ∀ j u, olds[j]? = some u → w.cell? ⟨b, j, none⟩ = some u) := by
    rcases hO with ⟨a, rfl, rfl⟩ | ⟨b, cp, rfl, q1, q2, q3, q4, q5, q6⟩
    · exact ⟨[], .nil _ _ _, .inl ⟨rfl, a, rfl⟩⟩
    · obtain ⟨olds, r1, r2⟩ := rows_vals (rd := rdW w) rows 0 fun i row hi => by rw [Nat.zero_add]; exact q6 i row hi
      exact ⟨olds, r1, .inr ⟨b, cp, rfl, q1, q2, q3, q4, q5, fun j u hj => by have := r2 j u hj; simpa [rdW] using this⟩⟩
  have zl : ∀ k, (Builtin.zeroCells z.cells k).size = k * cs.length := fun k => by rw [size_zeroCells, hzs, hsize]
  have zl' : ∀ k, (Builtin.zeroCells z.cells k).toList.length = k * cs.length := fun k => by rw [← zl k]; simp
  -- a new block
  have grown : ∀ old, old < rows.length + rows2.length → Owns (w.drew.alloc (.cells (olds.toArray ++ news.toArray ++ Builtin.zeroCells z.cells (grownCap w (rows.length + rows2.length) old e - (rows.length + rows2.length))) e)) G cs (.slice (some ⟨w.heap.size, 0, none⟩) (rows.length + rows2.length) (grownCap w (rows.length + rows2.length) old e)) (rows ++ rows2) := by
    intro old ho
    have hge := grownCap_ge w (rows.length + rows2.length) old e
    have hcm := grownCap_le_maxLen w (rows.length + rows2.length) old e (by omega)
    have := owns_new (w := w) (w0 := w.drew) (e := e) (cp := grownCap w (rows.length + rows2.length) old e) (zs := (Builtin.zeroCells z.cells (grownCap w (rows.length + rows2.length) old e - (rows.length + rows2.length))).toList) rfl (fun b g => (hG b g).1) (o1.append n1) (by
      rw [(o1.append n1).len, zl', List.length_append, ← Nat.add_mul]
      congr 1
      omega) (by omega) (by rw [List.length_append]; exact hge) hcm
    rw [List.length_append] at this
    rwa [show ((olds ++ news) ++ (Builtin.zeroCells z.cells (grownCap w (rows.length + rows2.length) old e - (rows.length + rows2.length))).toList).toArray = olds.toArray ++ news.toArray ++ Builtin.zeroCells z.cells (grownCap w (rows.length + rows2.length) old e - (rows.length + rows2.length)) by apply Array.ext'; simp] at this
  have gmore : ∀ arr : Array Value, w.heap.size ≤ (w.drew.alloc (.cells arr e)).heap.size ∧ Io w (w.drew.alloc (.cells arr e)) ∧ (∀ b, b < w.heap.size → roomAt v ≠ some b → (w.drew.alloc (.cells arr e)).heap[b]? = w.heap[b]?) := fun arr =>
    ⟨by simp, ⟨rfl, rfl, rfl⟩, fun b hb _ => Below.heap_alloc _ _ _ hb⟩
  have gat : ∀ (arr : Array Value) (n cp b : Nat), roomAt (.slice (some ⟨w.heap.size, 0, none⟩) n cp) = some b → roomAt v = some b ∨ (w.heap.size ≤ b ∧ b < (w.drew.alloc (.cells arr e)).heap.size) := fun arr n cp b hb => by
    cases cp with
    | zero => simp [roomAt] at hb
    | succ cp => simp only [roomAt, Option.some.injEq] at hb; subst hb; exact .inr ⟨Nat.le_refl _, by simp⟩
  have nfull := n2 w (fun _ => rfl) rows2.length (Nat.le_refl _)
  have nlen := n1.len
  rw [← nlen, List.take_length] at nfull
  rw [← hsize] at nfull
  -- within the room
  have inroom : ∀ (a : Option Addr) (sLen sCap : Nat), v = .slice a sLen sCap → sLen + rows2.length ≤ sCap → (Builtin.append_ #[t, t] ty #[v, .slice a2 rows2.length c2]).run P w = (match a with | some ad => ((storeCells (ad.add (sLen * i.size)) news) >>= fun _ => (pure (.slice a (sLen + rows2.length) sCap) : Sem Value)).run P w | none => .ok (.slice a (sLen + rows2.length) sCap) w) := by
    rintro a sLen sCap rfl hr
    cases a with
    | none => simp [Builtin.append_, run_underlying ht, sizeOf, typeInfo, hi, Builtin.lenOf, hr, nfull]
    | some ad => simp [Builtin.append_, run_underlying ht, sizeOf, typeInfo, hi, Builtin.lenOf, hr, nfull]
  rcases o2 with ⟨rfl, a, rfl⟩ | ⟨b, cp, rfl, q1, q2, q3, q4, q5, q6⟩
  · have : olds = [] := List.length_eq_zero_iff.1 (by rw [o1.len]; simp)
    subst this
    rcases Nat.eq_zero_or_pos rows2.length with h0 | h0
    · have e0 : rows2 = [] := List.length_eq_zero_iff.1 h0
      subst e0
      have e1 : news = [] := List.length_eq_zero_iff.1 (by rw [nlen]; simp)
      subst e1
      refine ⟨.slice a 0 0, w, ?_, .inl ⟨a, rfl, rfl⟩, Nat.le_refl _, Io.refl _, fun _ _ _ => rfl, fun b hb => .inl hb⟩
      rw [inroom a 0 0 rfl (by simp)]
      cases a <;> simp [storeCells]
    · rcases n3 with n3 | ⟨b2, o2, rfl, n3⟩
      · omega
      · injection e2 with e2a _ e2c
        subst e2a e2c
        have hg := grown 0 (by simp; omega)
        simp only [List.length_nil, Nat.zero_add, List.nil_append] at hg hb hmax
        have n3' : news' = news := by
          have k1 := run_firstCells_some (P := P) w cs.length rows2.length ⟨b2, o2, none⟩ rows2.length c2 news' n1'.len (fun j v hj => by rw [addr_add]; exact n3 j v hj)
          rw [hsize] at nfull
          rw [k1] at nfull
          injection nfull with nfull
          simpa using nfull
        subst n3'
        have rd : ∀ j v, news'[j]? = some v → w.cell? ((⟨b2, o2, none⟩ : Addr).add j) = some v := fun j v hj => by rw [addr_add]; exact n3 j v hj
        cases a with
        | none =>
          refine ⟨_, _, run_append_nil (P := P) w t ty e i z ht hi hz ⟨b2, o2, none⟩ rows2.length c2 news' (by rw [hsize]; exact nlen) rd h0 (by omega) (by omega), ?_, (gmore _).1, (gmore _).2.1, (gmore _).2.2, gat _ _ _⟩
          rw [show news'.toArray = (#[] : Array Value) ++ news'.toArray by simp]
          exact hg
        | some ad =>
          have hrun := run_append_grow (P := P) w t ty e i z ht hi hz ad 0 0 [] (by simp) (by simp) ⟨b2, o2, none⟩ rows2.length c2 news' (by rw [hsize]; exact nlen) rd (by omega) (by omega) (growslice_fits (by omega) (by simpa using hb))
          simp only [Nat.zero_add] at hrun
          exact ⟨_, _, hrun, hg, (gmore _).1, (gmore _).2.1, (gmore _).2.2, gat _ _ _⟩
  · have hroom : roomAt (.slice (some ⟨b, 0, none⟩) rows.length cp) = some b := by obtain ⟨c, rfl⟩ := Nat.exists_eq_succ_of_ne_zero (Nat.pos_iff_ne_zero.1 q1); rfl
    by_cases hfit : rows.length + rows2.length ≤ cp
    · have hst := run_storeCells_cells (P := P) b (rows.length * i.size) news 0 w (fun j hj => q4 _ (by
        rw [hsize]
        have := Nat.mul_le_mul_right cs.length hfit
        rw [Nat.add_mul] at this
        omega)) (fun j hj => q5 _) n1.one
      have hin := inroom (some ⟨b, 0, none⟩) rows.length cp rfl hfit
      simp only [addr_add, Nat.zero_add, Nat.add_zero] at hin hst
      refine ⟨.slice (some ⟨b, 0, none⟩) (rows.length + rows2.length) cp, w.setCells b (rows.length * i.size) news, ?_, ?_, by rw [size_setCells]; exact Nat.le_refl _, io_setCells _ _ _ _, fun b' _ hne => heap_setCells b news _ w b' (fun e => hne (by rw [hroom, e])), fun b' hb' => .inl (by rw [hroom]; cases cp with | zero => simp [roomAt] at hb' | succ c => simpa [roomAt] using hb')⟩
      · rw [hin]
        simp only [Sem.run_bind, hst, Result.andThen_ok, Sem.run_pure]
      · have := owns_set (w := w) (o := rows.length * i.size) (news := news) (fun b' g e => (hG b' g).2 (by rw [hroom, e])) q3 q4 q5 (o1.append n1) q1 (by rw [List.length_append]; exact hfit) (by rw [hsize, nlen, ← Nat.add_mul]; exact Nat.mul_le_mul_right _ hfit) fun j u hj => by
          rcases Nat.lt_or_ge j olds.length with q | q
          · rw [List.getElem?_append_left q] at hj
            rw [World.cell?_setCells_out b news _ w _ (fun _ _ => .inl (by rw [hsize, ← o1.len]; exact q))]
            exact q6 j u hj
          · rw [List.getElem?_append_right q] at hj
            have hl := lt_of_get hj
            have k := World.cell?_setCells_in b news (rows.length * i.size) w (fun j' hj' => q4 _ (by
              rw [hsize]
              have := Nat.mul_le_mul_right cs.length hfit
              rw [Nat.add_mul] at this
              omega)) (j - olds.length) hl
            rw [List.getElem?_eq_getElem hl] at hj
            rw [hsize, ← o1.len, show olds.length + (j - olds.length) = j by omega] at k
            rw [hsize, ← o1.len, k, hj]
        rw [List.length_append] at this
        exact this
    · have hg := grown cp (by omega)
      rcases Nat.eq_zero_or_pos rows2.length with h0 | h0
      · omega
      · rcases n3 with n3 | ⟨b2, o2, rfl, n3⟩
        · omega
        · injection e2 with e2a _ e2c
          subst e2a e2c
          have n3' : news' = news := by
            have k1 := run_firstCells_some (P := P) w cs.length rows2.length ⟨b2, o2, none⟩ rows2.length c2 news' n1'.len (fun j v hj => by rw [addr_add]; exact n3 j v hj)
            rw [hsize] at nfull
            rw [k1] at nfull
            injection nfull with nfull
            simpa using nfull
          subst n3'
          have hrun := run_append_grow (P := P) w t ty e i z ht hi hz ⟨b, 0, none⟩ rows.length cp olds (by rw [hsize]; exact o1.len) (fun j v hj => by rw [addr_add, Nat.zero_add]; exact q6 j v hj) ⟨b2, o2, none⟩ rows2.length c2 news' (by rw [hsize]; exact nlen) (fun j v hj => by rw [addr_add]; exact n3 j v hj) (by omega) (by omega) (growslice_fits (by omega) hb)
          exact ⟨_, _, hrun, hg, (gmore _).1, (gmore _).2.1, (gmore _).2.2, gat _ _ _⟩
section
variable {F : Fr}
/-- an owned row is told anew, where it was or in a new block -/
theorem HRel.move {ρ ρ' : Env} {hp : List Blk} {sl : List Ent} {w w' : World} {nd nv : Nat} (h0 : HRel F ρ hp sl w) (hs : HSc nd nv hp) (hse : ∀ e ∈ sl, e.i < nv ∧ e.x.sc nd = true) (ag : Ag nd nv hp.length ρ ρ') {j i0 : Nat} {cs0 : List CT} {x0 : X} (hj : hp[j]? = some (.rows cs0 x0 i0))
    (hz : w.heap.size ≤ w'.heap.size) (hk0 : ∀ b, b < w.heap.size → blkAt ρ hp j ≠ some b → w'.heap[b]? = w.heap[b]?) (io : Io w w') {cs : List CT} {x : X} {i : Nat} (hb0 : ∀ b, roomAt (ρ'.vs i) = some b → blkAt ρ hp j = some b ∨ (w.heap.size ≤ b ∧ b < w'.heap.size))
    (hn : Owns w' (Gd F ρ hp w) cs (ρ'.vs i) (x.den ρ'.ds).rows) : HRel F ρ' (hp.set j (.rows cs x i)) sl w' := by
  have h := h0.ag hs hse ag
  rw [← Gd.ag hs ag] at hn
  have hk : ∀ b, b < w.heap.size → blkAt ρ' hp j ≠ some b → w'.heap[b]? = w.heap[b]? := fun b hb hne => hk0 b hb (by rwa [blkAt_ag hs ag] at hne)
  have hb : ∀ b, roomAt (ρ'.vs i) = some b → blkAt ρ' hp j = some b ∨ (w.heap.size ≤ b ∧ b < w'.heap.size) := fun b e => by rw [blkAt_ag hs ag]; exact hb0 b e
  have hl := lt_of_get hj
  have at' : ∀ k b, blkAt ρ' (hp.set j (.rows cs x i)) k = some b → (k = j ∧ roomAt (ρ'.vs i) = some b) ∨ (k ≠ j ∧ blkAt ρ' hp k = some b) := by
    intro k b e
    by_cases ek : k = j
    · subst ek
      simp only [blkAt, List.getElem?_set_self hl, blkOf] at e
      exact .inl ⟨rfl, e⟩
    · simp only [blkAt, List.getElem?_set_ne (fun q => ek q.symm)] at e
      exact .inr ⟨ek, e⟩
  have hg : ∀ b, Gd F ρ' hp w b → Gd F ρ' (hp.set j (.rows cs x i)) w' b ∧ w'.heap[b]? = w.heap[b]? := fun b g =>
    ⟨⟨g.1, Nat.lt_of_lt_of_le g.2.1 hz, fun k e => (at' k b e).elim (fun e => (hb b e.2).elim (g.2.2 j) fun q => by have := g.2.1; omega) fun e => g.2.2 k e.2⟩, hk b g.2.1 (g.2.2 j)⟩
  have newown : ∀ b, w.heap.size ≤ b → F.own b := fun b q => .inl (Nat.le_trans h.size q)
  refine HRel.mk' (h.io.trans io) (Nat.le_trans h.size hz) (fun b h1 h2 => ?_) (fun k b e => ?_) (fun k cs' x' hh b h1 h2 => ?_) (fun k l b h1 h2 => ?_) (fun k b e => ?_) fun e he => RepC.mono (fun b g => ⟨(hg b g).1, fun o => rd_of_block (hg b g).2 o⟩) (h.imm e he)
  · rw [hk b (Nat.lt_of_lt_of_le (F.lt_of h1) h.size) (fun e => h1 (h.npb j _ _ _ b hj e)), h.keep b h1 h2]
  · rcases at' k b e with ⟨rfl, e2⟩ | ⟨_, e2⟩
    · rcases hb b e2 with q | q
      · exact ⟨Nat.lt_of_lt_of_le (h.lo k b q).1 hz, (h.lo k b q).2⟩
      · exact ⟨q.2, .inl (newown b q.1)⟩
    · exact ⟨Nat.lt_of_lt_of_le (h.lo k b e2).1 hz, (h.lo k b e2).2⟩
  · rcases at' k b h2 with ⟨rfl, e2⟩ | ⟨q1, e2⟩
    · rcases hb b e2 with q | q
      · exact h.npb k _ _ _ b hj q
      · exact newown b q.1
    · have e := e2
      rw [List.getElem?_set_ne (fun q => q1 q.symm)] at h1
      exact h.npb k cs' x' hh b h1 e
  · rcases at' k b h1 with ⟨rfl, e1⟩ | ⟨q1, e1⟩
    · rcases at' l b h2 with ⟨rfl, _⟩ | ⟨q2, e2⟩
      · rfl
      · rcases hb b e1 with q | q
        · exact h.inj k l b q e2
        · have := (h.lo l b e2).1; omega
    · rcases at' l b h2 with ⟨rfl, e2⟩ | ⟨q2, e2⟩
      · rcases hb b e2 with q | q
        · exact h.inj k l b e1 q
        · have := (h.lo k b e1).1; omega
      · exact h.inj k l b e1 e2
  · by_cases ek : k = j
    · subst ek
      rw [List.getElem?_set_self hl] at e
      injection e with e
      subst e
      exact Owns.mono (fun b g => ⟨(hg b g).1, rfl⟩) (fun _ _ => rfl) hn
    · rw [List.getElem?_set_ne (fun q => ek q.symm)] at e
      refine (h.ok e).mono hg fun c hc => ?_
      have hkc : blkAt ρ' hp k = some c := by simp only [blkAt, e, hc]
      exact hk c (h.lo k c hkc).1 fun q => ek (h.inj k j c hkc q)
/-- an owned row that is new -/
theorem HRel.pushG {ρ ρ' : Env} {hp : List Blk} {sl : List Ent} {w w' : World} {nd nv : Nat} (h0 : HRel F ρ hp sl w) (hs : HSc nd nv hp) (hse : ∀ e ∈ sl, e.i < nv ∧ e.x.sc nd = true) (ag : Ag nd nv hp.length ρ ρ')
    (hz : w.heap.size ≤ w'.heap.size) (hk : ∀ b, b < w.heap.size → w'.heap[b]? = w.heap[b]?) (io : Io w w') {cs : List CT} {x : X} {i : Nat} (hb : ∀ b, roomAt (ρ'.vs i) = some b → w.heap.size ≤ b ∧ b < w'.heap.size)
    (hn : Owns w' (Gd F ρ hp w) cs (ρ'.vs i) (x.den ρ'.ds).rows) : HRel F ρ' (hp ++ [.rows cs x i]) sl w' := by
  have h := h0.ag hs hse ag
  rw [← Gd.ag hs ag] at hn
  have at' : ∀ k b, blkAt ρ' (hp ++ [.rows cs x i]) k = some b → (k = hp.length ∧ roomAt (ρ'.vs i) = some b) ∨ blkAt ρ' hp k = some b := by
    intro k b e
    rcases Nat.lt_or_ge k hp.length with q | q
    · right
      simpa only [blkAt, List.getElem?_append_left q] using e
    · have := blkAt_lt e
      simp only [List.length_append, List.length_singleton] at this
      obtain rfl : k = hp.length := by omega
      simp only [blkAt, List.getElem?_concat_length, blkOf] at e
      exact .inl ⟨rfl, e⟩
  have hg : ∀ b, Gd F ρ' hp w b → Gd F ρ' (hp ++ [.rows cs x i]) w' b ∧ w'.heap[b]? = w.heap[b]? := fun b g =>
    ⟨⟨g.1, Nat.lt_of_lt_of_le g.2.1 hz, fun k e => (at' k b e).elim (fun e => by have := hb b e.2; have := g.2.1; omega) fun e => g.2.2 k e⟩, hk b g.2.1⟩
  have newown : ∀ b, w.heap.size ≤ b → F.own b := fun b q => .inl (Nat.le_trans h.size q)
  refine HRel.mk' (h.io.trans io) (Nat.le_trans h.size hz) (fun b h1 h2 => by rw [hk b (Nat.lt_of_lt_of_le (F.lt_of h1) h.size), h.keep b h1 h2]) (fun k b e => ?_) (fun k cs' x' hh b h1 h2 => ?_) (fun k l b h1 h2 => ?_) (fun k b e => ?_) fun e he => RepC.mono (fun b g => ⟨(hg b g).1, fun o => rd_of_block (hg b g).2 o⟩) (h.imm e he)
  · rcases at' k b e with ⟨_, e2⟩ | e2
    · exact ⟨(hb b e2).2, .inl (newown b (hb b e2).1)⟩
    · exact ⟨Nat.lt_of_lt_of_le (h.lo k b e2).1 hz, (h.lo k b e2).2⟩
  · rcases at' k b h2 with ⟨_, e⟩ | e
    · exact newown b (hb b e).1
    · rw [List.getElem?_append_left (blkAt_lt e)] at h1
      exact h.npb k cs' x' hh b h1 e
  · rcases at' k b h1 with ⟨rfl, e1⟩ | e1
    · rcases at' l b h2 with ⟨rfl, _⟩ | e2
      · rfl
      · have := hb b e1; have := (h.lo l b e2).1; omega
    · rcases at' l b h2 with ⟨rfl, e2⟩ | e2
      · have := hb b e2; have := (h.lo k b e1).1; omega
      · exact h.inj k l b e1 e2
  · rcases Nat.lt_or_ge k hp.length with q | q
    · rw [List.getElem?_append_left q] at e
      refine (h.ok e).mono hg fun c hc => hk c (h.lo k c (by simp only [blkAt, e, hc])).1
    · have := lt_of_get e
      simp only [List.length_append, List.length_singleton] at this
      obtain rfl : k = hp.length := by omega
      rw [List.getElem?_concat_length] at e
      injection e with e
      subst e
      exact Owns.mono (fun b g => ⟨(hg b g).1, rfl⟩) (fun _ _ => rfl) hn
variable {M : Models} {N : Nat}
theorem ownG_ok {ρ : Env} {st st' : St} {cs : List CT} {x : X} {sv : SV} {ds' : List D} {w w' : World} (hP : PRel ρ.ds st) (hH : HRel F ρ st.hp st.sl w) (h : (st.own cs x).eval M N ρ.ds = some ((sv, st'), ds')) {v : Value}
    (hz : w.heap.size ≤ w'.heap.size) (hk : ∀ b, b < w.heap.size → w'.heap[b]? = w.heap[b]?) (io : Io w w') (hb : ∀ b, roomAt v = some b → w.heap.size ≤ b ∧ b < w'.heap.size) (hn : Owns w' (Gd F ρ st.hp w) cs v (x.den ρ.ds).rows) :
    sv.isUnd = false ∧ ∃ ρ', ρ'.ds = ds' ∧ sv.den ρ' = v ∧ Stp F ρ ρ' st st' w w' := by
  unfold St.own at h
  split at h
  · rename_i hc
    simp only [Bool.and_eq_true] at hc
    have S := scoped_iff hc.1
    simp only [T.eval, Option.some.injEq, Prod.mk.injEq] at h
    obtain ⟨⟨rfl, rfl⟩, rfl⟩ := h
    have ag := Ag.setv st.nd st.nv st.nh ρ v
    have ev := Env.setv_same ρ st.nv v
    refine ⟨rfl, ρ.setv st.nv v, rfl, ev, ag, ⟨hP.nd, hP.bd, hP.kn⟩, hH.pushG S.hp S.sl ag hz hk io (by rw [ev]; exact hb) (by rw [ev]; exact hn), rfl, Nat.le_refl _, by simp, by simp [St.nh], Ag.keep S ag, hz⟩
  · simp [T.eval] at h
theorem renew_ok {ρ : Env} {st st' : St} {cs cs0 : List CT} {x x0 : X} {j i0 : Nat} {sv : SV} {ds' : List D} {w w' : World} (hP : PRel ρ.ds st) (hH : HRel F ρ st.hp st.sl w) (hj : st.hp[j]? = some (.rows cs0 x0 i0)) (h : (st.renew j cs x).eval M N ρ.ds = some ((sv, st'), ds')) {v : Value}
    (hz : w.heap.size ≤ w'.heap.size) (hk : ∀ b, b < w.heap.size → roomAt (ρ.vs i0) ≠ some b → w'.heap[b]? = w.heap[b]?) (io : Io w w') (hb : ∀ b, roomAt v = some b → roomAt (ρ.vs i0) = some b ∨ (w.heap.size ≤ b ∧ b < w'.heap.size)) (hn : Owns w' (Gd F ρ st.hp w) cs v (x.den ρ.ds).rows) :
    sv.isUnd = false ∧ ∃ ρ', ρ'.ds = ds' ∧ sv.den ρ' = v ∧ Stp F ρ ρ' st st' w w' := by
  unfold St.renew at h
  split at h
  · rename_i hc
    simp only [Bool.and_eq_true] at hc
    have S := scoped_iff hc.1
    simp only [T.eval, Option.some.injEq, Prod.mk.injEq] at h
    obtain ⟨⟨rfl, rfl⟩, rfl⟩ := h
    have ag := Ag.setv st.nd st.nv st.nh ρ v
    have ev := Env.setv_same ρ st.nv v
    refine ⟨rfl, ρ.setv st.nv v, rfl, ev, ag, ⟨hP.nd, hP.bd, hP.kn⟩, hH.move S.hp S.sl ag hj hz (by rw [blkAt_rows hj]; exact hk) io (by rw [ev, blkAt_rows hj]; exact hb) (by rw [ev]; exact hn), rfl, Nat.le_refl _, by simp, by simp [St.nh], Ag.keep S ag, hz⟩
  · simp [T.eval] at h
theorem told_ok {ρ : Env} {st : St} {w : World} (hH : HRel F ρ st.hp st.sl w) {b : SV} {cb : Option (List CT)} {y : X} (h : st.told b = some (cb, y)) {cs : List CT} (hc : cb.all (CT.sames cs) = true) : Told (rdW w) (Gd F ρ st.hp w) cs (b.den ρ) (y.den ρ.ds).rows ∧ b.isUnd = false := by
  unfold St.told at h
  split at h
  · rename_i i
    rw [Option.map_eq_some_iff] at h
    obtain ⟨⟨cs', y', r⟩, he, h⟩ := h
    simp only [Prod.mk.injEq] at h
    obtain ⟨rfl, rfl⟩ := h
    simp only [Option.all_some] at hc
    rw [CT.sames_eq hc]
    exact ⟨hH.told he, rfl⟩
  · simp only [Option.some.injEq, Prod.mk.injEq] at h
    obtain ⟨rfl, rfl⟩ := h
    exact ⟨⟨none, 0, rfl, Nat.le_refl _, Nat.zero_le _, .inl rfl⟩, rfl⟩
  · cases h
theorem Stp.likeL {ρ ρ' : Env} {st st0 st' : St} {w w' : World} (l : Like st st0) (S : Stp F ρ ρ' st0 st' w w') : Stp F ρ ρ' st st' w w' :=
  ⟨by have := S.ag; simp only [St.nh, l.nd, l.nv, l.hp] at this ⊢; exact this, S.p, S.h, S.tm.trans l.tm, by have := S.nd; rwa [l.nd] at this, by have := S.nv; rwa [l.nv] at this, by have := S.nh; simp only [St.nh, l.hp] at this ⊢; exact this, by have := S.keep; rwa [l.tm] at this, S.size⟩
theorem le_div_of {n b c : Nat} (hb : 0 < b) (h : n ≤ c / b) : n * b ≤ c := Nat.le_trans (Nat.mul_le_mul_right _ h) (Nat.div_mul_le_self c b)
theorem appendS_ok {ρ : Env} {st st' : St} {sv : SV} {ds' : List D} {w : World} (hP : PRel ρ.ds st) (hH : HRel F ρ st.hp st.sl w) {t ty e : TypeId} {a b : SV} (ht : P.underlying t = some (.slice e)) (h : (appendS P st e a b).eval M N ρ.ds = some ((sv, st'), ds')) :
    sv.isUnd = false ∧ a.isUnd = false ∧ b.isUnd = false ∧ ∃ ρ' w', ρ'.ds = ds' ∧ Stp F ρ ρ' st st' w w' ∧ (Builtin.append_ #[t, t] ty #[a.den ρ, b.den ρ]).run P w = .ok (sv.den ρ') w' := by
  unfold appendS at h
  split at h
  · rename_i i cs cb y hi hct hb
    split at h
    · rename_i hc
      obtain ⟨c1, c2, c3, c4, c5, c6⟩ := hc
      rw [Option.map_eq_some_iff] at c2
      obtain ⟨z, hz, hzs⟩ := c2
      obtain ⟨Tb, ub⟩ := told_ok hH hb c5
      have tlb := Tb.len
      split at h
      · rename_i k
        split at h
        · rename_i j ca x hf
          split at h
          · rename_i hs
            simp only [Bool.and_eq_true] at hs
            obtain ⟨m, hm0, hm⟩ := findR_spec hf
            obtain rfl : j = m := by omega
            have hcs := CT.sames_eq hs.1
            subst hcs
            obtain ⟨hw, s1, p, l, h⟩ := tNeed_some hP h
            rw [bLe_den hP.bd] at hw
            have hw := of_decide_eq_true hw
            have hO := hH.rows j _ _ k hm
            have tla := hO.told.len
            have e1 : (X.den ρ.ds (.add (xLen x) (xLen y))).int = (X.den ρ.ds x).rows.length + (X.den ρ.ds y).rows.length := by show (X.den ρ.ds (xLen x)).int + (X.den ρ.ds (xLen y)).int = _; rw [xLen_den, xLen_den, tla, tlb]
            rw [e1] at hw
            have hbd := le_div_of c4 (show (X.den ρ.ds x).rows.length + (X.den ρ.ds y).rows.length ≤ 140737488355328 / i.bytes by
              have : (X.den ρ.ds (X.N ((140737488355328 / i.bytes : Nat) : Int))).int = ((140737488355328 / i.bytes : Nat) : Int) := rfl
              rw [this] at hw
              omega)
            obtain ⟨v', w', r1, r2, r3, r4, r5, r6⟩ := append_run (P := P) (ty := ty) ht hi hz c1 hzs c3 c4 hO Tb (fun b' g => ⟨g.2.1, fun q => g.2.2 j (by rw [blkAt_rows hm]; exact q)⟩) hbd
            have hm' : s1.hp[j]? = some (.rows ca x k) := by rw [l.hp]; exact hm
            obtain ⟨u1, ρ', d1, d2, S⟩ := renew_ok p (by rw [l.hp, l.sl]; exact hH) hm' h r3 r5 r4 r6 (by rw [l.hp, xApp_den]; exact r2)
            exact ⟨u1, rfl, ub, ρ', w', d1, S.likeL l, by rw [d2]; exact r1⟩
          · simp [T.eval] at h
        · simp [T.eval] at h
      · obtain ⟨hw, s1, p, l, h⟩ := tNeed_some hP h
        rw [bLe_den hP.bd] at hw
        have hw := of_decide_eq_true hw
        rw [xLen_den, tlb] at hw
        have hbd := le_div_of c4 (show ([] : List (List D)).length + (X.den ρ.ds y).rows.length ≤ 140737488355328 / i.bytes by
          have : (X.den ρ.ds (X.N ((140737488355328 / i.bytes : Nat) : Int))).int = ((140737488355328 / i.bytes : Nat) : Int) := rfl
          rw [this] at hw
          simp only [List.length_nil]
          omega)
        have hO : Owns w (Gd F ρ st.hp w) cs (.slice none 0 0) [] := .inl ⟨none, rfl, rfl⟩
        obtain ⟨v', w', r1, r2, r3, r4, r5, r6⟩ := append_run (P := P) (ty := ty) ht hi hz c1 hzs c3 c4 hO Tb (fun b' g => ⟨g.2.1, by simp [roomAt]⟩) hbd
        obtain ⟨u1, ρ', d1, d2, S⟩ := ownG_ok p (by rw [l.hp, l.sl]; exact hH) h r3 (fun b hb => r5 b hb (by simp [roomAt])) r4 (fun b hb => (r6 b hb).resolve_left (by simp [roomAt])) (by rw [l.hp]; exact r2)
        exact ⟨u1, rfl, ub, ρ', w', d1, S.likeL l, by rw [d2]; exact r1⟩
      · simp [T.eval] at h
    · simp [T.eval] at h
  · simp [T.eval] at h
end
section
variable {F : Fr} {M : Models} {N : Nat}
/-- rows that are made, all the same -/
theorem make_run {t e : TypeId} {i : TypeInfo} {z : Value} (ht : P.underlying t = some (.slice e)) (hi : P.info? e = some i) (hz : i.zero = some z) {cs : List CT} (hsize : i.size = cs.length) (hzs : z.cells.size = i.size) (hpos : 0 < cs.length) {w : World} {G : Nat → Prop} {row : List D} (hG : ∀ b, G b → b < w.heap.size)
    (hv : RowsV (rdW w) G cs z.cells.toList [row]) {k k' : IntKind} {a c : Int} (h0 : 0 ≤ a) (h1 : a ≤ c) (h2 : c ≤ (140737488355328 / i.bytes : Nat)) (hby : 0 < i.bytes) :
    ∃ w', (Instr.makeSlice t (.int k a) (.int k' c)).run P w = .ok (.slice (some ⟨w.heap.size, 0, none⟩) a.toNat c.toNat) w' ∧ Owns w' G cs (.slice (some ⟨w.heap.size, 0, none⟩) a.toNat c.toNat) (List.replicate a.toNat row) ∧ w'.heap.size = w.heap.size + 1 ∧ Io w w' ∧ ∀ b, b < w.heap.size → w'.heap[b]? = w.heap[b]? := by
  have hc : c.toNat * i.bytes ≤ 140737488355328 := le_div_of hby (by omega)
  have hc2 : c.toNat ≤ 140737488355328 := Nat.le_trans (Nat.le_mul_of_pos_right _ hby) hc
  have ml : (140737488355328 : Nat) ≤ maxLen := by unfold maxLen; decide
  have big : (i.bytes : Int) * c ≤ 140737488355328 := by
    obtain ⟨n, rfl⟩ := Int.eq_ofNat_of_zero_le (show 0 ≤ c by omega)
    simp only [Int.toNat_natCast] at hc
    rw [Nat.mul_comm] at hc
    have q : ((i.bytes * n : Nat) : Int) ≤ 140737488355328 := by omega
    rwa [Int.natCast_mul] at q
  have run := run_make (P := P) w t e i z ht hi hz k k' a c h0 h1 (by omega) (by omega)
  refine ⟨_, run, ?_, by simp, ⟨rfl, rfl, rfl⟩, fun b hb => Below.heap_alloc _ _ _ hb⟩
  rcases Nat.eq_zero_or_pos c.toNat with hc0 | hc0
  · rw [hc0, show a.toNat = 0 by omega]
    exact .inl ⟨_, rfl, rfl⟩
  · have et := tile z.cells.toList i.size (by simp [hzs]) c.toNat
    have earr : madeCells z.cells (c.toNat * i.size) = ((List.replicate a.toNat z.cells.toList).flatten ++ (List.replicate (c.toNat - a.toNat) z.cells.toList).flatten).toArray := by
      apply Array.ext'
      simp only [List.toList_toArray]
      rw [← List.flatten_append, List.replicate_append_replicate, show a.toNat + (c.toNat - a.toNat) = c.toNat by omega, ← et]
      simp only [madeCells, hzs, Array.toList_map, Array.toList_range]
      exact List.map_congr_left fun x _ => by simp [getElem!_def]
    rw [earr]
    have := owns_new (w := w) (w0 := w) (e := e) (cp := c.toNat) (zs := (List.replicate (c.toNat - a.toNat) z.cells.toList).flatten) rfl hG (hv.rep a.toNat) (by
      rw [(hv.rep a.toNat).len, List.length_replicate]
      simp only [List.length_flatten, List.map_replicate, List.sum_replicate_nat, Array.length_toList, hzs, hsize, ← Nat.add_mul]
      congr 1
      omega) hc0 (by rw [List.length_replicate]; omega) (by omega)
    rwa [List.length_replicate] at this
/-- rows are copied over those of an owned row -/
theorem copyR_run {argTypes : Array TypeId} {t ty e : TypeId} (h0 : argTypes[0]? = some t) (ht : P.underlying t = some (.slice e)) {cs : List CT} (hsize : sizeB P e = some cs.length) {w : World} {G : Nat → Prop} {v u : Value} {rows rows2 : List (List D)}
    (hO : Owns w G cs v rows) (hT : Told (rdW w) G cs u rows2) (hG : ∀ b, G b → roomAt v ≠ some b) :
    ∃ w', (Builtin.copy_ argTypes ty #[v, u]).run P w = .ok (.int .i64 (min rows.length rows2.length : Nat)) w' ∧ Owns w' G cs v (rows2.take (min rows.length rows2.length) ++ rows.drop (min rows.length rows2.length)) ∧ w'.heap.size = w.heap.size ∧ Io w w' ∧ (∀ b, roomAt v ≠ some b → w'.heap[b]? = w.heap[b]?) := by
  obtain ⟨news, n1, n2, a2, c2, rfl⟩ := firstCells_told (P := P) hT
  have hmin : Nat.min rows2.length rows.length = min rows.length rows2.length := Nat.min_comm _ _
  have nf := n2 w (fun _ => rfl) (min rows.length rows2.length) (Nat.min_le_right _ _)
  rcases hO with ⟨a, rfl, rfl⟩ | ⟨b, cp, rfl, q1, q2, q3, q4, q5, q6⟩
  · simp only [List.length_nil, Nat.zero_min, Nat.zero_mul, List.take_zero, Nat.min_zero] at nf
    refine ⟨w, ?_, .inl ⟨a, rfl, by simp⟩, rfl, Io.refl _, fun _ _ => rfl⟩
    cases a <;> simp [Builtin.copy_, h0, run_underlying ht, Builtin.lenOf, sizeOf_run hsize, nf, storeCells, goInt]
  · obtain ⟨olds, o1, o2⟩ := rows_vals (rd := rdW w) rows 0 fun i row hi => by rw [Nat.zero_add]; exact q6 i row hi
    have hroom : roomAt (.slice (some ⟨b, 0, none⟩) rows.length cp) = some b := by obtain ⟨c, rfl⟩ := Nat.exists_eq_succ_of_ne_zero (Nat.pos_iff_ne_zero.1 q1); rfl
    generalize hm : min rows.length rows2.length = m at *
    have hm1 : m ≤ rows.length := by omega
    have hm2 : m ≤ rows2.length := by omega
    have nt := n1.take m
    have hfit : (news.take (m * cs.length)).length ≤ cp * cs.length := by
      rw [nt.len, List.length_take, Nat.min_eq_left hm2]
      exact Nat.mul_le_mul_right _ (by omega)
    have hst := run_storeCells_cells (P := P) b 0 (news.take (m * cs.length)) 0 w (fun j hj => q4 _ (by omega)) (fun j hj => q5 _) nt.one
    refine ⟨w.setCells b 0 (news.take (m * cs.length)), ?_, ?_, size_setCells _ _ _ _, io_setCells _ _ _ _, fun b' hne => heap_setCells b _ _ w b' (fun e => hne (by rw [hroom, e]))⟩
    · simp only [Nat.zero_add] at hst
      simp [Builtin.copy_, h0, run_underlying ht, Builtin.lenOf, sizeOf_run hsize, hmin, nf, hst, goInt]
    · have hr := nt.append (o1.drop m)
      have hlen : (rows2.take m ++ rows.drop m).length = rows.length := by rw [List.length_append, List.length_take, List.length_drop]; omega
      have := owns_set (w := w) (o := 0) (news := news.take (m * cs.length)) (fun b' g e => hG b' g (by rw [hroom, e])) q3 q4 q5 hr q1 (by rw [hlen]; exact q2) (by rw [Nat.zero_add]; exact hfit) fun j u hj => by
        rcases Nat.lt_or_ge j (news.take (m * cs.length)).length with q | q
        · rw [List.getElem?_append_left q] at hj
          have k := World.cell?_setCells_in b (news.take (m * cs.length)) 0 w (fun j' hj' => q4 _ (by omega)) j q
          rw [Nat.zero_add] at k
          rw [k, ← hj, List.getElem?_eq_getElem q]
        · rw [List.getElem?_append_right q, List.getElem?_drop] at hj
          rw [World.cell?_setCells_out b _ _ w _ (fun _ _ => .inr (by simpa using q))]
          have e : m * cs.length + (j - (news.take (m * cs.length)).length) = j := by
            rw [nt.len, List.length_take, Nat.min_eq_left hm2] at q ⊢
            omega
          rw [e] at hj
          have := o2 j u hj
          simpa [rdW] using this
      rwa [hlen] at this
theorem overX_den {ρ : List D} {y n : X} {r c : Nat} (old : X) : (((r : Nat) : Int) < (n.den ρ).int → (overX y n r c old).den ρ = (y.den ρ).cell (r : Nat) c) ∧ (¬ ((r : Nat) : Int) < (n.den ρ).int → (overX y n r c old).den ρ = old.den ρ) := by
  unfold overX
  split
  · rename_i m
    simp only [X.den, D.int]
    constructor
    · intro h
      rw [if_pos h, xAt_den]
      rfl
    · intro h
      rw [if_neg h]
  · have e : ∀ z old : X, X.den ρ (.cond (.lt (.N r) n) z old) = if (X.den ρ (.lt (.N r) n)).boo = true then X.den ρ z else X.den ρ old := fun z old => by simp only [X.den]
    constructor
    · intro h
      have h' : (X.den ρ (.lt (.N r) n)).boo = true := decide_eq_true h
      rw [e, if_pos h', xAt_den]
      rfl
    · intro h
      have h' : (X.den ρ (.lt (.N r) n)).boo = false := decide_eq_false h
      rw [e, if_neg (by rw [h']; simp)]
theorem overC_spec {ρ : Env} {y n : X} {cs : List CT} (hpos : 0 < cs.length) : ∀ {xs new : List SV} {r c : Nat}, c < cs.length → overC y n cs r c xs = some new → new.length = xs.length ∧ ∀ (q : Nat) (x' : SV), new[q]? = some x' →
    x'.isUnd = false ∧ ∃ old, xs[q]? = some old ∧ old.isUnd = false ∧ ((((r + (c + q) / cs.length : Nat) : Int) < (n.den ρ.ds).int ∧ ∀ rd G v ct, cs[(c + q) % cs.length]? = some ct → RepC rd G ct v ((y.den ρ.ds).cell (r + (c + q) / cs.length : Nat) ((c + q) % cs.length)) → x'.den ρ = v) ∨ (¬ ((r + (c + q) / cs.length : Nat) : Int) < (n.den ρ.ds).int ∧ x'.den ρ = old.den ρ))
  | [], new, r, c, hc, h => by
    simp only [overC, Option.some.injEq] at h
    subst h
    exact ⟨rfl, fun q x' e => by simp at e⟩
  | x :: xs, new, r, c, hc, h => by
    simp only [overC] at h
    split at h
    · rename_i v l hv hl
      injection h with h
      subst h
      have rest : l.length = xs.length ∧ ∀ (q : Nat) (x' : SV), l[q]? = some x' → x'.isUnd = false ∧ ∃ old, xs[q]? = some old ∧ old.isUnd = false ∧ ((((r + (c + (q + 1)) / cs.length : Nat) : Int) < (n.den ρ.ds).int ∧ ∀ rd G v ct, cs[(c + (q + 1)) % cs.length]? = some ct → RepC rd G ct v ((y.den ρ.ds).cell (r + (c + (q + 1)) / cs.length : Nat) ((c + (q + 1)) % cs.length)) → x'.den ρ = v) ∨ (¬ ((r + (c + (q + 1)) / cs.length : Nat) : Int) < (n.den ρ.ds).int ∧ x'.den ρ = old.den ρ)) := by
        split at hl
        · rename_i h1
          obtain ⟨a, b⟩ := overC_spec hpos h1 hl
          refine ⟨a, fun q x' e => ?_⟩
          have := b q x' e
          rwa [show c + 1 + q = c + (q + 1) by omega] at this
        · rename_i h1
          obtain ⟨a, b⟩ := overC_spec hpos hpos hl
          refine ⟨a, fun q x' e => ?_⟩
          have := b q x' e
          have e1 : c + (q + 1) = cs.length + (0 + q) := by omega
          rwa [show r + 1 + (0 + q) / cs.length = r + (c + (q + 1)) / cs.length by rw [e1, Nat.add_div_left _ hpos]; omega, show (0 + q) % cs.length = (c + (q + 1)) % cs.length by rw [e1, Nat.add_mod_left]] at this
      refine ⟨by simp [rest.1], fun q x' e => ?_⟩
      cases q with
      | succ q => exact rest.2 q x' (by simpa using e)
      | zero =>
        simp only [List.getElem?_cons_zero, Option.some.injEq] at e
        subst e
        have d0 : (c + 0) / cs.length = 0 := Nat.div_eq_of_lt hc
        have m0 : (c + 0) % cs.length = c := Nat.mod_eq_of_lt hc
        rw [d0, m0, Nat.add_zero]
        have key := fun old => overX_den (ρ := ρ.ds) (y := y) (n := n) (r := r) (c := c) old
        have hv2 := hv
        clear hv
        cases hct : cs[c]? with
        | none => rw [hct] at hv2; cases hv2
        | some ct =>
          rw [hct] at hv2
          cases ct with
          | int k =>
            cases x with
            | int k' old =>
              simp only at hv2
              split at hv2
              · rename_i ek
                subst ek
                injection hv2 with hv2
                subst hv2
                refine ⟨rfl, _, rfl, rfl, ?_⟩
                by_cases hr : ((r : Nat) : Int) < (n.den ρ.ds).int
                · refine .inl ⟨hr, fun rd G v ct h1 h2 => ?_⟩
                  injection h1 with h1
                  subst h1
                  simp only [RepC] at h2
                  rw [h2]
                  simp only [SV.den]
                  rw [(key old).1 hr]
                · refine .inr ⟨hr, ?_⟩
                  simp only [SV.den]
                  rw [(key old).2 hr]
              · cases hv2
            | _ => cases hv2
          | bool =>
            cases x with
            | bool old =>
              injection hv2 with hv2
              subst hv2
              refine ⟨rfl, _, rfl, rfl, ?_⟩
              by_cases hr : ((r : Nat) : Int) < (n.den ρ.ds).int
              · refine .inl ⟨hr, fun rd G v ct h1 h2 => ?_⟩
                injection h1 with h1
                subst h1
                simp only [RepC] at h2
                rw [h2]
                simp only [SV.den]
                rw [(key old).1 hr]
              · refine .inr ⟨hr, ?_⟩
                simp only [SV.den]
                rw [(key old).2 hr]
            | _ => cases hv2
          | str =>
            cases x with
            | str old =>
              injection hv2 with hv2
              subst hv2
              refine ⟨rfl, _, rfl, rfl, ?_⟩
              by_cases hr : ((r : Nat) : Int) < (n.den ρ.ds).int
              · refine .inl ⟨hr, fun rd G v ct h1 h2 => ?_⟩
                injection h1 with h1
                subst h1
                simp only [RepC] at h2
                rw [h2]
                simp only [SV.den]
                rw [(key old).1 hr]
              · refine .inr ⟨hr, ?_⟩
                simp only [SV.den]
                rw [(key old).2 hr]
            | _ => cases hv2
          | sl cs' => cases hv2
    · cases h
end
section
variable {F : Fr} {M : Models} {N : Nat}
theorem copyS_ok {ρ : Env} {st st' : St} {sv : SV} {ds' : List D} {w : World} (hP : PRel ρ.ds st) (hH : HRel F ρ st.hp st.sl w) {argTypes : Array TypeId} {t ty e : TypeId} {a b : SV} (h0 : argTypes[0]? = some t) (ht : P.underlying t = some (.slice e)) (h : (copyS P st e a b).eval M N ρ.ds = some ((sv, st'), ds')) :
    sv.isUnd = false ∧ a.isUnd = false ∧ b.isUnd = false ∧ ∃ ρ' w', ρ'.ds = ds' ∧ Stp F ρ ρ' st st' w w' ∧ (Builtin.copy_ argTypes ty #[a.den ρ, b.den ρ]).run P w = .ok (sv.den ρ') w' := by
  unfold copyS at h
  split at h
  · rename_i size cb y hsz hb
    split at h
    · rename_i k
      split at h
      · rename_i j cs x hf
        split at h
        · rename_i hc
          obtain ⟨c1, c2, c3, c4, c5, c6⟩ := hc
          subst c1
          obtain ⟨Tb, ub⟩ := told_ok hH hb c3
          obtain ⟨m, hm0, hm⟩ := findR_spec hf
          obtain rfl : j = m := by omega
          have hO := hH.rows j _ _ k hm
          have tla := hO.told.len
          have tlb := Tb.len
          simp only [T.eval, Option.some.injEq, Prod.mk.injEq] at h
          obtain ⟨⟨rfl, rfl⟩, rfl⟩ := h
          obtain ⟨w', r1, r2, r3, r4, r5⟩ := copyR_run (P := P) (ty := ty) h0 ht hsz hO Tb (fun b' g q => g.2.2 j (by rw [blkAt_rows hm]; exact q))
          have S := scoped_iff c6
          have en : (X.den ρ.ds (xMn (xLen x) (xLen y))).int = (min (X.den ρ.ds x).rows.length (X.den ρ.ds y).rows.length : Nat) := by
            rw [xMn_den, xLen_den, xLen_den, tla, tlb]
            omega
          have er : (X.den ρ.ds (xApp (xTake y (xMn (xLen x) (xLen y))) (xDrop x (xMn (xLen x) (xLen y))))).rows = (X.den ρ.ds y).rows.take (min (X.den ρ.ds x).rows.length (X.den ρ.ds y).rows.length) ++ (X.den ρ.ds x).rows.drop (min (X.den ρ.ds x).rows.length (X.den ρ.ds y).rows.length) := by
            rw [xApp_den, xTake_den, xDrop_den, en, Int.toNat_natCast]
          refine ⟨rfl, rfl, ub, ρ, w', rfl, ⟨Ag.refl _ _ _ _, ⟨hP.nd, hP.bd, hP.kn⟩, ?_, rfl, Nat.le_refl _, Nat.le_refl _, by simp [St.nh], fun _ _ _ => rfl, by omega⟩, ?_⟩
          · exact hH.move S.hp S.sl (Ag.refl _ _ _ _) hm (by omega) (fun b _ hne => r5 b (by rw [blkAt_rows hm] at hne; exact hne)) r4 (fun b hb => .inl (by rw [blkAt_rows hm]; exact hb)) (by rw [er]; exact r2)
          · simp only [SV.den, en]
            exact r1
        · simp [T.eval] at h
      · simp [T.eval] at h
    · rename_i i o l cp
      split at h
      · rename_i cells cs hi
        split at h
        · rename_i hc
          obtain ⟨c1, c2, c3, c5, c6⟩ := hc
          subst c1
          obtain ⟨Tb, ub⟩ := told_ok hH hb (cs := cs) (by simp [CT.sames_refl])
          have tlb := Tb.len
          simp only at h
          split at h
          · rename_i new hnew
            simp only [T.eval, Option.some.injEq, Prod.mk.injEq] at h
            obtain ⟨⟨rfl, rfl⟩, rfl⟩ := h
            obtain ⟨news, n1, n2, a2, cc2, eb⟩ := firstCells_told (P := P) Tb
            have en : (X.den ρ.ds (xMn (.N l) (xLen y))).int = (min l (X.den ρ.ds y).rows.length : Nat) := by
              rw [xMn_den, xLen_den, tlb]
              simp only [X.den, D.int]
              omega
            obtain ⟨s1, s2⟩ := overC_spec (ρ := ρ) c2 c2 hnew
            have sl : new.length = l * cs.length := by rw [s1, List.length_take, List.length_drop]; omega
            generalize hm : min l (X.den ρ.ds y).rows.length = m at *
            have nf := n2 w (fun _ => rfl) m (by omega)
            have nt := n1.take m
            have hmin : Nat.min (X.den ρ.ds y).rows.length l = m := by rw [← hm]; exact Nat.min_comm _ _
            have hml : m * cs.length ≤ l * cs.length := Nat.mul_le_mul_right _ (by omega)
            have ntl : (news.take (m * cs.length)).length = m * cs.length := by rw [nt.len, List.length_take]; congr 1; omega
            have hok := hH.ok hi
            have hst := run_storeCells_cells (P := P) (ρ.β i) o (news.take (m * cs.length)) 0 w (fun j hj => hok.2.1 _ (by omega)) (fun j hj => hok.2.2 rfl _) nt.one
            simp only [Nat.add_zero] at hst
            refine ⟨rfl, rfl, ub, ρ, w.setCells (ρ.β i) o (news.take (m * cs.length)), rfl, ⟨Ag.refl _ _ _ _, ⟨hP.nd, hP.bd, hP.kn⟩, ?_, rfl, Nat.le_refl _, Nat.le_refl _, by simp [St.nh], fun _ _ _ => rfl, by rw [size_setCells]; exact Nat.le_refl _⟩, ?_⟩
            · refine hH.chg (b0 := ρ.β i) (blkAt_fix hi) (size_setCells _ _ _ _) (fun b hb => heap_setCells _ _ _ _ _ hb) (io_setCells _ _ _ _) (by simp [blkOf]) (fun _ _ _ e => by cases e) ⟨fun q x hx hu => ?_, fun q hq => ?_, fun _ q => by rw [World.frozen?_setCells]; exact hok.2.2 rfl q⟩
              · have tl : (cells.take o).length = o := by rw [List.length_take]; omega
                rcases Nat.lt_or_ge q o with q1 | q1
                · rw [List.append_assoc, List.getElem?_append_left (by omega), List.getElem?_take_of_lt q1] at hx
                  rw [World.cell?_setCells_out _ _ _ _ _ (fun _ _ => .inl q1)]
                  exact hok.1 q x hx hu
                · obtain ⟨p, rfl⟩ := Nat.exists_eq_add_of_le q1
                  rw [List.append_assoc, List.getElem?_append_right (by omega), tl, Nat.add_sub_cancel_left] at hx
                  rcases Nat.lt_or_ge p (l * cs.length) with q2 | q2
                  · rw [List.getElem?_append_left (by omega)] at hx
                    obtain ⟨u1, old, k1, k2, k3⟩ := s2 p x hx
                    rw [List.getElem?_take_of_lt q2, List.getElem?_drop] at k1
                    simp only [Nat.zero_add, en] at k3
                    rcases k3 with ⟨k3, k4⟩ | ⟨k3, k4⟩
                    · have hp : p < m * cs.length := by
                        have := Nat.div_add_mod p cs.length
                        have h1 := idx_lt (n := m) (show p / cs.length < m by omega) (Nat.mod_lt p c2)
                        rw [Nat.mul_comm] at this
                        omega
                      have hin := World.cell?_setCells_in (ρ.β i) (news.take (m * cs.length)) o w (fun j hj => hok.2.1 _ (by omega)) p (by omega)
                      rw [hin]
                      congr 1
                      have hmod := Nat.mod_lt p c2
                      have hrow : p / cs.length < (X.den ρ.ds y).rows.length := by omega
                      have hget := List.getElem?_eq_getElem hrow
                      have hpn : p < news.length := by rw [n1.len]; have : m * cs.length ≤ (X.den ρ.ds y).rows.length * cs.length := Nat.mul_le_mul_right _ (by omega); omega
                      have R := n1.to (fun b q => if b = w.heap.size then news[p / cs.length * cs.length + q]? else rdW w b q) (Gd F ρ st.hp w) (fun c v d hcv => RepC.mono (fun b g => ⟨g, fun o => if_neg (by have := g.2.1; omega)⟩) hcv) (p / cs.length) _ hget w.heap.size 0 (fun j hj v hv => by simpa using hv)
                      obtain ⟨ct, hct⟩ : ∃ ct, cs[p % cs.length]? = some ct := ⟨_, List.getElem?_eq_getElem hmod⟩
                      obtain ⟨v, v1, v2⟩ := R.at (p % cs.length) ct hct
                      have e1 : p / cs.length * cs.length + p % cs.length = p := by rw [Nat.mul_comm]; exact Nat.div_add_mod p cs.length
                      simp only [Nat.zero_add, e1, if_true] at v1
                      have hx2 := k4 _ _ v ct hct (by
                        unfold D.cell
                        rw [Int.toNat_natCast, List.getD_eq_getElem?_getD (l := (X.den ρ.ds y).rows), hget, Option.getD_some]
                        exact v2)
                      rw [hx2]
                      rw [List.getElem?_eq_getElem hpn] at v1
                      injection v1 with v1
                      rw [← v1]
                      simp
                    · have hp : m * cs.length ≤ p := by
                        have h1 : m ≤ p / cs.length := by omega
                        have := Nat.mul_le_mul_right cs.length h1
                        have h2 := Nat.div_mul_le_self p cs.length
                        omega
                      rw [World.cell?_setCells_out _ _ _ _ _ (fun _ _ => .inr (by simp only; omega)), k4]
                      exact hok.1 _ old k1 k2
                  · rw [List.getElem?_append_right (by omega), sl, List.getElem?_drop] at hx
                    rw [World.cell?_setCells_out _ _ _ _ _ (fun _ _ => .inr (by simp only; omega))]
                    exact hok.1 _ x (by rw [← hx]; congr 1; omega) hu
              · simp only [List.length_append, List.length_take, List.length_drop, sl] at hq
                have hq2 : q < cells.length := by omega
                obtain ⟨u, hu⟩ := Option.isSome_iff_exists.1 (hok.2.1 q hq2)
                rcases Nat.lt_or_ge q o with q1 | q1
                · rw [World.cell?_setCells_out _ _ _ _ _ (fun _ _ => .inl q1), hu]; rfl
                · rcases Nat.lt_or_ge q (o + m * cs.length) with q2 | q2
                  · obtain ⟨p, rfl⟩ := Nat.exists_eq_add_of_le q1
                    rw [World.cell?_setCells_in (ρ.β i) (news.take (m * cs.length)) o w (fun j hj => hok.2.1 _ (by omega)) p (by omega)]; rfl
                  · rw [World.cell?_setCells_out _ _ _ _ _ (fun _ _ => .inr (by simp only; omega)), hu]; rfl
            · simp only [SV.den, en, eb] at nf ⊢
              simp [Builtin.copy_, h0, run_underlying ht, Builtin.lenOf, sizeOf_run hsz, hmin, nf, hst, goInt]
          · simp [T.eval] at h
        · simp [T.eval] at h
      · simp [T.eval] at h
    · simp [T.eval] at h
  · simp [T.eval] at h
end
section
variable {F : Fr}
/-- an owned slice is given up -/
theorem HRel.freeze {ρ : Env} {hp : List Blk} {sl : List Ent} {w : World} (h : HRel F ρ hp sl w) {i j : Nat} {cs : List CT} {x : X} (hj : hp[j]? = some (.rows cs x i)) : HRel F ρ (hp.set j .none) (sl ++ [⟨i, cs, x⟩]) w := by
  have hl := lt_of_get hj
  have at' : ∀ k b, blkAt ρ (hp.set j .none) k = some b → k ≠ j ∧ blkAt ρ hp k = some b := by
    intro k b hk
    by_cases e : k = j
    · subst e
      simp only [blkAt, List.getElem?_set_self hl, blkOf] at hk
      cases hk
    · simp only [blkAt, List.getElem?_set_ne (fun x => e x.symm)] at hk ⊢
      exact ⟨e, hk⟩
  have hg : ∀ b, Gd F ρ hp w b → Gd F ρ (hp.set j .none) w b := fun b g => ⟨g.1, g.2.1, fun k e => g.2.2 k (at' k b e).2⟩
  refine HRel.mk' h.io h.size h.keep (fun k b e => h.lo k b (at' k b e).2) (fun k cs' x' hh b h1 h2 => by
      obtain ⟨q1, q2⟩ := at' k b h2
      rw [List.getElem?_set_ne (fun q => q1 q.symm)] at h1
      exact h.npb k cs' x' hh b h1 q2) (fun k l b h1 h2 => h.inj k l b (at' k b h1).2 (at' l b h2).2) (fun k b e => ?_) fun e he => ?_
  · by_cases ek : k = j
    · subst ek
      rw [List.getElem?_set_self hl] at e
      injection e with e
      subst e
      trivial
    · rw [List.getElem?_set_ne (fun x => ek x.symm)] at e
      exact (h.ok e).mono (fun b g => ⟨hg b g, rfl⟩) fun _ _ => rfl
  · rcases List.mem_append.1 he with he | he
    · exact RepC.mono (fun b g => ⟨hg b g, fun _ => rfl⟩) (h.imm e he)
    · simp only [List.mem_singleton] at he
      subst he
      simp only [RepC]
      rcases h.rows j _ _ i hj with ⟨a, q1, q2⟩ | ⟨b, cp, q1, q2, q3, q4, q5, q6, q7⟩
      · exact ⟨a, 0, by rw [q1, q2]; rfl, by simp [q2], by simp [maxLen], .inl (by simp [q2])⟩
      · have hb : blkAt ρ hp j = some b := by
          rw [blkAt_rows hj, q1]
          obtain ⟨c, rfl⟩ := Nat.exists_eq_succ_of_ne_zero (Nat.pos_iff_ne_zero.1 q2)
          rfl
        have hlo := h.lo j b hb
        refine ⟨_, cp, q1, q3, q4, ?_⟩
        refine .inr ⟨b, 0, rfl, .inr ⟨.inr (h.npb j _ _ i b hj hb), hlo.1, fun k hk => ?_⟩, fun i' row hi => ?_⟩
        · obtain ⟨k1, k2⟩ := at' k b hk
          exact k1 (h.inj k j b k2 hb)
        · rw [Nat.zero_add]
          exact RepR.mono' (fun b g => ⟨hg b g, fun _ => rfl⟩) (fun _ => rfl) (q7 i' row hi)
theorem freeze_ok {ρ : Env} {w : World} : ∀ {is : List Nat} {st : St}, PRel ρ.ds st → HRel F ρ st.hp st.sl w → Stp F ρ ρ st (st.freeze is) w w
  | [], st, hP, hH => Stp.like hP hH (.refl _)
  | i :: is, st, hP, hH => by
    simp only [St.freeze]
    split
    · rename_i j cs x hf
      obtain ⟨m, e0, hm⟩ := findR_spec hf
      have hj : j = m := by omega
      subst hj
      have k := freeze_ok (is := is) (st := { st with hp := st.hp.set j .none, sl := st.sl ++ [⟨i, cs, x⟩] }) ⟨hP.nd, hP.bd, hP.kn⟩ (hH.freeze hm)
      exact ⟨Ag.refl _ _ _ _, k.p, k.h, k.tm, k.nd, k.nv, by have := k.nh; simpa [St.nh] using this, fun _ _ _ => rfl, k.size⟩
    · exact freeze_ok hP hH
end
end
end Fx
end Go.Proofs.Ytlhnhidoljfnnaa
