/- XFd is sound: what memory holds of a state. -/
import Derived.Test.YtlhnhidoljfnnaaFd
import Derived.Laws.Cells
import Derived.Laws.IdiomCopy
import Derived.Below
namespace Go.Proofs.Ytlhnhidoljfnnaa
open Go.RowKit
namespace Fx
/-- a reading of memory, by block and place -/
abbrev Rd := Nat → Nat → Option Value
def rdW (w : World) : Rd := fun b o => w.cell? ⟨b, o, none⟩
mutual
/-- a value of a cell is some data; the slices in it lie in blocks of G -/
def RepC (rd : Rd) (G : Nat → Prop) : CT → Value → D → Prop
  | .int k, v, d => v = .int k d.int
  | .bool, v, d => v = .bool d.boo
  | .str, v, d => v = .string d.str
  | .sl cs, v, d => ∃ a c, v = .slice a d.rows.length c ∧ d.rows.length ≤ c ∧ c ≤ maxLen ∧ (d.rows.length = 0 ∨ ∃ b o, a = some ⟨b, o, none⟩ ∧ (cs = [] ∨ G b) ∧ ∀ i row, d.rows[i]? = some row → RepR rd G cs b (o + i * cs.length) row)
def RepR (rd : Rd) (G : Nat → Prop) : List CT → Nat → Nat → List D → Prop
  | [], _, _, row => row = []
  | c :: cs, b, o, row => ∃ d row', row = d :: row' ∧ (∃ v, rd b o = some v ∧ RepC rd G c v d) ∧ RepR rd G cs b (o + 1) row'
end
mutual
theorem RepC.mono {rd rd' : Rd} {G G' : Nat → Prop} (h : ∀ b, G b → G' b ∧ ∀ o, rd' b o = rd b o) : ∀ {c : CT} {v : Value} {d : D}, RepC rd G c v d → RepC rd' G' c v d
  | .int k, v, d, r => by simp only [RepC] at *; exact r
  | .bool, v, d, r => by simp only [RepC] at *; exact r
  | .str, v, d, r => by simp only [RepC] at *; exact r
  | .sl cs, v, d, r => by
    simp only [RepC] at *
    obtain ⟨a, c, h1, h2, h3, h4⟩ := r
    refine ⟨a, c, h1, h2, h3, h4.imp id fun ⟨b, o, e, g, hr⟩ => ⟨b, o, e, g.imp id fun g => (h b g).1, fun i row hi => ?_⟩⟩
    have hr := hr i row hi
    match cs, g, hr with
    | [], _, hr => simp only [RepR] at hr ⊢; exact hr
    | c :: cs, .inr g, hr => exact RepR.mono h g hr
theorem RepR.mono {rd rd' : Rd} {G G' : Nat → Prop} (h : ∀ b, G b → G' b ∧ ∀ o, rd' b o = rd b o) : ∀ {cs : List CT} {b o : Nat} {row : List D}, G b → RepR rd G cs b o row → RepR rd' G' cs b o row
  | [], b, o, row, _, r => by simp only [RepR] at *; exact r
  | c :: cs, b, o, row, g, r => by
    simp only [RepR] at *
    obtain ⟨d, row', e, ⟨v, hv, hc⟩, hr⟩ := r
    exact ⟨d, row', e, ⟨v, by rw [(h b g).2]; exact hv, RepC.mono h hc⟩, RepR.mono h g hr⟩
end
/-- rows in a block that is read as before, with slices in them in blocks of G -/
theorem RepR.mono' {rd rd' : Rd} {G G' : Nat → Prop} (h : ∀ b, G b → G' b ∧ ∀ o, rd' b o = rd b o) {b : Nat} (hb : ∀ o, rd' b o = rd b o) : ∀ {cs : List CT} {o : Nat} {row : List D}, RepR rd G cs b o row → RepR rd' G' cs b o row
  | [], o, row, r => by simp only [RepR] at *; exact r
  | c :: cs, o, row, r => by
    simp only [RepR] at *
    obtain ⟨d, row', e, ⟨v, hv, hc⟩, hr⟩ := r
    exact ⟨d, row', e, ⟨v, by rw [hb]; exact hv, RepC.mono h hc⟩, RepR.mono' h hb hr⟩
theorem RepR.len {rd : Rd} {G : Nat → Prop} : ∀ {cs : List CT} {b o : Nat} {row : List D}, RepR rd G cs b o row → row.length = cs.length
  | [], b, o, row, r => by simp only [RepR] at r; simp [r]
  | c :: cs, b, o, row, r => by
    simp only [RepR] at r
    obtain ⟨d, row', e, _, hr⟩ := r
    simp [e, RepR.len hr]
theorem RepR.at {rd : Rd} {G : Nat → Prop} : ∀ {cs : List CT} {b o : Nat} {row : List D}, RepR rd G cs b o row → ∀ (j : Nat) (c : CT), cs[j]? = some c → ∃ v, rd b (o + j) = some v ∧ RepC rd G c v (row.getD j (.i 0))
  | [], b, o, row, r, j, c, hj => by simp at hj
  | c0 :: cs, b, o, row, r, j, c, hj => by
    simp only [RepR] at r
    obtain ⟨d, row', e, ⟨v, hv, hc⟩, hr⟩ := r
    subst e
    cases j with
    | zero => simp at hj; subst hj; exact ⟨v, hv, by simpa using hc⟩
    | succ j =>
      simp at hj
      obtain ⟨v', h1, h2⟩ := RepR.at hr j c hj
      exact ⟨v', by rwa [show o + (j + 1) = o + 1 + j by omega], by simpa using h2⟩
/-- the package-level variables hold what is told of them, and are none of these blocks -/
def Gl (w : World) (pb ob : List Nat) : Prop := ∀ p ∈ gtab, p.1 < w.heap.size ∧ p.1 ∉ pb ∧ p.1 ∉ ob ∧ ∀ o v, p.2[o]? = some v → w.cell? ⟨p.1, o, none⟩ = some v
theorem gl_none (h : gtab = []) {w : World} {pb ob : List Nat} : Gl w pb ob := fun p hp => by rw [h] at hp; cases hp
/-- from where a function has been entered: the world, the blocks that its pointers name, those in which its slices lie -/
structure Fr where
  w0 : World
  pb : List Nat
  ob : List Nat
  G : Nat → Prop
  gl : Gl w0 pb ob
/-- a block that is new, or has been handed in to be used up -/
def Fr.own (F : Fr) (b : Nat) : Prop := F.w0.heap.size ≤ b ∨ b ∈ F.ob
structure Fr.Ok (F : Fr) : Prop where
  gl : ∀ b, F.G b → b < F.w0.heap.size ∧ b ∉ F.pb
  pl : ∀ b ∈ F.pb, b < F.w0.heap.size
/-- the block of a slice that has room -/
def roomAt : Value → Option Nat
  | .slice (some a) _ (_ + 1) => some a.block
  | _ => none
def blkOf (ρ : Env) (j : Nat) : Blk → Option Nat
  | .fix _ _ => some (ρ.β j)
  | .rows _ _ h => roomAt (ρ.vs h)
  | .none => none
def blkAt (ρ : Env) (hp : List Blk) (j : Nat) : Option Nat := match hp[j]? with
  | some b => blkOf ρ j b
  | none => none
/-- a block that nobody writes -/
def Gd (F : Fr) (ρ : Env) (hp : List Blk) (w : World) (b : Nat) : Prop := (F.G b ∨ F.own b) ∧ b < w.heap.size ∧ ∀ j, blkAt ρ hp j ≠ some b
def Owns (w : World) (G : Nat → Prop) (cs : List CT) (v : Value) (rows : List (List D)) : Prop :=
  (∃ a, v = .slice a 0 0 ∧ rows = []) ∨ ∃ b cp, v = .slice (some ⟨b, 0, none⟩) rows.length cp ∧ 0 < cp ∧ rows.length ≤ cp ∧ cp ≤ maxLen ∧ (∀ o, o < cp * cs.length → (w.cell? ⟨b, o, none⟩).isSome) ∧ (∀ o, w.frozen? ⟨b, o, none⟩ = false) ∧ ∀ i row, rows[i]? = some row → RepR (rdW w) G cs b (i * cs.length) row
/-- what is outside memory is as it was -/
structure Io (w w' : World) : Prop where
  os : w'.os = w.os
  tape : w'.tape = w.tape
  output : w'.output = w.output
theorem Io.refl (w : World) : Io w w := ⟨rfl, rfl, rfl⟩
theorem Io.trans {a b c : World} (h : Io a b) (k : Io b c) : Io a c := ⟨k.os.trans h.os, k.tape.trans h.tape, k.output.trans h.output⟩
structure HRel (F : Fr) (ρ : Env) (hp : List Blk) (sl : List Ent) (w : World) : Prop where
  size : F.w0.heap.size ≤ w.heap.size
  keep : ∀ b, ¬ F.own b → b ∉ F.pb → w.heap[b]? = F.w0.heap[b]?
  lo : ∀ j b, blkAt ρ hp j = some b → b < w.heap.size ∧ (F.own b ∨ b ∈ F.pb)
  npb : ∀ (j : Nat) (cs : List CT) (x : X) (h : Nat) (b : Nat), hp[j]? = some (Blk.rows cs x h) → blkAt ρ hp j = some b → F.own b
  inj : ∀ j k b, blkAt ρ hp j = some b → blkAt ρ hp k = some b → j = k
  fix : ∀ (j : Nat) (cells : List SV) (wr : Bool), hp[j]? = some (Blk.fix cells wr) → ∀ (o : Nat) (x : SV), cells[o]? = some x → x.isUnd = false → w.cell? ⟨ρ.β j, o, none⟩ = some (x.den ρ)
  has : ∀ (j : Nat) (cells : List SV) (wr : Bool), hp[j]? = some (Blk.fix cells wr) → ∀ (o : Nat), o < cells.length → (w.cell? ⟨ρ.β j, o, none⟩).isSome
  frz : ∀ (j : Nat) (cells : List SV), hp[j]? = some (Blk.fix cells true) → ∀ (o : Nat), w.frozen? ⟨ρ.β j, o, none⟩ = false
  rows : ∀ (j : Nat) (cs : List CT) (x : X) (h : Nat), hp[j]? = some (Blk.rows cs x h) → Owns w (Gd F ρ hp w) cs (ρ.vs h) (x.den ρ.ds).rows
  imm : ∀ e ∈ sl, RepC (rdW w) (Gd F ρ hp w) (.sl e.cs) (ρ.vs e.i) (e.x.den ρ.ds)
  io : Io F.w0 w
theorem Fr.glob (F : Fr) {p : Nat × List Value} (hp : p ∈ gtab) : ¬ F.own p.1 ∧ p.1 ∉ F.pb := by
  obtain ⟨h1, h2, h3, _⟩ := F.gl p hp
  exact ⟨fun q => q.elim (fun q => absurd h1 (Nat.not_lt.2 q)) h3, h2⟩
theorem HRel.glob {F : Fr} {ρ : Env} {hp : List Blk} {sl : List Ent} {w : World} (h : HRel F ρ hp sl w) {p : Nat × List Value} (hg : p ∈ gtab) {o : Nat} {v : Value} (hv : p.2[o]? = some v) : w.cell? ⟨p.1, o, none⟩ = some v := by
  obtain ⟨k1, k2⟩ := F.glob hg
  rw [World.cell?_of_block (a := ⟨p.1, o, none⟩) (h.keep p.1 k1 k2)]
  exact (F.gl p hg).2.2.2 o v hv
theorem HRel.gl {F : Fr} {ρ : Env} {hp : List Blk} {sl : List Ent} {w : World} (h : HRel F ρ hp sl w) {pb ob : List Nat} (h1 : ∀ b ∈ pb, F.own b ∨ b ∈ F.pb) (h2 : ∀ b ∈ ob, F.own b ∨ b ∈ F.pb) : Gl w pb ob := fun p hg => by
  obtain ⟨k1, k2⟩ := F.glob hg
  exact ⟨Nat.lt_of_lt_of_le (F.gl p hg).1 h.size, fun q => (h1 _ q).elim k1 k2, fun q => (h2 _ q).elim k1 k2, fun o v hv => h.glob hg hv⟩
theorem of1_den (ρ : Env) : ∀ (v : Value), (of1 v).den ρ = v := fun v => by cases v <;> simp [of1, SV.den, X.den, D.int, D.boo, D.str]
theorem of1_und : ∀ (v : Value), (of1 v).isUnd = false := fun v => by cases v <;> rfl
theorem Fr.lt_of (F : Fr) {b : Nat} (h : ¬ F.own b) : b < F.w0.heap.size := Nat.lt_of_not_le fun q => h (.inl q)
structure PRel (ρ : List D) (st : St) : Prop where
  nd : ρ.length = st.nd
  bd : BdOk ρ st.bd
  kn : ∀ p ∈ st.kn, (p.1.den ρ).boo = p.2
/-- the same up to so many data, slices and blocks -/
structure Ag (nd nv nh : Nat) (ρ ρ' : Env) : Prop where
  ds : AgD nd ρ.ds ρ'.ds
  vs : ∀ i, i < nv → ρ'.vs i = ρ.vs i
  β : ∀ i, i < nh → ρ'.β i = ρ.β i
theorem Ag.refl (nd nv nh : Nat) (ρ : Env) : Ag nd nv nh ρ ρ := ⟨AgD.refl _ _, fun _ _ => rfl, fun _ _ => rfl⟩
theorem Ag.trans {a b c a' b' c' : Nat} {ρ ρ' ρ'' : Env} (h : Ag a b c ρ ρ') (k : Ag a' b' c' ρ' ρ'') (h1 : a ≤ a') (h2 : b ≤ b') (h3 : c ≤ c') : Ag a b c ρ ρ'' :=
  ⟨fun i hi => (k.ds i (by omega)).trans (h.ds i hi), fun i hi => (k.vs i (by omega)).trans (h.vs i hi), fun i hi => (k.β i (by omega)).trans (h.β i hi)⟩
mutual
theorem SV.den_ag {nd nv nh : Nat} {ρ ρ' : Env} (hl : Ag nd nv nh ρ ρ') : ∀ {x : SV}, x.sc nd nv nh = true → x.den ρ' = x.den ρ
  | .int k e, h | .bool e, h | .str e, h => by simp only [SV.sc] at h; simp only [SV.den, X.den_ag hl.ds h]
  | .con v, _ => by simp only [SV.den]
  | .var i, h => by simp only [SV.sc, decide_eq_true_eq] at h; simp only [SV.den, hl.vs i h]
  | .el i e n o, h => by simp only [SV.sc, Bool.and_eq_true, decide_eq_true_eq] at h; simp only [SV.den, hl.vs i h.1, X.den_ag hl.ds h.2]
  | .pel i o e l, h => by simp only [SV.sc, Bool.and_eq_true, decide_eq_true_eq] at h; simp only [SV.den, hl.β i h.1, X.den_ag hl.ds h.2]
  | .ptr i o, h | .row i o l c, h => by simp only [SV.sc, decide_eq_true_eq] at h; simp only [SV.den, hl.β i h]
  | .agg l, h | .tuple l, h => by simp only [SV.sc] at h; simp only [SV.den, SV.dens_ag hl h]
  | .fn f x c, h => by simp only [SV.sc, Bool.and_eq_true] at h; simp only [SV.den, SV.dens_ag hl h.1, SV.dens_ag hl h.2]
  | .und, h => by simp [SV.sc] at h
theorem SV.dens_ag {nd nv nh : Nat} {ρ ρ' : Env} (hl : Ag nd nv nh ρ ρ') : ∀ {x : List SV}, SV.scs nd nv nh x = true → SV.dens ρ' x = SV.dens ρ x
  | [], _ => by simp only [SV.dens]
  | x :: xs, h => by simp only [SV.scs, Bool.and_eq_true] at h; simp only [SV.dens, SV.den_ag hl h.1, SV.dens_ag hl h.2]
end
theorem dens_eq (ρ : Env) : ∀ l, SV.dens ρ l = l.map (SV.den ρ)
  | [] => by simp [SV.dens]
  | x :: xs => by simp [SV.dens, dens_eq ρ xs]
theorem scs_eq (a v c : Nat) : ∀ l, SV.scs a v c l = l.all (SV.sc a v c)
  | [] => by simp [SV.scs]
  | x :: xs => by simp [SV.scs, scs_eq a v c xs]
theorem dens_get {ρ : Env} {l : List SV} {j : Nat} : (SV.dens ρ l)[j]? = (l[j]?).map (SV.den ρ) := by simp [dens_eq]
theorem dens_len {ρ : Env} {l : List SV} : (SV.dens ρ l).length = l.length := by simp [dens_eq]
theorem xdens_eq (ρ : List D) : ∀ l, X.dens ρ l = l.map (X.den ρ)
  | [] => by simp [X.dens]
  | x :: xs => by simp [X.dens, xdens_eq ρ xs]
theorem xdenss_eq (ρ : List D) : ∀ l, X.denss ρ l = l.map (X.dens ρ)
  | [] => by simp [X.denss]
  | x :: xs => by simp [X.denss, xdenss_eq ρ xs]
def HSc (nd nv : Nat) (hp : List Blk) : Prop := ∀ b ∈ hp, b.sc nd nv hp.length = true
theorem HSc.at {nd nv : Nat} {hp : List Blk} (h : HSc nd nv hp) {j : Nat} {b : Blk} (hj : hp[j]? = some b) : b.sc nd nv hp.length = true := h b (List.mem_of_getElem? hj)
theorem lt_of_get {α : Type} {l : List α} {j : Nat} {b : α} (h : l[j]? = some b) : j < l.length := by
  rcases Nat.lt_or_ge j l.length with k | k
  · exact k
  · rw [List.getElem?_eq_none k] at h; cases h
theorem blkAt_ag {nd nv : Nat} {hp : List Blk} {ρ ρ' : Env} (hs : HSc nd nv hp) (hl : Ag nd nv hp.length ρ ρ') (j : Nat) : blkAt ρ' hp j = blkAt ρ hp j := by
  unfold blkAt
  split
  · rename_i b hb
    have k := hs.at hb
    cases b with
    | fix c w => simp only [blkOf, hl.β j (lt_of_get hb)]
    | rows cs x h =>
      simp only [Blk.sc, Bool.and_eq_true, decide_eq_true_eq] at k
      simp only [blkOf, hl.vs h k.2]
    | none => rfl
  · rfl
theorem blkAt_lt {ρ : Env} {hp : List Blk} {j b : Nat} (h : blkAt ρ hp j = some b) : j < hp.length := by
  unfold blkAt at h
  split at h
  · rename_i hb; exact lt_of_get hb
  · cases h
theorem blkAt_fix {ρ : Env} {hp : List Blk} {j : Nat} {c : List SV} {w : Bool} (h : hp[j]? = some (.fix c w)) : blkAt ρ hp j = some (ρ.β j) := by simp only [blkAt, h, blkOf]
theorem blkAt_rows {ρ : Env} {hp : List Blk} {j : Nat} {cs : List CT} {x : X} {h : Nat} (k : hp[j]? = some (.rows cs x h)) : blkAt ρ hp j = roomAt (ρ.vs h) := by simp only [blkAt, k, blkOf]
theorem Gd.ag {F : Fr} {nd nv : Nat} {hp : List Blk} {ρ ρ' : Env} {w : World} (hs : HSc nd nv hp) (hl : Ag nd nv hp.length ρ ρ') : Gd F ρ' hp w = Gd F ρ hp w := by
  funext b
  simp only [Gd, blkAt_ag hs hl]
theorem HRel.ag {F : Fr} {nd nv : Nat} {hp : List Blk} {sl : List Ent} {ρ ρ' : Env} {w : World} (hs : HSc nd nv hp) (hse : ∀ e ∈ sl, e.i < nv ∧ e.x.sc nd = true) (hl : Ag nd nv hp.length ρ ρ') (h : HRel F ρ hp sl w) : HRel F ρ' hp sl w := by
  refine ⟨h.size, h.keep, fun j b k => h.lo j b (by rwa [blkAt_ag hs hl] at k), fun j cs x hh b h1 h2 => h.npb j cs x hh b h1 (by rwa [blkAt_ag hs hl] at h2), fun j k b h1 h2 => h.inj j k b (by rwa [blkAt_ag hs hl] at h1) (by rwa [blkAt_ag hs hl] at h2), fun j cells wr hj o x hx hu => ?_, fun j cells wr hj o ho => by rw [hl.β j (lt_of_get hj)]; exact h.has j cells wr hj o ho, fun j cells hj o => by rw [hl.β j (lt_of_get hj)]; exact h.frz j cells hj o, fun j cs x hh hj => ?_, fun e he => ?_, h.io⟩
  · have k := hs.at hj
    simp only [Blk.sc, List.all_eq_true] at k
    have k := k x (List.mem_of_getElem? hx)
    rw [hu, Bool.false_or] at k
    rw [hl.β j (lt_of_get hj), SV.den_ag hl k]
    exact h.fix j cells wr hj o x hx hu
  · have k := hs.at hj
    simp only [Blk.sc, Bool.and_eq_true, decide_eq_true_eq] at k
    rw [Gd.ag hs hl, hl.vs hh k.2, X.den_ag hl.ds k.1]
    exact h.rows j cs x hh hj
  · obtain ⟨k1, k2⟩ := hse e he
    rw [Gd.ag hs hl, hl.vs e.i k1, X.den_ag hl.ds k2]
    exact h.imm e he
theorem Gd.of {F : Fr} {ρ ρ' : Env} {hp hp' : List Blk} {w w' : World} (hz : w.heap.size ≤ w'.heap.size) (hb : ∀ j b, blkAt ρ' hp' j = some b → b < w.heap.size → ∃ k, blkAt ρ hp k = some b) (b : Nat) (h : Gd F ρ hp w b) : Gd F ρ' hp' w' b :=
  ⟨h.1, Nat.lt_of_lt_of_le h.2.1 hz, fun j e => by obtain ⟨k, hk⟩ := hb j b e h.2.1; exact h.2.2 k hk⟩
/-- blocks that are as they were are read as they were -/
theorem rd_of_block {w w' : World} {b : Nat} (h : w'.heap[b]? = w.heap[b]?) (o : Nat) : rdW w' b o = rdW w b o := World.cell?_of_block (a := ⟨b, o, none⟩) h
theorem Owns.mono {w w' : World} {G G' : Nat → Prop} {cs : List CT} {v : Value} {rows : List (List D)} (h : ∀ b, G b → G' b ∧ w'.heap[b]? = w.heap[b]?) (hv : ∀ b, roomAt v = some b → w'.heap[b]? = w.heap[b]?) (k : Owns w G cs v rows) : Owns w' G' cs v rows := by
  rcases k with k | ⟨b, cp, h1, h2, h3, h4, h5, h6, h7⟩
  · exact .inl k
  · have hb : w'.heap[b]? = w.heap[b]? := hv b (by rw [h1]; obtain ⟨c, rfl⟩ := Nat.exists_eq_succ_of_ne_zero (Nat.pos_iff_ne_zero.1 h2); rfl)
    refine .inr ⟨b, cp, h1, h2, h3, h4, fun o ho => by rw [World.cell?_of_block (a := ⟨b, o, none⟩) hb]; exact h5 o ho, fun o => by rw [World.frozen?_of_block (a := ⟨b, o, none⟩) hb]; exact h6 o, fun i row hi => ?_⟩
    exact RepR.mono' (fun b' g => ⟨(h b' g).1, fun o => rd_of_block (h b' g).2 o⟩) (rd_of_block hb) (h7 i row hi)
theorem addr_add (b o n : Nat) : (⟨b, o, none⟩ : Addr).add n = ⟨b, o + n, none⟩ := by
  unfold Addr.add
  split
  · rename_i e; subst e; rfl
  · rfl
theorem addr_add_add (a : Addr) (m n : Nat) : (a.add m).add n = a.add (m + n) := by
  unfold Addr.add
  by_cases h : m = 0
  · subst h; simp
  · by_cases k : n = 0
    · subst k; simp [h]
    · simp [h, k, Nat.add_assoc]
/-- memory where only what lies behind it, or is newly made, has changed; the blocks of the state are those that there were -/
theorem HRel.same {F : Fr} {ρ : Env} {hp : List Blk} {sl : List Ent} {w w' : World} (h : HRel F ρ hp sl w) (hz : w.heap.size ≤ w'.heap.size) (hk : ∀ b, b < w.heap.size → w'.heap[b]? = w.heap[b]?) (io : Io w w') : HRel F ρ hp sl w' := by
  have hg : ∀ b, Gd F ρ hp w b → Gd F ρ hp w' b ∧ w'.heap[b]? = w.heap[b]? := fun b g => ⟨Gd.of hz (fun j b hj _ => ⟨j, hj⟩) b g, hk b g.2.1⟩
  refine ⟨Nat.le_trans h.size hz, fun b h1 h2 => by rw [hk b (Nat.lt_of_lt_of_le (F.lt_of h1) h.size)]; exact h.keep b h1 h2, fun j b hj => ⟨Nat.lt_of_lt_of_le (h.lo j b hj).1 hz, (h.lo j b hj).2⟩, h.npb, h.inj, fun j cells wr hj o x hx hu => ?_, fun j cells wr hj o ho => ?_, fun j cells hj o => ?_, fun j cs x hh hj => (h.rows j cs x hh hj).mono hg fun b hb => hk b (h.lo j b (by rw [blkAt_rows hj]; exact hb)).1, fun e he => RepC.mono (fun b g => ⟨(hg b g).1, fun o => rd_of_block (hg b g).2 o⟩) (h.imm e he), h.io.trans io⟩
  · rw [World.cell?_of_block (hk _ (h.lo j _ (blkAt_fix hj)).1)]; exact h.fix j cells wr hj o x hx hu
  · rw [World.cell?_of_block (hk _ (h.lo j _ (blkAt_fix hj)).1)]; exact h.has j cells wr hj o ho
  · rw [World.frozen?_of_block (hk _ (h.lo j _ (blkAt_fix hj)).1)]; exact h.frz j cells hj o
theorem HRel.drew {F : Fr} {ρ : Env} {hp : List Blk} {sl : List Ent} {w : World} (h : HRel F ρ hp sl w) : HRel F ρ hp sl w.drew := h.same (Nat.le_refl _) (fun _ _ => rfl) ⟨rfl, rfl, rfl⟩
end Fx
end Go.Proofs.Ytlhnhidoljfnnaa
