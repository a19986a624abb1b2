/- XSym's operations are sound: memory, cases, and each operation that is no call. -/
import Derived.Test.YthfagiihfkjamaaSymA
import Derived.Laws.Cells
import Derived.Below
namespace Go.Proofs.Ythfagiihfkjamaa
open Go.RowKit
namespace Sym
/-- a condition on the world, and the blocks (from n0 on) of which it speaks -/
structure Sp where
  S : World → Prop
  bad : Nat → Prop
/-- a condition that a call keeps, whatever it makes, and writes elsewhere from block n0 on -/
structure Inv (n0 : Nat) (s : Sp) : Prop where
  size : ∀ {w}, s.S w → n0 ≤ w.heap.size
  alloc : ∀ {w}, s.S w → ∀ o, s.S (w.alloc o)
  set : ∀ {w}, s.S w → ∀ g o v, n0 ≤ g → ¬ s.bad g → s.S (w.setCell ⟨g, o, none⟩ v)
  drew : ∀ {w}, s.S w → s.S w.drew
  lt : ∀ {w}, s.S w → ∀ g, s.bad g → g < w.heap.size
/-- more is known, and of more blocks -/
def Sp.le (s s' : Sp) : Prop := (∀ w, s'.S w → s.S w) ∧ ∀ g, s.bad g → s'.bad g
theorem Sp.le_refl (s : Sp) : s.le s := ⟨fun _ h => h, fun _ h => h⟩
theorem Sp.le_trans {a b c : Sp} (h : a.le b) (k : b.le c) : a.le c := ⟨fun w q => h.1 w (k.1 w q), fun g q => k.2 g (h.2 g q)⟩
/-- nothing below has changed -/
def spB (w : World) : Sp := ⟨Below w.heap.size w, fun _ => False⟩
theorem inv_below (w : World) : Inv w.heap.size (spB w) where
  size h := h.size
  alloc h o := Below.alloc h h.size o
  set h g o v hg _ := Below.setCell h (p := ⟨g, o, none⟩) hg v
  drew h := Below.drew h
  lt _ _ h := h.elim
/-- the blocks of a state lie at the places of a list, and hold what it says -/
structure HRel (s : Sp) (n0 : Nat) (ρ : Env) (β : List Nat) (hp : List Blk) (w : World) : Prop where
  inv : s.S w
  len : β.length = hp.length
  lo : ∀ b ∈ β, n0 ≤ b ∧ b < w.heap.size ∧ ¬ s.bad b
  inj : β.Nodup
  cells : ∀ i blk, hp[i]? = some blk → ∀ j v, blk.cells[j]? = some v → w.cell? ⟨β.getD i 0, j, none⟩ = some (v.den ρ β)
  frz : ∀ i blk, hp[i]? = some blk → blk.wr = true → ∀ j, w.frozen? ⟨β.getD i 0, j, none⟩ = false
/-- slices of the lengths that are told -/
def SlOk (is : List Int) (vs : List Value) (sl : List (Nat × E)) : Prop := ∀ p ∈ sl, ∃ a n c, vs.getD p.1 undef = .slice a n c ∧ (n : Int) = p.2.den ⟨is, [], []⟩ ∧ (0 < n → a.isSome = true)
def SkOk (vs : List Value) (sk : List Nat) : Prop := ∀ i ∈ sk, scalarV (vs.getD i undef) = true
structure PRel (ρ : Env) (st : St) : Prop where
  ni : ρ.is.length = st.ni
  nb : ρ.bs.length = st.nb
  nv : ρ.vs.length = st.nv
  bd : BdOk ρ st.bd
  kn : ∀ p ∈ st.kn, p.1.den ρ = p.2
  sl : SlOk ρ.is ρ.vs st.sl
  sk : SkOk ρ.vs st.sk
/-- what is new fits what is told of it -/
structure NewOk (n : New) (is : List Int) (bs : List Bool) (vs : List Value) : Prop where
  ni : is.length = n.ni
  nb : bs.length = n.nb
  nv : vs.length = n.nv
  bd : BdOk ⟨is, [], []⟩ n.bd
  sl : SlOk is vs n.sl
  sk : SkOk vs n.sk
/-- what a contract says of its call -/
def Got (s : Sp) (β : List Nat) (w : World) (R : Value → Prop) : Ending → World → Prop :=
  fun e w' => ∃ v, e = .returned v ∧ R v ∧ s.S w' ∧ w.heap.size ≤ w'.heap.size ∧ ∀ b, b ∈ β → w'.heap[b]? = w.heap[b]?
def GotAny (s0 : Sp) (n0 : Nat) (n : New) (ρ : Env) (sh : SV) (β : List Nat) (w : World) (R : List Int → List Bool → List Value → Sp → Prop) : Ending → World → Prop :=
  fun e w' => ∃ is bs vs s, NewOk n is bs vs ∧ R is bs vs s ∧ Inv n0 s ∧ s0.le s ∧ e = .returned (sh.den (ρ.ext is bs vs) []) ∧ s.S w' ∧ (∀ b, b ∈ β → ¬ s.bad b) ∧ w.heap.size ≤ w'.heap.size ∧ ∀ b, b ∈ β → w'.heap[b]? = w.heap[b]?
abbrev Inva := Nat → List Int → List Bool → List Value → Sp → Prop
def Inva.upd (A : Inva) (id : Nat) (X : List Int → List Bool → List Value → Sp → Prop) : Inva := fun j => if j = id then X else A j
def T.holds {α : Type} (P : Program) (n0 : Nat) : T α → Sp → Env → Inva → (α → Env → Sp → Prop) → Prop
  | .ret a, s, ρ, _, Q => Q a ρ s
  | .ite b x y, s, ρ, A, Q => (b.den ρ = true → x.holds P n0 s ρ A Q) ∧ (b.den ρ = false → y.holds P n0 s ρ A Q)
  | .need b x, s, ρ, A, Q => b.den ρ = true ∧ x.holds P n0 s ρ A Q
  | .both x y, s, ρ, A, Q => x.holds P n0 s ρ A Q ∧ y.holds P n0 s ρ A Q
  | .call true f args hp sh n x, s, ρ, A, Q => ∃ is bs vs, NewOk n is bs vs ∧
      (∀ β w, HRel s n0 ρ β hp w → Calls P f (SV.dens ρ β args).toArray w (Got s β w (· = sh.den (ρ.ext is bs vs) []))) ∧ x.holds P n0 s (ρ.ext is bs vs) A Q
  | .call false f args hp sh n x, s, ρ, A, Q => ∃ R : List Int → List Bool → List Value → Sp → Prop,
      (∀ β w, HRel s n0 ρ β hp w → Calls P f (SV.dens ρ β args).toArray w (GotAny s n0 n ρ sh β w R)) ∧
      ∀ is bs vs s', NewOk n is bs vs → Inv n0 s' → s.le s' → R is bs vs s' → x.holds P n0 s' (ρ.ext is bs vs) A Q
  | .get i e o ks hp x, s, ρ, A, Q => ∃ is bs vs, (is.length, bs.length, vs.length) = countS ks ∧ BdOk ⟨is, [], []⟩ (ckBd ks) ∧
      (∀ β w, HRel s n0 ρ β hp w → ∀ j v, (freshS ρ.is.length ρ.bs.length ρ.vs.length ks)[j]? = some v → ∃ a n c, ρ.vs.getD i undef = .slice (some a) n c ∧ w.cell? (a.add ((e.den ρ).toNat + o + j)) = some (v.den (ρ.ext is bs vs) [])) ∧
      x.holds P n0 s (ρ.ext is bs vs) A Q
  | .loop id is0 bs0 vs0 n x, s, ρ, A, Q => ∃ (I : List Int → List Bool → List Value → Sp → Prop) (μ : List Int → List Bool → List Value → Nat), I (is0.map (E.den ρ)) (bs0.map (B.den ρ)) (vs0.map (SV.den ρ [])) s ∧
      (∀ is bs vs s', I is bs vs s' → BdOk ⟨is, [], []⟩ n.bd ∧ s.le s') ∧
      ∀ is bs vs js s', NewOk n is bs vs → js.length = n.nj → Inv n0 s' → I is bs vs s' → x.holds P n0 s' (ρ.ext is bs (vs ++ js)) (A.upd id fun is' bs' vs' s'' => I is' bs' vs' s'' ∧ μ is' bs' vs' < μ is bs vs) Q
  | .again id is bs vs, s, ρ, A, _ => A id (is.map (E.den ρ)) (bs.map (B.den ρ)) (vs.map (SV.den ρ [])) s
  | .fail _, _, _, _, _ => False
section
variable {P : Program} {s : Sp} {n0 : Nat} {A : Inva}
def Same {α : Type} (t : T α) (A A' : Inva) : Prop := ∀ j, t.noId j = true → A' j = A j
theorem holds_mono {α : Type} : ∀ {t : T α} {s : Sp} {ρ : Env} {A : Inva} {Q Q' : α → Env → Sp → Prop}, (∀ a ρ s, Q a ρ s → Q' a ρ s) → t.holds P n0 s ρ A Q → t.holds P n0 s ρ A Q' := by
  intro t
  induction t with
  | ret a => intro s ρ A Q Q' hq h; exact hq _ _ _ h
  | ite b x y ix iy => intro s ρ A Q Q' hq h; exact ⟨fun e => ix hq (h.1 e), fun e => iy hq (h.2 e)⟩
  | need b x ih => intro s ρ A Q Q' hq h; exact ⟨h.1, ih hq h.2⟩
  | both x y ix iy => intro s ρ A Q Q' hq h; exact ⟨ix hq h.1, iy hq h.2⟩
  | call t f args hp sh n x ih =>
    intro s ρ A Q Q' hq h
    cases t with
    | true => obtain ⟨is, bs, vs, h1, h2, h3⟩ := h; exact ⟨is, bs, vs, h1, h2, ih hq h3⟩
    | false => obtain ⟨R, h1, h2⟩ := h; exact ⟨R, h1, fun is bs vs s' a b c d => ih hq (h2 is bs vs s' a b c d)⟩
  | get i e o ks hp x ih => intro s ρ A Q Q' hq h; obtain ⟨is, bs, vs, h1, h2, h3, h4⟩ := h; exact ⟨is, bs, vs, h1, h2, h3, ih hq h4⟩
  | loop id is0 bs0 vs0 n x ih => intro s ρ A Q Q' hq h; obtain ⟨I, μ, h1, h2, h3⟩ := h; exact ⟨I, μ, h1, h2, fun is bs vs js s' a b c d => ih hq (h3 is bs vs js s' a b c d)⟩
  | again id is bs vs => intro s ρ A Q Q' _ h; exact h
  | fail n => intro s ρ A Q Q' _ h; exact h
theorem bind_up {α γ : Type} (k : α → T γ) : ∀ {t : T α} {s : Sp} {ρ : Env} {A : Inva} {Q : γ → Env → Sp → Prop}, (t.bind k).holds P n0 s ρ A Q → t.holds P n0 s ρ A fun a ρ' s' => ∃ A', Same t A A' ∧ (k a).holds P n0 s' ρ' A' Q := by
  intro t
  induction t with
  | ret a => intro s ρ A Q h; exact ⟨A, fun _ _ => rfl, h⟩
  | ite b x y ix iy =>
    intro s ρ A Q h
    exact ⟨fun e => holds_mono (fun a ρ s ⟨A', h1, h2⟩ => ⟨A', fun j hj => h1 j (by simp only [T.noId, Bool.and_eq_true] at hj; exact hj.1), h2⟩) (ix (h.1 e)),
      fun e => holds_mono (fun a ρ s ⟨A', h1, h2⟩ => ⟨A', fun j hj => h1 j (by simp only [T.noId, Bool.and_eq_true] at hj; exact hj.2), h2⟩) (iy (h.2 e))⟩
  | need b x ih => intro s ρ A Q h; exact ⟨h.1, ih h.2⟩
  | both x y ix iy =>
    intro s ρ A Q h
    exact ⟨holds_mono (fun a ρ s ⟨A', h1, h2⟩ => ⟨A', fun j hj => h1 j (by simp only [T.noId, Bool.and_eq_true] at hj; exact hj.1), h2⟩) (ix h.1),
      holds_mono (fun a ρ s ⟨A', h1, h2⟩ => ⟨A', fun j hj => h1 j (by simp only [T.noId, Bool.and_eq_true] at hj; exact hj.2), h2⟩) (iy h.2)⟩
  | call t f args hp sh n x ih =>
    intro s ρ A Q h
    cases t with
    | true => obtain ⟨is, bs, vs, h1, h2, h3⟩ := h; exact ⟨is, bs, vs, h1, h2, ih h3⟩
    | false => obtain ⟨R, h1, h2⟩ := h; exact ⟨R, h1, fun is bs vs s' a b c d => ih (h2 is bs vs s' a b c d)⟩
  | get i e o ks hp x ih => intro s ρ A Q h; obtain ⟨is, bs, vs, h1, h2, h3, h4⟩ := h; exact ⟨is, bs, vs, h1, h2, h3, ih h4⟩
  | loop id is0 bs0 vs0 n x ih =>
    intro s ρ A Q h
    obtain ⟨I, μ, h1, h2, h3⟩ := h
    refine ⟨I, μ, h1, h2, fun is bs vs js s' a b c d => holds_mono (fun a ρ s ⟨A', h1, h2⟩ => ⟨A', fun j hj => ?_, h2⟩) (ih (h3 is bs vs js s' a b c d))⟩
    simp only [T.noId, Bool.and_eq_true, bne_iff_ne, ne_eq] at hj
    rw [h1 j hj.2, Inva.upd, if_neg (fun e => hj.1 e.symm)]
  | again id is bs vs => intro s ρ A Q h; exact h
  | fail n => intro s ρ A Q h; exact h
theorem bind_dn {α γ : Type} (k : α → T γ) {t : T α} {s : Sp} {ρ : Env} {A : Inva} {Q : γ → Env → Sp → Prop} (h : (t.bind k).holds P n0 s ρ A Q) : t.holds P n0 s ρ A fun a ρ' s' => ∃ A', (k a).holds P n0 s' ρ' A' Q :=
  holds_mono (fun _ _ _ ⟨A', _, h⟩ => ⟨A', h⟩) (bind_up k h)
structure Like (st st' : St) : Prop where
  tm : st'.tm = st.tm
  hp : st'.hp = st.hp
  ni : st'.ni = st.ni
  nb : st'.nb = st.nb
  nv : st'.nv = st.nv
  sk : st'.sk = st.sk
theorem Like.refl (st : St) : Like st st := ⟨rfl, rfl, rfl, rfl, rfl, rfl⟩
theorem Like.trans {a b c : St} (h : Like a b) (k : Like b c) : Like a c := ⟨k.tm.trans h.tm, k.hp.trans h.hp, k.ni.trans h.ni, k.nb.trans h.nb, k.nv.trans h.nv, k.sk.trans h.sk⟩
theorem seek_ok {ρ : Env} {b : B} {t : Bool} : ∀ {l : List (B × Bool)}, (∀ p ∈ l, p.1.den ρ = p.2) → seek b l = some t → b.den ρ = t
  | [], _, h => by simp [seek] at h
  | (c, u) :: l, hk, h => by
    simp only [seek] at h
    split at h
    · rename_i e
      subst e
      injection h with h
      subst h
      exact hk (b, u) (by simp)
    · exact seek_ok (fun p hp => hk p (by simp [hp])) h
theorem tell_rel {ρ : Env} {st : St} (h : PRel ρ st) {b : B} {t : Bool} (hb : b.den ρ = t) : PRel ρ (st.tell b t) :=
  ⟨h.ni, h.nb, h.nv, tell_ok h.bd hb, fun p hp => by
    simp only [St.tell, List.mem_cons] at hp
    rcases hp with rfl | hp
    · exact hb
    · exact h.kn p hp, h.sl, h.sk⟩
theorem tell_like (st : St) (b : B) (t : Bool) : Like st (st.tell b t) := ⟨rfl, rfl, rfl, rfl, rfl, rfl⟩
theorem tIte_holds {α : Type} {ρ : Env} {st : St} {b : B} {x y : St → T α} {Q : α → Env → Sp → Prop} (hP : PRel ρ st) (h : (tIte st b x y).holds P n0 s ρ A Q) :
    ∃ st', PRel ρ st' ∧ Like st st' ∧ ((b.den ρ = true ∧ (x st').holds P n0 s ρ A Q) ∨ (b.den ρ = false ∧ (y st').holds P n0 s ρ A Q)) := by
  unfold tIte at h
  split at h
  · exact ⟨st, hP, .refl _, .inl ⟨rfl, h⟩⟩
  · exact ⟨st, hP, .refl _, .inr ⟨rfl, h⟩⟩
  · rename_i b
    split at h
    · rename_i k
      exact ⟨st, hP, .refl _, .inr ⟨by simp [B.den, seek_ok hP.kn k], h⟩⟩
    · rename_i k
      exact ⟨st, hP, .refl _, .inl ⟨by simp [B.den, seek_ok hP.kn k], h⟩⟩
    · simp only [T.holds] at h
      cases e : b.den ρ with
      | true => exact ⟨_, tell_rel hP e, tell_like _ _ _, .inr ⟨by simp [B.den, e], h.1 e⟩⟩
      | false => exact ⟨_, tell_rel hP e, tell_like _ _ _, .inl ⟨by simp [B.den, e], h.2 e⟩⟩
  · split at h
    · rename_i k
      exact ⟨st, hP, .refl _, .inl ⟨seek_ok hP.kn k, h⟩⟩
    · rename_i k
      exact ⟨st, hP, .refl _, .inr ⟨seek_ok hP.kn k, h⟩⟩
    · simp only [T.holds] at h
      cases e : b.den ρ with
      | true => exact ⟨_, tell_rel hP e, tell_like _ _ _, .inl ⟨rfl, h.1 e⟩⟩
      | false => exact ⟨_, tell_rel hP e, tell_like _ _ _, .inr ⟨rfl, h.2 e⟩⟩
theorem tNeed_holds {α : Type} {ρ : Env} {st : St} {b : B} {x : St → T α} {Q : α → Env → Sp → Prop} (hP : PRel ρ st) (h : (tNeed st b x).holds P n0 s ρ A Q) :
    b.den ρ = true ∧ ∃ st', PRel ρ st' ∧ Like st st' ∧ (x st').holds P n0 s ρ A Q := by
  unfold tNeed at h
  split at h
  · exact ⟨rfl, st, hP, .refl _, h⟩
  · exact h.elim
  · exact ⟨h.1, _, tell_rel hP h.1, tell_like _ _ _, h.2⟩
theorem pick_holds {α : Type} {ρ : Env} {e : E} {k : Nat → St → T α} {Q : α → Env → Sp → Prop} : ∀ (n i : Nat) (st : St), PRel ρ st → (pick st e k n i).holds P n0 s ρ A Q →
    ∃ (j : Nat) (st' : St), e.den ρ = j ∧ PRel ρ st' ∧ Like st st' ∧ (k j st').holds P n0 s ρ A Q
  | 0, _, _, _, h => h.elim
  | n + 1, i, st, hP, h => by
    obtain ⟨st', p, l, ⟨hb, h⟩ | ⟨hb, h⟩⟩ := tIte_holds hP h
    · rw [bEq_den hP.bd] at hb
      exact ⟨i, st', of_decide_eq_true hb, p, l, h⟩
    · obtain ⟨j, st2, a, b, c, d⟩ := pick_holds n (i + 1) st' p h
      exact ⟨j, st2, a, b, l.trans c, d⟩
theorem indexed_holds {α : Type} {ρ : Env} {st : St} {e : E} {len : Nat} {k : Nat → St → T α} {Q : α → Env → Sp → Prop} (hP : PRel ρ st) (h : (indexed st e len k).holds P n0 s ρ A Q) :
    ∃ (j : Nat) (st' : St), j < len ∧ e.den ρ = j ∧ PRel ρ st' ∧ Like st st' ∧ (k j st').holds P n0 s ρ A Q := by
  obtain ⟨hw, st', p, l, h⟩ := tNeed_holds hP h
  rw [within, bAnd_den, bLe_den hP.bd, bLt_den hP.bd, Bool.and_eq_true, decide_eq_true_eq, decide_eq_true_eq] at hw
  simp only [E.den] at hw
  split at h
  · simp only [E.den] at hw ⊢
    exact ⟨_, st', by omega, by omega, p, l, h⟩
  · split at h
    · obtain ⟨j, st2, a, b, c, d⟩ := pick_holds _ _ _ p h
      exact ⟨j, st2, by omega, a, b, l.trans c, d⟩
    · exact h.elim
theorem den_of1 (ρ : Env) (β : List Nat) (v : Value) : (of1 v).den ρ β = v := by
  cases v <;> simp [of1, SV.den, E.den, B.den]
theorem den_ofVal (ρ : Env) (β : List Nat) (v : Value) : (ofVal v).den ρ β = v := by
  cases v with
  | agg cs =>
    simp only [ofVal, SV.den, dens_eq, List.map_map]
    congr 1
    rw [show (SV.den ρ β ∘ of1) = id from funext fun v => den_of1 ρ β v]
    simp
  | _ => simp [ofVal, of1, SV.den, E.den, B.den]
theorem scalar_den {ρ : Env} {β : List Nat} {x : SV} {sk : List Nat} (hs : SkOk ρ.vs sk) (h : x.scalar sk = true) : scalarV (x.den ρ β) = true := by
  cases x with
  | var i => simp only [SV.scalar, List.contains_iff_mem] at h; exact hs i h
  | con v => exact h
  | el i e o => cases h
  | agg l => cases h
  | tuple l => cases h
  | _ => rfl
theorem cells_den {ρ : Env} {β : List Nat} {x : SV} {l : List SV} {sk : List Nat} (hk : SkOk ρ.vs sk) (h : x.cells sk = some l) : (x.den ρ β).cells = (SV.dens ρ β l).toArray := by
  unfold SV.cells at h
  split at h
  · injection h with h; subst h; rfl
  · split at h
    · rename_i hs
      injection h with h
      subst h
      have := scalar_den (ρ := ρ) (β := β) hk hs
      simp only [SV.dens]
      generalize x.den ρ β = v at this
      cases v <;> first | rfl | cases this
    · cases h
theorem dens_get {ρ : Env} {β : List Nat} {l : List SV} {j : Nat} : (SV.dens ρ β l)[j]? = (l[j]?).map (SV.den ρ β) := by simp [dens_eq]
theorem dens_len {ρ : Env} {β : List Nat} {l : List SV} : (SV.dens ρ β l).length = l.length := by simp [dens_eq]
theorem HRel.drew {ρ : Env} {β : List Nat} {hp : List Blk} {w : World} (F : Inv n0 s) (h : HRel s n0 ρ β hp w) : HRel s n0 ρ β hp w.drew :=
  ⟨F.drew h.inv, h.len, h.lo, h.inj, h.cells, h.frz⟩
theorem HRel.mem {ρ : Env} {β : List Nat} {hp : List Blk} {w : World} (h : HRel s n0 ρ β hp w) {i : Nat} {blk : Blk} (hi : hp[i]? = some blk) : β.getD i 0 ∈ β ∧ i < β.length := by
  have hl : i < hp.length := by
    rcases Nat.lt_or_ge i hp.length with k | k
    · exact k
    · rw [List.getElem?_eq_none k] at hi; cases hi
  have hl' : i < β.length := by rw [h.len]; exact hl
  exact ⟨by simp [List.getD_eq_getElem?_getD, List.getElem?_eq_getElem hl'], hl'⟩
theorem HRel.ne {ρ : Env} {β : List Nat} {hp : List Blk} {w : World} (h : HRel s n0 ρ β hp w) {i j : Nat} (hi : i < β.length) (hj : j < β.length) (hne : i ≠ j) : β.getD i 0 ≠ β.getD j 0 := by
  intro e
  simp only [List.getD_eq_getElem?_getD, List.getElem?_eq_getElem hi, List.getElem?_eq_getElem hj, Option.getD_some] at e
  have k := List.pairwise_iff_getElem.1 h.inj
  rcases Nat.lt_or_gt_of_ne hne with q | q
  · exact k i j hi hj q e
  · exact k j i hj hi q e.symm
theorem HRel.set {ρ : Env} {β : List Nat} {hp : List Blk} {w : World} (F : Inv n0 s) (h : HRel s n0 ρ β hp w) {i j : Nat} {cs : List SV} (hi : hp[i]? = some ⟨cs, true⟩) (hj : j < cs.length) (x : SV) :
    HRel s n0 ρ β (hp.set i ⟨cs.set j x, true⟩) (w.setCell ⟨β.getD i 0, j, none⟩ (x.den ρ β)) := by
  obtain ⟨hm, hl⟩ := h.mem hi
  refine ⟨F.set h.inv _ _ _ (h.lo _ hm).1 (h.lo _ hm).2.2, by simp [h.len], fun b hb => by simpa using h.lo b hb, h.inj, fun k blk hk u v hv => ?_, fun k blk hk hw u => ?_⟩
  · by_cases e : k = i
    · subst e
      rw [List.getElem?_set_self (by rw [← h.len]; exact hl)] at hk
      injection hk with hk
      subst hk
      simp only at hv
      by_cases eu : u = j
      · subst eu
        rw [List.getElem?_set_self hj] at hv
        injection hv with hv
        subst hv
        exact World.cell?_setCell_same _ _ _ (h.cells k _ hi u _ (List.getElem?_eq_getElem hj))
      · rw [List.getElem?_set_ne (fun e => eu e.symm)] at hv
        rw [World.cell?_setCell_other _ _ _ _ (fun e => by injection e with _ e; exact eu e.symm)]
        exact h.cells k _ hi u v hv
    · rw [List.getElem?_set_ne (fun x => e x.symm)] at hk
      have := h.ne hl (h.mem hk).2 (fun x => e x.symm)
      rw [World.cell?_setCell_other _ _ _ _ (fun e => by injection e with e _; exact this e)]
      exact h.cells k blk hk u v hv
  · rw [World.frozen?_setCell]
    by_cases e : k = i
    · subst e
      exact h.frz k _ hi rfl u
    · rw [List.getElem?_set_ne (fun x => e x.symm)] at hk
      exact h.frz k blk hk hw u
theorem HRel.alloc {ρ : Env} {β : List Nat} {hp : List Blk} {w : World} (F : Inv n0 s) (h : HRel s n0 ρ β hp w) (hs : scH ρ.is.length ρ.bs.length ρ.vs.length hp = true) {cs : List SV} (hc : SV.scs ρ.is.length ρ.bs.length ρ.vs.length hp.length cs = true) (t : TypeId) :
    HRel s n0 ρ (β ++ [w.heap.size]) (hp ++ [⟨cs, true⟩]) (w.alloc (.cells (SV.dens ρ β cs).toArray t)) := by
  have hle : Le β (β ++ [w.heap.size]) := ⟨_, rfl⟩
  refine ⟨F.alloc h.inv _, by simp [h.len], fun b hb => ?_, ?_, fun k blk hk u v hv => ?_, fun k blk hk hw u => ?_⟩
  · simp only [List.mem_append, List.mem_singleton] at hb
    rcases hb with hb | rfl
    · have := h.lo b hb; exact ⟨this.1, by simp; omega, this.2.2⟩
    · exact ⟨F.size h.inv, by simp, fun hb => Nat.lt_irrefl _ (F.lt h.inv _ hb)⟩
  · rw [List.nodup_append]
    refine ⟨h.inj, by simp, fun a ha b hb => ?_⟩
    simp only [List.mem_singleton] at hb
    subst hb
    have := h.lo a ha
    omega
  · rcases Nat.lt_or_ge k hp.length with hl | hl
    · rw [List.getElem?_append_left hl] at hk
      rw [getD_le (by rw [h.len]; exact hl)]
      have hm := h.lo _ (h.mem hk).1
      rw [World.cell?_alloc_lt _ _ _ hm.2.1, h.cells k blk hk u v hv]
      have hsc : SV.scs ρ.is.length ρ.bs.length ρ.vs.length hp.length blk.cells = true := by
        simp only [scH, List.all_eq_true] at hs
        exact hs blk (List.mem_of_getElem? hk)
      rw [scs_eq, List.all_eq_true] at hsc
      rw [SV.den_le (Env.le_refl ρ) hle (by rw [h.len]; exact hsc v (List.mem_of_getElem? hv))]
    · rw [List.getElem?_append_right hl] at hk
      have e : k = hp.length := by
        rcases Nat.lt_or_ge (k - hp.length) 1 with q | q
        · omega
        · rw [List.getElem?_eq_none (by simpa using q)] at hk; cases hk
      subst e
      simp only [Nat.sub_self, List.getElem?_cons_zero, Option.some.injEq] at hk
      subst hk
      simp only at hv
      have eb : (β ++ [w.heap.size]).getD hp.length 0 = w.heap.size := by rw [← h.len]; simp [List.getD_eq_getElem?_getD]
      rw [eb, World.cell?_alloc_new]
      rw [scs_eq, List.all_eq_true] at hc
      simp only [List.getElem?_toArray, dens_get, hv, Option.map_some]
      rw [SV.den_le (Env.le_refl ρ) hle (by rw [h.len]; exact hc v (List.mem_of_getElem? hv))]
  · rcases Nat.lt_or_ge k hp.length with hl | hl
    · rw [List.getElem?_append_left hl] at hk
      rw [getD_le (by rw [h.len]; exact hl), World.frozen?_alloc_old _ _ _ (by have := (h.lo _ (h.mem hk).1).2.1; simp only; omega)]
      exact h.frz k blk hk hw u
    · rw [List.getElem?_append_right hl] at hk
      have e : k = hp.length := by
        rcases Nat.lt_or_ge (k - hp.length) 1 with q | q
        · omega
        · rw [List.getElem?_eq_none (by simpa using q)] at hk; cases hk
      subst e
      have eb : (β ++ [w.heap.size]).getD hp.length 0 = w.heap.size := by rw [← h.len]; simp [List.getD_eq_getElem?_getD]
      rw [eb, World.frozen?_alloc_new]
theorem BdOk.le {ρ ρ' : Env} {bd : Bds} (h : BdOk ρ bd) (hl : ρ.le ρ') (hs : bd.length ≤ ρ.is.length) : BdOk ρ' bd := by
  obtain ⟨is, bs, vs, rfl⟩ := hl
  intro i l u k
  have hi : i < bd.length := by
    rcases Nat.lt_or_ge i bd.length with q | q
    · exact q
    · rw [List.getElem?_eq_none q] at k; cases k
  have := h i l u k
  simp only [Env.ext, getD_le (show i < ρ.is.length by omega)]
  exact this
/-- the same blocks, with more known of other things -/
theorem HRel.le {ρ ρ' : Env} {β : List Nat} {hp : List Blk} {w : World} (hl : ρ.le ρ') (hs : scH ρ.is.length ρ.bs.length ρ.vs.length hp = true) (h : HRel s n0 ρ β hp w) : HRel s n0 ρ' β hp w :=
  ⟨h.inv, h.len, h.lo, h.inj, fun i blk hi j v hv => by
    rw [h.cells i blk hi j v hv]
    simp only [scH, List.all_eq_true] at hs
    have hsc := hs blk (List.mem_of_getElem? hi)
    rw [scs_eq, List.all_eq_true] at hsc
    rw [SV.den_le hl (Le.refl β) (by rw [h.len]; exact hsc v (List.mem_of_getElem? hv))], h.frz⟩
theorem HRel.back {ρ ρ' : Env} {β : List Nat} {hp : List Blk} {w : World} (hl : ρ.le ρ') (hs : scH ρ.is.length ρ.bs.length ρ.vs.length hp = true) (h : HRel s n0 ρ' β hp w) : HRel s n0 ρ β hp w :=
  ⟨h.inv, h.len, h.lo, h.inj, fun i blk hi j v hv => by
    rw [h.cells i blk hi j v hv]
    simp only [scH, List.all_eq_true] at hs
    have hsc := hs blk (List.mem_of_getElem? hi)
    rw [scs_eq, List.all_eq_true] at hsc
    rw [SV.den_le hl (Le.refl β) (by rw [h.len]; exact hsc v (List.mem_of_getElem? hv))], h.frz⟩
theorem HRel.got {ρ : Env} {β : List Nat} {hp : List Blk} {w w' : World} (h : HRel s n0 ρ β hp w) (hS : s.S w') (hz : w.heap.size ≤ w'.heap.size) (hk : ∀ b, b ∈ β → w'.heap[b]? = w.heap[b]?) : HRel s n0 ρ β hp w' :=
  ⟨hS, h.len, fun b hb => ⟨(h.lo b hb).1, Nat.lt_of_lt_of_le (h.lo b hb).2.1 hz, (h.lo b hb).2.2⟩, h.inj,
    fun i blk hi j v hv => by rw [World.cell?_of_block (hk _ (h.mem hi).1)]; exact h.cells i blk hi j v hv,
    fun i blk hi hw j => by rw [World.frozen?_of_block (hk _ (h.mem hi).1)]; exact h.frz i blk hi hw j⟩
/-- the blocks that a call has found are as they were: as a condition on the worlds behind it -/
def spH (s : Sp) (n0 : Nat) (ρ : Env) (β : List Nat) (hp : List Blk) (w : World) : Sp := ⟨fun w' => HRel s n0 ρ β hp w' ∧ w.heap.size ≤ w'.heap.size, fun _ => False⟩
theorem inv_held (F : Inv n0 s) {ρ : Env} {β : List Nat} {hp : List Blk} {w : World} (h : HRel s n0 ρ β hp w) : Inv w.heap.size (spH s n0 ρ β hp w) where
  size k := k.2
  alloc := fun {w'} k o => ⟨k.1.got (F.alloc k.1.inv o) (by simp) fun b hb => Below.heap_alloc _ _ _ (k.1.lo b hb).2.1, by have := k.2; simp; omega⟩
  set := fun {w'} k g o v hg _ => ⟨k.1.got (F.set k.1.inv g o v (Nat.le_trans (F.size h.inv) hg) (fun hb => by have := F.lt h.inv g hb; omega)) (by simp) fun b hb => Below.heap_setCell _ _ _ _ (by have := (h.lo b hb).2.1; simp only; omega), by simpa using k.2⟩
  drew k := ⟨k.1.drew F, k.2⟩
  lt _ _ k := k.elim
/-- more numbers, booleans and values -/
theorem SlOk.le {is js : List Int} {vs us : List Value} {sl : List (Nat × E)} (h : SlOk is vs sl) (hs : ∀ p ∈ sl, p.1 < vs.length ∧ p.2.sc is.length = true) : SlOk (is ++ js) (vs ++ us) sl := by
  intro p hp
  obtain ⟨a, n, c, h1, h2, h3⟩ := h p hp
  obtain ⟨s1, s2⟩ := hs p hp
  refine ⟨a, n, c, by rw [getD_le s1]; exact h1, ?_, h3⟩
  rw [h2]
  exact (E.den_le (ρ := ⟨is, [], []⟩) (ρ' := ⟨is ++ js, [], []⟩) ⟨js, [], [], rfl⟩ s2).symm
theorem prel_ext {ρ : Env} {st : St} (hP : PRel ρ st) (hs : st.scoped = true) (hbl : st.bd.length = st.ni) {is : List Int} {bs : List Bool} {vs : List Value} {bd : Bds} (hb : BdOk ⟨is, [], []⟩ bd) :
    PRel (ρ.ext is bs vs) { st with ni := st.ni + is.length, nb := st.nb + bs.length, nv := st.nv + vs.length, bd := st.bd ++ bd } := by
  simp only [St.scoped, Bool.and_eq_true, List.all_eq_true] at hs
  obtain ⟨⟨⟨⟨_, _⟩, h3⟩, h4⟩, h5⟩ := hs
  refine ⟨by simp [Env.ext, hP.ni], by simp [Env.ext, hP.nb], by simp [Env.ext, hP.nv], ?_, fun p hp => ?_, ?_, fun i hi => ?_⟩
  · intro i l u k
    rcases Nat.lt_or_ge i st.bd.length with q | q
    · rw [List.getElem?_append_left q] at k
      exact (hP.bd.le (Env.le_ext ρ is bs vs) (by rw [hbl, hP.ni]; exact Nat.le_refl _)) i l u k
    · rw [List.getElem?_append_right q] at k
      have := hb _ l u k
      simp only at this
      have e : (ρ.ext is bs vs).is.getD i 0 = is.getD (i - st.bd.length) 0 := by
        simp only [Env.ext, List.getD_eq_getElem?_getD]
        rw [List.getElem?_append_right (by rw [hP.ni, ← hbl]; exact q), hP.ni, ← hbl]
      rw [e]
      exact this
  · have := h3 p hp
    rw [← hP.ni, ← hP.nb] at this
    rw [B.den_le (Env.le_ext ρ is bs vs) this]
    exact hP.kn p hp
  · refine hP.sl.le fun p hp => ?_
    obtain ⟨k1, k2⟩ := h4 p hp
    rw [hP.nv, hP.ni]
    exact ⟨of_decide_eq_true k1, k2⟩
  · have := h5 i hi
    simp only [decide_eq_true_eq] at this
    simp only [Env.ext]
    rw [getD_le (by rw [hP.nv]; exact this)]
    exact hP.sk i hi
end
end Sym
end Go.Proofs.Ythfagiihfkjamaa
