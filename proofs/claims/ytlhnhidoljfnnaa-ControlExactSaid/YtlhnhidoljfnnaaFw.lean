/- The data run, for use: trees carried out, contracts, laws. -/
import Derived.Test.YtlhnhidoljfnnaaFv
import Derived.Test.YtlhnhidoljfnnaaFp
set_option linter.unusedVariables false
set_option linter.unusedSimpArgs false
namespace Go.Proofs.Ytlhnhidoljfnnaa
open Go.RowKit
namespace Fx
theorem run_con {P : Program} (hm : P.follows .mixedOrders = true) {M : Models} {cons : List Con} (hM : ∀ k ∈ cons, ConOk P k (M k.f)) {cuts : Cuts} {k : Con} {t : T (List X)} (ht : runS P cons cuts k = t) {m : List D → Option (List D)}
    (h : ∀ ds outs, ds.length = lenP k.ps → m ds = some outs → BdOk ds k.bd ∧ ∃ N xs ds', t.eval M N ds = some (xs, ds') ∧ X.dens ds' xs = outs) : ConOk P k m :=
  run_ok hM (fun N call hc => draw_ok hm hc) ht h
/-- a tree, carried out, leads to -/
def T.To (M : Models) (N : Nat) {α : Type} (t : T α) (ρ : List D) (Q : α → List D → Prop) : Prop := ∃ a ρ', t.eval M N ρ = some (a, ρ') ∧ Q a ρ'
section
variable {M : Models} {N : Nat} {α : Type} {ρ : List D} {Q : α → List D → Prop}
theorem To.ret {a : α} (h : Q a ρ) : (T.ret a).To M N ρ Q := ⟨a, ρ, rfl, h⟩
theorem To.ite {b : X} {x y : T α} (h : (b.den ρ).boo = true → x.To M N ρ Q) (k : (b.den ρ).boo = false → y.To M N ρ Q) : (T.ite b x y).To M N ρ Q := by
  cases e : (b.den ρ).boo with
  | true =>
    obtain ⟨a, ρ', h1, h2⟩ := h e
    exact ⟨a, ρ', by simp only [T.eval, e, if_true]; exact h1, h2⟩
  | false =>
    obtain ⟨a, ρ', h1, h2⟩ := k e
    exact ⟨a, ρ', by simp only [T.eval, e, Bool.false_eq_true, if_false]; exact h1, h2⟩
theorem To.need {b : X} {x : T α} (e : (b.den ρ).boo = true) (h : x.To M N ρ Q) : (T.need b x).To M N ρ Q := by
  obtain ⟨a, ρ', h1, h2⟩ := h
  exact ⟨a, ρ', by simp only [T.eval, e, if_true]; exact h1, h2⟩
theorem To.call {f : FuncId} {xs : List X} {k : Nat} {x : T α} {l : List D} (e : M f (X.dens ρ xs) = some l) (hl : l.length = k) (h : x.To M N (ρ ++ l) Q) : (T.call f xs k x).To M N ρ Q := by
  obtain ⟨a, ρ', h1, h2⟩ := h
  exact ⟨a, ρ', by simp only [T.eval, e, hl, if_true]; exact h1, h2⟩
theorem To.sub {b : T (List X)} {k : Nat} {x : T α} (h : b.To M N ρ fun xs ρ' => xs.length = k ∧ x.To M N (ρ ++ X.dens ρ' xs) Q) : (T.sub b k x).To M N ρ Q := by
  obtain ⟨xs, ρ', h1, h2, a, ρ2, h3, h4⟩ := h
  exact ⟨a, ρ2, by simp only [T.eval, h1, h2, if_true]; exact h3, h4⟩
theorem To.mono {t : T α} {Q' : α → List D → Prop} (h : t.To M N ρ Q) (k : ∀ a ρ', Q a ρ' → Q' a ρ') : t.To M N ρ Q' := by
  obtain ⟨a, ρ', h1, h2⟩ := h
  exact ⟨a, ρ', h1, k a ρ' h2⟩
/-- a join, through what is known of its value -/
theorem To.join {b : T (List X)} {k : Nat} {x : T α} (R : List D → Prop) (h : b.To M N ρ fun xs ρ' => xs.length = k ∧ R (X.dens ρ' xs)) (j : ∀ l, R l → x.To M N (ρ ++ l) Q) : (T.sub b k x).To M N ρ Q :=
  To.sub (To.mono h fun xs ρ' q => ⟨q.1, j _ q.2⟩)
theorem loopE_mono {B : List D → Option (Bool × List D)} : ∀ {n : Nat} {l r : List D}, loopE B n l = some r → loopE B (n + 1) l = some r
  | 0, l, r, h => by simp [loopE] at h
  | n + 1, l, r, h => by
    simp only [loopE] at h
    rw [loopE]
    split at h
    · rename_i l' e
      exact loopE_mono h
    · rename_i l' e
      exact h
    · cases h
end
theorem To.yes {M : Models} {N : Nat} {α : Type} {ρ : List D} {Q : α → List D → Prop} {b : X} {x y : T α} (e : (b.den ρ).boo = true) (h : x.To M N ρ Q) : (T.ite b x y).To M N ρ Q := To.ite (fun _ => h) fun c => by rw [e] at c; cases c
theorem To.no {M : Models} {N : Nat} {α : Type} {ρ : List D} {Q : α → List D → Prop} {b : X} {x y : T α} (e : (b.den ρ).boo = false) (h : y.To M N ρ Q) : (T.ite b x y).To M N ρ Q := To.ite (fun c => by rw [e] at c; cases c) fun _ => h
theorem D.int_i (z : Int) : (D.i z).int = z := rfl
theorem D.boo_b (z : Bool) : (D.b z).boo = z := rfl
theorem D.str_s (z : ByteArray) : (D.s z).str = z := rfl
theorem D.rows_l (z : List (List D)) : (D.l z).rows = z := rfl
/-- a join of two numbers -/
theorem To.pick1 {M : Models} {N : Nat} {α : Type} {ρ : List D} {Q : α → List D → Prop} {b x y : X} {k : T α} {p : Prop} [Decidable p] {a a' : Int} (hb : (b.den ρ).boo = decide p) (hx : x.den ρ = .i a) (hy : y.den ρ = .i a') (h : k.To M N (ρ ++ [.i (if p then a else a')]) Q) : (T.sub (.ite b (.ret [x]) (.ret [y])) 1 k).To M N ρ Q := by
  refine To.sub (To.ite (fun c => To.ret ⟨rfl, ?_⟩) (fun c => To.ret ⟨rfl, ?_⟩))
  · rw [hb, decide_eq_true_eq] at c
    rw [if_pos c] at h
    simp only [X.dens, hx]
    exact h
  · rw [hb, decide_eq_false_iff_not] at c
    rw [if_neg c] at h
    simp only [X.dens, hy]
    exact h
theorem norm_if (a : Int) : (if a.tmod 3600 < 0 then a.tmod 3600 + 3600 else a.tmod 3600) = a % 3600 := by
  have e := Int.tmod_eq_emod (a := a) (b := 3600)
  split <;> split at e <;> omega
/-- the contract of a function: its tree leads to what is said -/
theorem con_of {P : Program} (hm : P.follows .mixedOrders = true) {M : Models} {cons : List Con} (hM : ∀ k ∈ cons, ConOk P k (M k.f)) {cuts : Cuts} {k : Con} {t : T (List X)} (ht : runS P cons cuts k = t) {m : List D → Option (List D)}
    (h : ∀ ds outs, ds.length = lenP k.ps → m ds = some outs → BdOk ds k.bd ∧ ∃ N, t.To M N ds fun xs ρ' => X.dens ρ' xs = outs) : ConOk P k m :=
  run_con hm hM ht fun ds outs h1 h2 => by
    obtain ⟨hb, N, xs, ρ', h3, h4⟩ := h ds outs h1 h2
    exact ⟨hb, N, xs, ρ', h3, h4⟩
theorem no_cons {P : Program} {M : Models} : ∀ k ∈ ([] : List Con), ConOk P k (M k.f) := fun k hk => by cases hk
theorem one_con {P : Program} {M : Models} {k : Con} {l : List Con} (h : ConOk P k (M k.f)) (r : ∀ k ∈ l, ConOk P k (M k.f)) : ∀ k' ∈ k :: l, ConOk P k' (M k'.f) := fun k' hk => by
  rcases List.mem_cons.1 hk with rfl | hk
  · exact h
  · exact r k' hk
def Con.to (k : Con) (b : Bds) : Con := ⟨k.f, k.ps, k.rs, b⟩
theorem ConOk.to {P : Program} {k : Con} {m : List D → Option (List D)} (b : Bds) (h : ConOk P k m) : ConOk P (k.to b) m := fun w G args ds pb outs h1 h2 h3 h4 h5 =>
  (h w G args ds pb outs h1 h2 h3 h4 h5).mono fun e w' R => ⟨R.ex, R.size, R.keep, R.io⟩
/-- what a tree gives -/
def T.run (M : Models) (N : Nat) (t : T (List X)) (ds : List D) : Option (List D) := (t.eval M N ds).map fun r => X.dens r.2 r.1
theorem run_to {M : Models} {N : Nat} {t : T (List X)} {ds : List D} {R : List D → Prop} (h : t.To M N ds fun xs ρ' => R (X.dens ρ' xs)) : ∃ l, t.run M N ds = some l ∧ R l := by
  obtain ⟨xs, ρ', h1, h2⟩ := h
  exact ⟨_, by simp only [T.run, h1, Option.map_some], h2⟩
/-- every function is as its tree gives -/
theorem con_run {P : Program} (hm : P.follows .mixedOrders = true) {M : Models} {cons : List Con} (hM : ∀ k ∈ cons, ConOk P k (M k.f)) {cuts : Cuts} {k : Con} {t : T (List X)} (ht : runS P cons cuts k = t) (hb : k.bd = []) (N : Nat) : ConOk P k (t.run M N) :=
  run_con hm hM ht fun ds outs h1 h2 => by
    refine ⟨fun i l h e => by rw [hb] at e; simp at e, N, ?_⟩
    simp only [T.run, Option.map_eq_some_iff] at h2
    obtain ⟨⟨xs, ρ'⟩, h3, h4⟩ := h2
    exact ⟨xs, ρ', h3, h4⟩
theorem To.via {M : Models} {N : Nat} {α : Type} {ρ : List D} {Q : α → List D → Prop} {f : FuncId} {xs : List X} {k : Nat} {x : T α} {R : List D → Prop} (h : ∃ l, M f (X.dens ρ xs) = some l ∧ R l) (j : ∀ l, R l → l.length = k ∧ x.To M N (ρ ++ l) Q) : (T.call f xs k x).To M N ρ Q := by
  obtain ⟨l, h1, h2⟩ := h
  exact To.call h1 (j l h2).1 (j l h2).2
theorem wr64 {z : Int} (h : -9223372036854775808 ≤ z) (k : z ≤ 9223372036854775807) : IntKind.i64.wrap z = z := wrap_in .i64 z (by simpa [IntKind.min, IntKind.bits, IntKind.signed] using h) (by have : IntKind.i64.max = 9223372036854775807 := rfl; omega)
theorem D.len_l (r : List (List D)) : (D.l r).len = min (r.length : Int) 9223372036854775807 := rfl
theorem mod_rng (x n : Int) (h : 1 ≤ n) : 0 ≤ (x.tmod n + n).tmod n ∧ (x.tmod n + n).tmod n < n ∧ -n < x.tmod n ∧ x.tmod n < n := by
  have a := Int.lt_tmod_of_pos x (show 0 < n by omega)
  have b := Int.tmod_lt_of_pos x (show 0 < n by omega)
  exact ⟨Int.tmod_nonneg n (by omega), Int.tmod_lt_of_pos _ (by omega), a, b⟩
/-- no models -/
def noM : Models := fun _ _ => none
/-- one model, before others -/
def Models.on (f : FuncId) (m : List D → Option (List D)) (M : Models) : Models := fun g => if g = f then m else M g
theorem Models.on_at {f : FuncId} {m : List D → Option (List D)} {M : Models} : Models.on f m M f = m := if_pos rfl
theorem Models.on_ne {f g : FuncId} {m : List D → Option (List D)} {M : Models} (h : g ≠ f) : Models.on f m M g = M g := if_neg h
theorem tmod_if (x : Int) {c : Int} (hc : 0 < c) : x.tmod c = if 0 ≤ x then x % c else -((-x) % c) := by
  split
  · rename_i h; rw [Int.tmod_eq_emod_of_nonneg h]
  · rename_i h
    rw [show x = -(-x) by omega, Int.neg_tmod, Int.tmod_eq_emod_of_nonneg (by omega)]
    rw [Int.neg_neg]
theorem tdiv_if (x : Int) {c : Int} (hc : 0 < c) : x.tdiv c = if 0 ≤ x then x / c else -((-x) / c) := by
  split
  · rename_i h; rw [Int.tdiv_eq_ediv_of_nonneg h]
  · rename_i h
    rw [show x = -(-x) by omega, Int.neg_tdiv, Int.tdiv_eq_ediv_of_nonneg (by omega)]
    rw [Int.neg_neg]
/- laws -/
theorem args_int {w : World} {G : Nat → Prop} {k : IntKind} {a : Int} {ps : List PK} {vs : List Value} {ds : List D} {pb : List Nat} (h : Args w G ps vs ds pb) : Args w G (.val false [.int k] :: ps) (.int k a :: vs) (.i a :: ds) pb :=
  ⟨[.int k a], [.i a], ds, rfl, by simp [cellsV], ⟨by simp only [RepC, D.int], trivial⟩, h⟩
theorem args_bool {w : World} {G : Nat → Prop} {a : Bool} {ps : List PK} {vs : List Value} {ds : List D} {pb : List Nat} (h : Args w G ps vs ds pb) : Args w G (.val false [.bool] :: ps) (.bool a :: vs) (.b a :: ds) pb :=
  ⟨[.bool a], [.b a], ds, rfl, by simp [cellsV], ⟨by simp only [RepC, D.boo], trivial⟩, h⟩
theorem args_str {w : World} {G : Nat → Prop} {a : ByteArray} {ps : List PK} {vs : List Value} {ds : List D} {pb : List Nat} (h : Args w G ps vs ds pb) : Args w G (.val false [.str] :: ps) (.string a :: vs) (.s a :: ds) pb :=
  ⟨[.string a], [.s a], ds, rfl, by simp [cellsV], ⟨by simp only [RepC, D.str], trivial⟩, h⟩
/-- a function that says yes -/
theorem con_law {P : Program} {k : Con} {m : List D → Option (List D)} (hk : ConOk P k m) (hr : k.rs = [.val false [.bool]]) {w : World} {args : List Value} {ds : List D} (hp : ∀ G : Nat → Prop, (∀ b, b < w.heap.size → G b) → Args w G k.ps args ds []) (hps : ∀ p ∈ k.ps, ∃ a cs, p = PK.val a cs)
    (hm : m ds = some [.b true]) (hg : Gl w [] [] := by first | exact gl_none rfl | assumption) : Calls P k.f args.toArray w fun e w' => e = .returned (.bool true) ∧ Below w.heap.size w w' := by
  refine (hk w (fun b => b < w.heap.size) args ds [] [.b true] (fun b hb => ⟨hb, by simp⟩) (by simp) (hp _ fun b hb => hb) hm hg).mono fun e w' R => ?_
  obtain ⟨vs, o1, o2, h1, h2, h3, h4⟩ := R.ex
  refine ⟨?_, R.io.os, R.io.tape, R.io.output, R.size, fun b hb => R.keep b hb (by simp)⟩
  rw [hr] at h3
  match vs, h3 with
  | v :: vs, h3 =>
    simp only [Ress] at h3
    obtain ⟨cells, d1, d2, e1, e2, e3, e4⟩ := h3
    subst e1
    simp only [cellsV, Bool.false_eq_true, if_false] at e2
    subst e2
    match vs, d2, e4 with
    | [], [], _ =>
      match d1, e3 with
      | [d], e3 =>
        simp only [RepCs, RepC, and_true] at e3
        simp only [List.append_nil, List.cons_append, List.nil_append, List.cons.injEq] at h1
        rw [h2, e3, ← h1.1]
        rfl
end Fx
end Go.Proofs.Ytlhnhidoljfnnaa
