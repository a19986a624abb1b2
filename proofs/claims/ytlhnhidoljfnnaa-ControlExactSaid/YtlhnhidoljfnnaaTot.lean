/- Trees that always give something; what is known of their outcome is only how much it is. -/
import Derived.Test.YtlhnhidoljfnnaaPrg
import Derived.Test.YtlhnhidoljfnnaaArg
set_option linter.unusedVariables false
set_option linter.unusedSimpArgs false
namespace Go.Proofs.Ytlhnhidoljfnnaa
open Go.RowKit
namespace Fx
/-- no calls, no loops, no needs but those that are known -/
def T.totG (kn : List X) : {α : Type} → (α → Nat → Bool) → T α → Nat → Bool
  | _, f, .ret a, k => f a k
  | _, f, .ite _ x y, k => x.totG kn f k && y.totG kn f k
  | _, f, .need b x, k => kn.any (b.same ·) && x.totG kn f k
  | _, f, .sub a n x, k => a.totG kn (fun xs k => xs.length == k) n && x.totG kn f k
  | _, _, _, _ => false
abbrev T.tot (kn : List X) (t : T (List X)) (k : Nat) : Bool := t.totG kn (fun xs k => xs.length == k) k
theorem totG_ok {M : Models} {N : Nat} {kn : List X} {nd : Nat} : ∀ {α : Type} (t : T α) {f : α → Nat → Bool} {k : Nat} {ρ : List D}, t.totG kn f k = true → nd ≤ ρ.length → (∀ b ∈ kn, b.sc nd = true ∧ (b.den ρ).boo = true) → t.To M N ρ fun xs ρ' => f xs k = true := by
  intro α t
  induction t with
  | ret a => intro f k ρ h _ _; exact To.ret h
  | ite b x y ix iy =>
    intro f k ρ h hl hk
    simp only [T.totG, Bool.and_eq_true] at h
    exact To.ite (fun _ => ix h.1 hl hk) fun _ => iy h.2 hl hk
  | need b x ix =>
    intro f k ρ h hl hk
    simp only [T.totG, Bool.and_eq_true, List.any_eq_true] at h
    obtain ⟨⟨c, hc, e⟩, h2⟩ := h
    rw [X.same_eq e]
    exact To.need (hk c hc).2 (ix h2 hl hk)
  | sub a n x ia ix =>
    intro f k ρ h hl hk
    simp only [T.totG, Bool.and_eq_true] at h
    refine To.sub (To.mono (ia h.1 hl hk) fun xs ρ' hx => ⟨by simpa using hx, ?_⟩)
    refine ix h.2 (by rw [List.length_append]; omega) fun b hb => ⟨(hk b hb).1, ?_⟩
    rw [X.den_ag (nd := nd) (fun i hi => getD_pre (by omega)) (hk b hb).1]
    exact (hk b hb).2
  | call _ _ _ _ => intro f k ρ h; simp [T.totG] at h
  | loop _ _ _ _ => intro f k ρ h; simp [T.totG] at h
  | fail _ => intro f k ρ h; simp [T.totG] at h
theorem tot_ok {M : Models} {N : Nat} {kn : List X} {t : T (List X)} {k nd : Nat} {ρ : List D} (h : T.tot kn t k = true) (hl : nd ≤ ρ.length) (hk : ∀ b ∈ kn, b.sc nd = true ∧ (b.den ρ).boo = true) : t.To M N ρ fun xs ρ' => xs.length = k :=
  To.mono (totG_ok t h hl hk) fun xs ρ' hx => by simpa using hx
/-- a join of which only the number of data is told -/
theorem To.tot {M : Models} {N : Nat} {α : Type} {ρ : List D} {Q : α → List D → Prop} {a : T (List X)} {k : Nat} {x : T α} (kn : List X) (h : T.tot kn a k = true) (hk : ∀ b ∈ kn, b.sc ρ.length = true ∧ (b.den ρ).boo = true) (j : ∀ l : List D, l.length = k → x.To M N (ρ ++ l) Q) : (T.sub a k x).To M N ρ Q :=
  To.sub (To.mono (tot_ok (nd := ρ.length) h (Nat.le_refl _) hk) fun xs ρ' hx => ⟨hx, j _ (by rw [xdens_eq, List.length_map]; exact hx)⟩)
theorem len1 {l : List D} (h : l.length = 1) : ∃ a, l = [a] := by
  match l, h with
  | [a], _ => exact ⟨a, rfl⟩
theorem len2 {l : List D} (h : l.length = 2) : ∃ a b, l = [a, b] := by
  match l, h with
  | [a, b], _ => exact ⟨a, b, rfl⟩
theorem len3 {l : List D} (h : l.length = 3) : ∃ a b c, l = [a, b, c] := by
  match l, h with
  | [a, b, c], _ => exact ⟨a, b, c, rfl⟩
theorem len7 {l : List D} (h : l.length = 7) : ∃ a b c d e f g, l = [a, b, c, d, e, f, g] := by
  match l, h with
  | [a, b, c, d, e, f, g], _ => exact ⟨a, b, c, d, e, f, g, rfl⟩
/-- one of some constants -/
theorem pick_cell {zs : List Int} {r : Int} (h0 : 0 ≤ r) (h1 : r < zs.length) : ∃ z ∈ zs, (D.l (zs.map fun z => [.i z])).cell r 0 = .i z := by
  obtain ⟨n, rfl⟩ := Int.eq_ofNat_of_zero_le h0
  have hn : n < zs.length := by omega
  refine ⟨zs[n], List.getElem_mem hn, ?_⟩
  simp [D.cell, D.rows, List.getD_eq_getElem?_getD, hn]
end Fx
end Go.Proofs.Ytlhnhidoljfnnaa
