/- Package status: levels, classes, and the class at the next time. -/
import Derived.Test.YtjmmkphdomiohabKit2
namespace Go.Proofs.Ytjmmkphdomiohab
open Go.RowKit
namespace St
def Lev (n : Int) : Prop := 1 ≤ n ∧ n ≤ 3
instance (n : Int) : Decidable (Lev n) := inferInstanceAs (Decidable (_ ∧ _))
def Ok (l b t : Int) : Prop := (1 ≤ l ∧ l ≤ 3) ∧ -1 ≤ b ∧ b ≤ t ∧ (l = 3 → b = -1)
instance (l b t : Int) : Decidable (Ok l b t) := inferInstanceAs (Decidable (_ ∧ _ ∧ _ ∧ (_ → _)))
def pb (b t : Int) : Int := if b = -1 then t else b
def nl (l b t j d : Int) : Int := if j ≤ l then j else if t - pb b t < d then l else l + 1
def nb (l b t j d : Int) : Int := if j ≤ l then -1 else if t - pb b t < d then pb b t else if j = l + 1 then -1 else t
end St
set_option maxHeartbeats 400000 in
theorem isLevel_eq (n : Int) (q : Bool) (w : World) (h : decide (St.Lev n) = q) :
    Calls Try.prog 27 #[.int .i64 n] w fun e w' => e = .returned (.bool q) ∧ w = w' := by
  subst h
  by_cases h1 : 1 ≤ n
  · by_cases h2 : n ≤ 3
    · have H : Hid (decide (St.Lev n) = true) := Lib.hid (decide_eq_true ⟨h1, h2⟩)
      go_enter Try.func27, Try.ntmps27
      go_wp2
      go_ret
      exact ⟨retb H.out.symm, rfl⟩
    · have H : Hid (decide (St.Lev n) = false) := Lib.hid (decide_eq_false fun x => h2 x.2)
      go_enter Try.func27, Try.ntmps27
      go_wp2
      go_ret
      exact ⟨retb H.out.symm, rfl⟩
  · have H : Hid (decide (St.Lev n) = false) := Lib.hid (decide_eq_false fun x => h1 x.1)
    go_enter Try.func27, Try.ntmps27
    go_wp2
    go_ret
    exact ⟨retb H.out.symm, rfl⟩
set_option maxHeartbeats 800000 in
theorem stValid_t (l b t : Int) (w : World) (h : St.Ok l b t) :
    Calls Try.prog 13 #[.agg #[.int .i64 l, .int .i64 b], .int .i64 t] w fun e w' => e = .returned (.bool true) ∧ Below w.heap.size w w' := by
  obtain ⟨⟨a1, a2⟩, a3, a4, a5⟩ := h
  have HL : Hid (decide (St.Lev l) = true) := Lib.hid (decide_eq_true ⟨a1, a2⟩)
  by_cases k : l = 3
  · have kb := a5 k
    subst k
    subst kb
    clear a5
    go_enter Try.func13, Try.ntmps13
    go_wp2_with (fail)
    refine (isLevel_eq _ true _ HL.out).mono ?_
    rintro e w1 ⟨rfl, rfl⟩
    go_wp2_with (fail)
    go_ret
    exact ⟨rfl, (Below.refl _ _).alloc (Nat.le_refl _) _⟩
  · have kf : (l == 3) = false := by simpa using k
    clear a5
    go_enter Try.func13, Try.ntmps13
    go_wp2_with (fail)
    refine (isLevel_eq _ true _ HL.out).mono ?_
    rintro e w1 ⟨rfl, rfl⟩
    go_wp2_with (fail)
    go_ret
    exact ⟨rfl, (Below.refl _ _).alloc (Nat.le_refl _) _⟩
set_option maxHeartbeats 800000 in
theorem stValid_f (l b t : Int) (w : World) (h : ¬ St.Ok l b t) :
    Calls Try.prog 13 #[.agg #[.int .i64 l, .int .i64 b], .int .i64 t] w fun e w' => e = .returned (.bool false) ∧ Below w.heap.size w w' := by
  have HH := Lib.hid h
  by_cases a0 : St.Lev l
  · have HL : Hid (decide (St.Lev l) = true) := Lib.hid (decide_eq_true a0)
    have HZ := Lib.hid a0
    clear h a0
    by_cases a3 : -1 ≤ b
    · by_cases a4 : b ≤ t
      · have k : l = 3 := by
          refine Decidable.byContradiction fun k => HH.out ⟨HZ.out, a3, a4, fun e => absurd e k⟩
        have k2 : ¬ b = -1 := fun e => HH.out ⟨HZ.out, a3, a4, fun _ => e⟩
        have k3 : (b == -1) = false := by simpa using k2
        subst k
        go_enter Try.func13, Try.ntmps13
        go_wp2_with (fail)
        refine (isLevel_eq _ true _ HL.out).mono ?_
        rintro e w1 ⟨rfl, rfl⟩
        go_wp2_with (fail)
        go_ret
        exact ⟨rfl, (Below.refl _ _).alloc (Nat.le_refl _) _⟩
      · go_enter Try.func13, Try.ntmps13
        go_wp2_with (fail)
        refine (isLevel_eq _ true _ HL.out).mono ?_
        rintro e w1 ⟨rfl, rfl⟩
        go_wp2_with (fail)
        go_ret
        exact ⟨rfl, (Below.refl _ _).alloc (Nat.le_refl _) _⟩
    · go_enter Try.func13, Try.ntmps13
      go_wp2_with (fail)
      refine (isLevel_eq _ true _ HL.out).mono ?_
      rintro e w1 ⟨rfl, rfl⟩
      go_wp2_with (fail)
      go_ret
      exact ⟨rfl, (Below.refl _ _).alloc (Nat.le_refl _) _⟩
  · have HL : Hid (decide (St.Lev l) = false) := Lib.hid (decide_eq_false a0)
    clear h a0
    go_enter Try.func13, Try.ntmps13
    go_wp2_with (fail)
    refine (isLevel_eq _ false _ HL.out).mono ?_
    rintro e w1 ⟨rfl, rfl⟩
    go_wp2_with (fail)
    go_ret
    exact ⟨rfl, (Below.refl _ _).alloc (Nat.le_refl _) _⟩
/-- what a call that returns a class and an error has returned -/
def GaveC (w : World) (x y r : Int) (e : Ending) (w' : World) : Prop := e = .returned (.tuple #[.agg #[.int .i64 x, .int .i64 y], .int .i64 r]) ∧ Below w.heap.size w w'
theorem setO {w : World} {g o o' : Nat} {u : Value} (x : Value) (h : w.cell? ⟨g, o, none⟩ = some u) (hne : o ≠ o') : (w.setCell ⟨g, o', none⟩ x).cell? ⟨g, o, none⟩ = some u :=
  (World.cell?_setCell_other _ _ _ _ (fun e => by injection e with _ e; exact hne e.symm)).trans h
end Go.Proofs.Ytjmmkphdomiohab
