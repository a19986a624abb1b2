/- A run of Go code over expressions: the state, operations, regions, code, functions. -/
import Derived.Test.YtlhnhidoljfnnaaFb
set_option linter.unusedVariables false
set_option linter.unusedSimpArgs false
set_option linter.unusedVariables false
namespace Go.Proofs.Ytlhnhidoljfnnaa
namespace Fx
noncomputable section
inductive SV where
  | int (k : IntKind) (e : X) | bool (e : X) | str (e : X) | con (v : Value) | var (i : Nat) | el (i : Nat) (e : X) (n o : Nat) | ptr (i o : Nat) | pel (i o : Nat) (e : X) (len : Nat) | row (i o l c : Nat) | agg (l : List SV) | tuple (l : List SV) | fn (f : FuncId) (x c : List SV) | und
  deriving Inhabited
/-- data, the values of slices, the places of blocks -/
structure Env where
  ds : List D
  vs : Nat → Value
  β : Nat → Nat
mutual
def SV.den (ρ : Env) : SV → Value
  | .int k e => .int k (e.den ρ.ds).int
  | .bool b => .bool (b.den ρ.ds).boo
  | .str s => .string (s.den ρ.ds).str
  | .con v => v
  | .var i => ρ.vs i
  | .el i e n o => match ρ.vs i with
    | .slice (some a) _ _ => .pointer (some (a.add ((e.den ρ.ds).int.toNat * n + o)))
    | _ => undef
  | .ptr i o => .pointer (some ⟨ρ.β i, o, none⟩)
  | .pel i o e _ => .pointer (some ⟨ρ.β i, o + (e.den ρ.ds).int.toNat, none⟩)
  | .row i o l c => .slice (some ⟨ρ.β i, o, none⟩) l c
  | .agg l => .agg (SV.dens ρ l).toArray
  | .tuple l => .tuple (SV.dens ρ l).toArray
  | .fn f x c => .func (.func f) (SV.dens ρ x).toArray (SV.dens ρ c).toArray
  | .und => undef
def SV.dens (ρ : Env) : List SV → List Value
  | [] => []
  | x :: xs => x.den ρ :: SV.dens ρ xs
end
mutual
def SV.sc (nd nv nh : Nat) : SV → Bool
  | .int _ e | .bool e | .str e => e.sc nd
  | .con _ => true
  | .var i => decide (i < nv)
  | .el i e _ _ => decide (i < nv) && e.sc nd
  | .ptr i _ | .row i _ _ _ => decide (i < nh)
  | .pel i _ e _ => decide (i < nh) && e.sc nd
  | .agg l | .tuple l => SV.scs nd nv nh l
  | .fn _ x c => SV.scs nd nv nh x && SV.scs nd nv nh c
  | .und => false
def SV.scs (nd nv nh : Nat) : List SV → Bool
  | [] => true
  | x :: xs => x.sc nd nv nh && SV.scs nd nv nh xs
end
def SV.isUnd : SV → Bool
  | .und => true
  | _ => false
inductive Blk where
  | fix (cells : List SV) (wr : Bool) | rows (cs : List CT) (x : X) (h : Nat) | none
  deriving Inhabited
/-- a slice of which the data are told -/
structure Ent where
  i : Nat
  cs : List CT
  x : X
structure St where
  tm : List SV
  hp : List Blk
  nd : Nat
  nv : Nat
  bd : Bds
  kn : List (X × Bool)
  sl : List Ent
mutual
def CT.same : CT → CT → Bool
  | .int k, .int k' => k == k'
  | .bool, .bool | .str, .str => true
  | .sl a, .sl b => CT.sames a b
  | _, _ => false
def CT.sames : List CT → List CT → Bool
  | [], [] => true
  | x :: xs, y :: ys => x.same y && CT.sames xs ys
  | _, _ => false
end
def findR (i : Nat) : List Blk → Nat → Option (Nat × List CT × X)
  | [], _ => none
  | .rows cs x h :: l, j => if h = i then some (j, cs, x) else findR i l (j + 1)
  | _ :: l, j => findR i l (j + 1)
/-- the cells, data and, where it is owned, the block of a slice -/
def St.ent (st : St) (i : Nat) : Option (List CT × X × Option Nat) := match findR i st.hp 0 with
  | some (j, cs, x) => some (cs, x, some j)
  | none => match st.sl.find? (·.i == i) with
    | some e => some (e.cs, e.x, none)
    | none => none
def seek (b : X) : List (X × Bool) → Option Bool
  | [] => none
  | (c, t) :: l => if b.same c then some t else seek b l
def St.tell (st : St) (b : X) (t : Bool) : St := { st with bd := Fx.tell st.bd b t, kn := (b, t) :: st.kn }
def tIte {α : Type} (st : St) (b : X) (x y : St → T α) : T α := match b with
  | .B true => x st
  | .B false => y st
  | .not b => match seek b st.kn with
    | some true => y st
    | some false => x st
    | none => .ite b (y (st.tell b true)) (x (st.tell b false))
  | b => match seek b st.kn with
    | some true => x st
    | some false => y st
    | none => .ite b (x (st.tell b true)) (y (st.tell b false))
def tNeed {α : Type} (st : St) (b : X) (x : St → T α) : T α := match b with
  | .B true => x st
  | .B false => .fail 3
  | b => match seek b st.kn with
    | some true => x st
    | _ => .need b (x (st.tell b true))
def of1 : Value → SV
  | .int k z => .int k (.N z)
  | .bool b => .bool (.B b)
  | .string s => .str (.S s)
  | v => .con v
def ofVal : Value → SV
  | .agg cs => .agg (cs.toList.map of1)
  | v => of1 v
def scalarV : Value → Bool
  | .agg _ | .tuple _ => false
  | _ => true
def SV.scalar (has : Nat → Bool) : SV → Bool
  | .int .. | .bool _ | .str _ | .ptr .. | .row .. | .fn .. => true
  | .con v => scalarV v
  | .var i => has i
  | _ => false
def SV.cells (has : Nat → Bool) : SV → Option (List SV)
  | .agg l => some l
  | x => if x.scalar has then some [x] else none
def St.has (st : St) (i : Nat) : Bool := (st.ent i).isSome
/- Functions by recursors: what the kernel computes much faster than functions by cases. -/
noncomputable def getR {α : Type} (d : α) (l : List α) (n : Nat) : α := List.rec (motive := fun _ => Nat → α) (fun _ => d) (fun a _ ih n => Nat.rec (motive := fun _ => α) a (fun m _ => ih m) n) l n
theorem getR_eq {α : Type} {d : α} : ∀ (l : List α) (n : Nat), getR d l n = l.getD n d
  | [], _ => rfl
  | a :: l, 0 => rfl
  | a :: l, n + 1 => by show getR d l n = _; rw [getR_eq l n]; rfl
noncomputable def hasR (l : List Nat) (n : Nat) : Bool := List.rec (motive := fun _ => Bool) false (fun a _ ih => Bool.rec (motive := fun _ => Bool) ih true (Nat.beq a n)) l
theorem hasR_eq : ∀ (l : List Nat) (n : Nat), hasR l n = l.contains n
  | [], _ => rfl
  | a :: l, n => by
    show Bool.rec (motive := fun _ => Bool) (hasR l n) true (Nat.beq a n) = _
    rw [hasR_eq l n, List.contains_cons]
    by_cases e : a = n
    · subst e
      rw [show Nat.beq a a = true from Nat.beq_refl a]
      simp
    · have h : Nat.beq a n = false := by
        cases q : Nat.beq a n with
        | false => rfl
        | true => exact absurd (Nat.eq_of_beq_eq_true q) e
      rw [h]
      have h2 : (n == a) = false := by simp [Ne.symm e]
      simp [h2]
noncomputable def bA (x y : Bool) : Bool := Bool.rec (motive := fun _ => Bool) false y x
theorem bA_eq (x y : Bool) : bA x y = (x && y) := by cases x <;> rfl
theorem bA_true {x y : Bool} : bA x y = true ↔ x = true ∧ y = true := by rw [bA_eq, Bool.and_eq_true]
noncomputable def allR {α : Type} (p : α → Bool) (l : List α) : Bool := List.rec (motive := fun _ => Bool) true (fun a _ ih => bA (p a) ih) l
theorem allR_true {α : Type} {p : α → Bool} : ∀ {l : List α}, allR p l = true → ∀ x ∈ l, p x = true
  | [], _, x, h => by cases h
  | a :: l, e, x, h => by
    obtain ⟨e1, e2⟩ := bA_true.1 (show bA (p a) (allR p l) = true from e)
    rcases List.mem_cons.1 h with rfl | h
    · exact e1
    · exact allR_true e2 x h
noncomputable def lenQ {α : Type} (l : List α) : Nat := List.rec (motive := fun _ => Nat) 0 (fun _ _ n => Nat.succ n) l
theorem lenQ_eq {α : Type} : ∀ (l : List α), lenQ l = l.length
  | [] => rfl
  | a :: l => by show Nat.succ (lenQ l) = _; rw [lenQ_eq l]; rfl
theorem ble_lt {i n : Nat} : Nat.ble (Nat.succ i) n = decide (i < n) := by
  cases h : Nat.ble (Nat.succ i) n with
  | true => exact (decide_eq_true (Nat.le_of_ble_eq_true h)).symm
  | false => exact (decide_eq_false (fun q => by rw [Nat.ble_eq_true_of_le (show Nat.succ i ≤ n from q)] at h; cases h)).symm
noncomputable def X.scR (nd : Nat) (x : X) : Bool := X.rec (motive_1 := fun _ => Bool) (motive_2 := fun _ => Bool) (motive_3 := fun _ => Bool) (fun i => Nat.ble (Nat.succ i) nd) (fun _ => true) (fun _ => true) (fun _ => true) (fun _ _ h0 h1 => bA h0 h1) (fun _ _ h0 h1 => bA h0 h1) (fun _ _ h0 h1 => bA h0 h1) (fun _ _ h0 h1 => bA h0 h1) (fun _ _ h0 h1 => bA h0 h1) (fun _ _ h0 h1 => bA h0 h1) (fun _ _ h0 h1 => bA h0 h1) (fun _ _ h0 => h0) (fun _ h0 => h0) (fun _ _ h0 h1 => bA h0 h1) (fun _ _ h0 h1 => bA h0 h1) (fun _ _ h0 h1 => bA h0 h1) (fun _ _ h0 h1 => bA h0 h1) (fun _ _ h0 h1 => bA h0 h1) (fun _ _ _ h0 h1 => bA h0 h1) (fun _ h0 => h0) (fun _ _ h0 h1 => bA h0 h1) (fun _ _ _ _ h0 h1 h2 => bA (bA h0 h1) h2) (fun _ h0 => h0) (fun _ _ h0 h1 => bA h0 h1) (fun _ _ h0 h1 => bA h0 h1) (fun _ h0 => h0) (fun _ _ h0 h1 => bA h0 h1) (fun _ _ h0 h1 => bA h0 h1) (fun _ _ h0 h1 => bA h0 h1) (fun _ _ _ h0 h1 h2 => bA (bA h0 h1) h2) (fun _ _ _ h0 h1 h2 => bA (bA h0 h1) h2) (fun _ _ h0 h1 => bA h0 h1) (fun _ h0 => h0) (fun _ h0 => h0) true (fun _ _ h0 h1 => bA h0 h1) true (fun _ _ h0 h1 => bA h0 h1) x
noncomputable def X.scssR (nd : Nat) (x : List (List X)) : Bool := X.rec_1 (motive_1 := fun _ => Bool) (motive_2 := fun _ => Bool) (motive_3 := fun _ => Bool) (fun i => Nat.ble (Nat.succ i) nd) (fun _ => true) (fun _ => true) (fun _ => true) (fun _ _ h0 h1 => bA h0 h1) (fun _ _ h0 h1 => bA h0 h1) (fun _ _ h0 h1 => bA h0 h1) (fun _ _ h0 h1 => bA h0 h1) (fun _ _ h0 h1 => bA h0 h1) (fun _ _ h0 h1 => bA h0 h1) (fun _ _ h0 h1 => bA h0 h1) (fun _ _ h0 => h0) (fun _ h0 => h0) (fun _ _ h0 h1 => bA h0 h1) (fun _ _ h0 h1 => bA h0 h1) (fun _ _ h0 h1 => bA h0 h1) (fun _ _ h0 h1 => bA h0 h1) (fun _ _ h0 h1 => bA h0 h1) (fun _ _ _ h0 h1 => bA h0 h1) (fun _ h0 => h0) (fun _ _ h0 h1 => bA h0 h1) (fun _ _ _ _ h0 h1 h2 => bA (bA h0 h1) h2) (fun _ h0 => h0) (fun _ _ h0 h1 => bA h0 h1) (fun _ _ h0 h1 => bA h0 h1) (fun _ h0 => h0) (fun _ _ h0 h1 => bA h0 h1) (fun _ _ h0 h1 => bA h0 h1) (fun _ _ h0 h1 => bA h0 h1) (fun _ _ _ h0 h1 h2 => bA (bA h0 h1) h2) (fun _ _ _ h0 h1 h2 => bA (bA h0 h1) h2) (fun _ _ h0 h1 => bA h0 h1) (fun _ h0 => h0) (fun _ h0 => h0) true (fun _ _ h0 h1 => bA h0 h1) true (fun _ _ h0 h1 => bA h0 h1) x
noncomputable def X.scsR (nd : Nat) (x : List X) : Bool := X.rec_2 (motive_1 := fun _ => Bool) (motive_2 := fun _ => Bool) (motive_3 := fun _ => Bool) (fun i => Nat.ble (Nat.succ i) nd) (fun _ => true) (fun _ => true) (fun _ => true) (fun _ _ h0 h1 => bA h0 h1) (fun _ _ h0 h1 => bA h0 h1) (fun _ _ h0 h1 => bA h0 h1) (fun _ _ h0 h1 => bA h0 h1) (fun _ _ h0 h1 => bA h0 h1) (fun _ _ h0 h1 => bA h0 h1) (fun _ _ h0 h1 => bA h0 h1) (fun _ _ h0 => h0) (fun _ h0 => h0) (fun _ _ h0 h1 => bA h0 h1) (fun _ _ h0 h1 => bA h0 h1) (fun _ _ h0 h1 => bA h0 h1) (fun _ _ h0 h1 => bA h0 h1) (fun _ _ h0 h1 => bA h0 h1) (fun _ _ _ h0 h1 => bA h0 h1) (fun _ h0 => h0) (fun _ _ h0 h1 => bA h0 h1) (fun _ _ _ _ h0 h1 h2 => bA (bA h0 h1) h2) (fun _ h0 => h0) (fun _ _ h0 h1 => bA h0 h1) (fun _ _ h0 h1 => bA h0 h1) (fun _ h0 => h0) (fun _ _ h0 h1 => bA h0 h1) (fun _ _ h0 h1 => bA h0 h1) (fun _ _ h0 h1 => bA h0 h1) (fun _ _ _ h0 h1 h2 => bA (bA h0 h1) h2) (fun _ _ _ h0 h1 h2 => bA (bA h0 h1) h2) (fun _ _ h0 h1 => bA h0 h1) (fun _ h0 => h0) (fun _ h0 => h0) true (fun _ _ h0 h1 => bA h0 h1) true (fun _ _ h0 h1 => bA h0 h1) x
mutual
theorem X.scR_eq {nd : Nat} : ∀ (x : X), X.scR nd x = x.sc nd
  | .V n0 => by simp only [X.sc]; exact ble_lt
  | .N n0 => by simp only [X.sc]; rfl
  | .B n0 => by simp only [X.sc]; rfl
  | .S n0 => by simp only [X.sc]; rfl
  | .add x0 x1 => by show bA (X.scR nd x0) (X.scR nd x1) = _; rw [X.scR_eq x0, X.scR_eq x1]; simp only [X.sc, bA_eq]
  | .sub x0 x1 => by show bA (X.scR nd x0) (X.scR nd x1) = _; rw [X.scR_eq x0, X.scR_eq x1]; simp only [X.sc, bA_eq]
  | .mul x0 x1 => by show bA (X.scR nd x0) (X.scR nd x1) = _; rw [X.scR_eq x0, X.scR_eq x1]; simp only [X.sc, bA_eq]
  | .quo x0 x1 => by show bA (X.scR nd x0) (X.scR nd x1) = _; rw [X.scR_eq x0, X.scR_eq x1]; simp only [X.sc, bA_eq]
  | .rem x0 x1 => by show bA (X.scR nd x0) (X.scR nd x1) = _; rw [X.scR_eq x0, X.scR_eq x1]; simp only [X.sc, bA_eq]
  | .mx x0 x1 => by show bA (X.scR nd x0) (X.scR nd x1) = _; rw [X.scR_eq x0, X.scR_eq x1]; simp only [X.sc, bA_eq]
  | .mn x0 x1 => by show bA (X.scR nd x0) (X.scR nd x1) = _; rw [X.scR_eq x0, X.scR_eq x1]; simp only [X.sc, bA_eq]
  | .wr n0 x1 => by show X.scR nd x1 = _; rw [X.scR_eq x1]; simp only [X.sc, bA_eq]
  | .not x0 => by show X.scR nd x0 = _; rw [X.scR_eq x0]; simp only [X.sc, bA_eq]
  | .lt x0 x1 => by show bA (X.scR nd x0) (X.scR nd x1) = _; rw [X.scR_eq x0, X.scR_eq x1]; simp only [X.sc, bA_eq]
  | .eq x0 x1 => by show bA (X.scR nd x0) (X.scR nd x1) = _; rw [X.scR_eq x0, X.scR_eq x1]; simp only [X.sc, bA_eq]
  | .beq x0 x1 => by show bA (X.scR nd x0) (X.scR nd x1) = _; rw [X.scR_eq x0, X.scR_eq x1]; simp only [X.sc, bA_eq]
  | .and x0 x1 => by show bA (X.scR nd x0) (X.scR nd x1) = _; rw [X.scR_eq x0, X.scR_eq x1]; simp only [X.sc, bA_eq]
  | .seq x0 x1 => by show bA (X.scR nd x0) (X.scR nd x1) = _; rw [X.scR_eq x0, X.scR_eq x1]; simp only [X.sc, bA_eq]
  | .at x0 x1 n2 => by show bA (X.scR nd x0) (X.scR nd x1) = _; rw [X.scR_eq x0, X.scR_eq x1]; simp only [X.sc, bA_eq]
  | .len x0 => by show X.scR nd x0 = _; rw [X.scR_eq x0]; simp only [X.sc, bA_eq]
  | .app x0 x1 => by show bA (X.scR nd x0) (X.scR nd x1) = _; rw [X.scR_eq x0, X.scR_eq x1]; simp only [X.sc, bA_eq]
  | .put x0 x1 n2 x3 => by show bA (bA (X.scR nd x0) (X.scR nd x1)) (X.scR nd x3) = _; rw [X.scR_eq x0, X.scR_eq x1, X.scR_eq x3]; simp only [X.sc, bA_eq]
  | .rows r0 => by show X.scssR nd r0 = _; rw [X.scssR_eq r0]; simp only [X.sc, bA_eq]
  | .take x0 x1 => by show bA (X.scR nd x0) (X.scR nd x1) = _; rw [X.scR_eq x0, X.scR_eq x1]; simp only [X.sc, bA_eq]
  | .drop x0 x1 => by show bA (X.scR nd x0) (X.scR nd x1) = _; rw [X.scR_eq x0, X.scR_eq x1]; simp only [X.sc, bA_eq]
  | .slen x0 => by show X.scR nd x0 = _; rw [X.scR_eq x0]; simp only [X.sc, bA_eq]
  | .sat x0 x1 => by show bA (X.scR nd x0) (X.scR nd x1) = _; rw [X.scR_eq x0, X.scR_eq x1]; simp only [X.sc, bA_eq]
  | .scat x0 x1 => by show bA (X.scR nd x0) (X.scR nd x1) = _; rw [X.scR_eq x0, X.scR_eq x1]; simp only [X.sc, bA_eq]
  | .rep x0 l1 => by show bA (X.scR nd x0) (X.scsR nd l1) = _; rw [X.scR_eq x0, X.scsR_eq l1]; simp only [X.sc, bA_eq]
  | .cond x0 x1 x2 => by show bA (bA (X.scR nd x0) (X.scR nd x1)) (X.scR nd x2) = _; rw [X.scR_eq x0, X.scR_eq x1, X.scR_eq x2]; simp only [X.sc, bA_eq]
  | .ssub x0 x1 x2 => by show bA (bA (X.scR nd x0) (X.scR nd x1)) (X.scR nd x2) = _; rw [X.scR_eq x0, X.scR_eq x1, X.scR_eq x2]; simp only [X.sc, bA_eq]
  | .slt x0 x1 => by show bA (X.scR nd x0) (X.scR nd x1) = _; rw [X.scR_eq x0, X.scR_eq x1]; simp only [X.sc, bA_eq]
  | .sbytes x0 => by show X.scR nd x0 = _; rw [X.scR_eq x0]; simp only [X.sc, bA_eq]
  | .bstr x0 => by show X.scR nd x0 = _; rw [X.scR_eq x0]; simp only [X.sc, bA_eq]
theorem X.scssR_eq {nd : Nat} : ∀ (x : List (List X)), X.scssR nd x = X.scss nd x
  | [] => by simp only [X.scss]; rfl
  | x :: xs => by show bA (X.scsR nd x) (X.scssR nd xs) = _; rw [X.scsR_eq x, X.scssR_eq xs]; simp only [X.scss, bA_eq]
theorem X.scsR_eq {nd : Nat} : ∀ (x : List X), X.scsR nd x = X.scs nd x
  | [] => by simp only [X.scs]; rfl
  | x :: xs => by show bA (X.scR nd x) (X.scsR nd xs) = _; rw [X.scR_eq x, X.scsR_eq xs]; simp only [X.scs, bA_eq]
end
noncomputable def SV.scR (nd nv nh : Nat) (x : SV) : Bool := SV.rec (motive_1 := fun _ => Bool) (motive_2 := fun _ => Bool) (fun _ e => X.scR nd e) (fun e => X.scR nd e) (fun e => X.scR nd e) (fun _ => true) (fun i => Nat.ble (Nat.succ i) nv) (fun i e _ _ => bA (Nat.ble (Nat.succ i) nv) (X.scR nd e)) (fun i _ => Nat.ble (Nat.succ i) nh) (fun i _ e _ => bA (Nat.ble (Nat.succ i) nh) (X.scR nd e)) (fun i _ _ _ => Nat.ble (Nat.succ i) nh) (fun _ h => h) (fun _ h => h) (fun _ _ _ h0 h1 => bA h0 h1) false true (fun _ _ h0 h1 => bA h0 h1) x
noncomputable def SV.scsR (nd nv nh : Nat) (x : List SV) : Bool := SV.rec_1 (motive_1 := fun _ => Bool) (motive_2 := fun _ => Bool) (fun _ e => X.scR nd e) (fun e => X.scR nd e) (fun e => X.scR nd e) (fun _ => true) (fun i => Nat.ble (Nat.succ i) nv) (fun i e _ _ => bA (Nat.ble (Nat.succ i) nv) (X.scR nd e)) (fun i _ => Nat.ble (Nat.succ i) nh) (fun i _ e _ => bA (Nat.ble (Nat.succ i) nh) (X.scR nd e)) (fun i _ _ _ => Nat.ble (Nat.succ i) nh) (fun _ h => h) (fun _ h => h) (fun _ _ _ h0 h1 => bA h0 h1) false true (fun _ _ h0 h1 => bA h0 h1) x
mutual
theorem SV.scR_eq {nd nv nh : Nat} : ∀ (x : SV), SV.scR nd nv nh x = x.sc nd nv nh
  | .int k e => by show X.scR nd e = _; rw [X.scR_eq]; simp only [SV.sc]
  | .bool e => by show X.scR nd e = _; rw [X.scR_eq]; simp only [SV.sc]
  | .str e => by show X.scR nd e = _; rw [X.scR_eq]; simp only [SV.sc]
  | .con v => by simp only [SV.sc]; rfl
  | .var i => by simp only [SV.sc]; exact ble_lt
  | .el i e n o => by show bA (Nat.ble (Nat.succ i) nv) (X.scR nd e) = _; rw [X.scR_eq, ble_lt]; simp only [SV.sc, bA_eq]
  | .ptr i o => by simp only [SV.sc]; exact ble_lt
  | .pel i o e l => by show bA (Nat.ble (Nat.succ i) nh) (X.scR nd e) = _; rw [X.scR_eq, ble_lt]; simp only [SV.sc, bA_eq]
  | .row i o l c => by simp only [SV.sc]; exact ble_lt
  | .agg l => by show SV.scsR nd nv nh l = _; rw [SV.scsR_eq l]; simp only [SV.sc]
  | .tuple l => by show SV.scsR nd nv nh l = _; rw [SV.scsR_eq l]; simp only [SV.sc]
  | .fn f x c => by show bA (SV.scsR nd nv nh x) (SV.scsR nd nv nh c) = _; rw [SV.scsR_eq x, SV.scsR_eq c]; simp only [SV.sc, bA_eq]
  | .und => by simp only [SV.sc]; rfl
theorem SV.scsR_eq {nd nv nh : Nat} : ∀ (x : List SV), SV.scsR nd nv nh x = SV.scs nd nv nh x
  | [] => by simp only [SV.scs]; rfl
  | x :: xs => by show bA (SV.scR nd nv nh x) (SV.scsR nd nv nh xs) = _; rw [SV.scR_eq x, SV.scsR_eq xs]; simp only [SV.scs, bA_eq]
end
noncomputable def SV.okR (nd nv nh : Nat) (x : SV) : Bool := Bool.rec (motive := fun _ => Bool) (SV.scR nd nv nh x) true (SV.rec (motive_1 := fun _ => Bool) (motive_2 := fun _ => Bool) (fun _ _ => false) (fun _ => false) (fun _ => false) (fun _ => false) (fun _ => false) (fun _ _ _ _ => false) (fun _ _ => false) (fun _ _ _ _ => false) (fun _ _ _ _ => false) (fun _ _ => false) (fun _ _ => false) (fun _ _ _ _ _ => false) true true (fun _ _ _ _ => false) x)
theorem SV.okR_true {nd nv nh : Nat} {x : SV} (h : SV.okR nd nv nh x = true) (hu : x.isUnd = false) : x.sc nd nv nh = true := by
  rw [← SV.scR_eq]
  cases x <;> first | exact h | (simp only [SV.isUnd] at hu; cases hu)
theorem SV.okR_all {nd nv nh : Nat} {x : SV} (h : SV.okR nd nv nh x = true) : (x.isUnd || x.sc nd nv nh) = true := by
  cases hu : x.isUnd with
  | true => rfl
  | false => rw [SV.okR_true h hu]; rfl
noncomputable def Blk.scR (nd nv nh : Nat) (b : Blk) : Bool := Blk.rec (motive := fun _ => Bool) (fun cells _ => allR (SV.okR nd nv nh) cells) (fun _ x h => bA (X.scR nd x) (Nat.ble (Nat.succ h) nv)) true b
/-- package-level variables of which it is told what they hold: block and cells -/
def gtab : List (Nat × List Value) := []
def globS (g : Nat) : Option (List SV) := match gtab.find? (·.1 == g) with
  | some p => some (p.2.map of1)
  | none => none
def evalO (st : St) : Operand → SV
  | .tmp t => getR .und st.tm t
  | .const v => ofVal v
  | .global g => .con (.pointer (some ⟨g, 0, none⟩))
  | .func f => .fn f [] []
def Blk.sc (nd nv nh : Nat) : Blk → Bool
  | .fix cells _ => cells.all fun x => x.isUnd || x.sc nd nv nh
  | .rows _ x h => x.sc nd && decide (h < nv)
  | .none => true
def St.nh (st : St) : Nat := st.hp.length
theorem Blk.scR_true {nd nv nh : Nat} {b : Blk} (h : Blk.scR nd nv nh b = true) : Blk.sc nd nv nh b = true := by
  cases b with
  | fix c w => exact List.all_eq_true.2 fun x hx => SV.okR_all (allR_true (show allR (SV.okR nd nv nh) c = true from h) x hx)
  | rows cs x i =>
    obtain ⟨h1, h2⟩ := bA_true.1 (show bA (X.scR nd x) (Nat.ble (Nat.succ i) nv) = true from h)
    rw [X.scR_eq] at h1
    rw [ble_lt] at h2
    simp only [Blk.sc, h1, h2, Bool.and_self]
  | none => rfl
def St.scoped (st : St) : Bool := bA (allR (SV.okR st.nd st.nv (lenQ st.hp)) st.tm) (bA (allR (Blk.scR st.nd st.nv (lenQ st.hp)) st.hp) (bA (allR (fun p => X.scR st.nd p.1) st.kn) (bA (allR (fun e => bA (Nat.ble (Nat.succ e.i) st.nv) (X.scR st.nd e.x)) st.sl) (Nat.ble (lenQ st.bd) st.nd))))
def St.new (st : St) (cells : List SV) : T (SV × St) :=
  if st.scoped && SV.scs st.nd st.nv st.nh cells then .ret (.ptr st.hp.length 0, { st with hp := st.hp ++ [.fix cells true] }) else .fail 1
section
variable (P : Program)
def isAggB (t : TypeId) : Bool := match P.underlying t with
  | some (.struct _) | some (.array _ _) => true
  | _ => false
def sizeB (t : TypeId) : Option Nat := (P.info? t).map (·.size)
def zeroB (t : TypeId) : Option SV := match P.info? t with
  | some i => i.zero.map ofVal
  | none => none
/-- what the cells of a type hold -/
def ctsOf : Nat → TypeId → Option (List CT)
  | 0, _ => none
  | n + 1, t => match P.underlying t with
    | some (.int k) => some [.int k]
    | some .bool => some [.bool]
    | some .string => some [.str]
    | some (.slice e) => (ctsOf n e).map fun cs => [.sl cs]
    | some (.struct fields) => fields.toList.foldr (fun f l => match ctsOf n f.type, l with
      | some a, some b => some (a ++ b)
      | _, _ => none) (some [])
    | some (.array len e) => (ctsOf n e).map fun cs => (List.replicate len cs).flatten
    | _ => none
/-- the part of cells at an offset, as a value of a type -/
def partS (t : TypeId) (cs : List SV) (off : Nat) : Option SV :=
  if (P.underlying t).isNone then none else if isAggB P t then (sizeB P t).map fun n => .agg ((cs.drop off).take n) else cs[off]?
/-- cells i .. i + n - 1 -/
def readN (cs : List SV) (i : Nat) : Nat → Option (List SV)
  | 0 => some []
  | n + 1 => match cs[i]?, readN cs (i + 1) n with
    | some x, some l => if x.isUnd then none else some (x :: l)
    | _, _ => none
def loadS (hp : List Blk) (t : TypeId) (i o : Nat) : Option SV := match hp[i]? with
  | some (.fix cells _) => (match P.underlying t, sizeB P t with
    | some _, some n => if isAggB P t then (readN cells o n).map .agg else match cells[o]? with
      | some x => if x.isUnd then none else some x
      | none => none
    | _, _ => none)
  | _ => none
def setN (has : Nat → Bool) (cs : List SV) (i : Nat) : List SV → Option (List SV)
  | [] => some cs
  | x :: xs => if i < cs.length ∧ x.scalar has then setN has (cs.set i x) (i + 1) xs else none
def storeS (has : Nat → Bool) (hp : List Blk) (t : TypeId) (i o : Nat) (x : SV) : Option (List Blk) := match hp[i]?, sizeB P t, x.cells has with
  | some (.fix cells true), some n, some l => if l.length = n then (setN has cells o l).map fun cs => hp.set i (.fix cs true) else none
  | _, _, _ => none
def fillS (has : Nat → Bool) (place : Nat → Option (Nat × Nat)) (cells : List SV) : List (Nat × SV) → Option (List SV)
  | [] => some cells
  | (i, v) :: rest => match place i, v.cells has with
    | some (off, size), some l => if l.length ≠ size ∨ off + l.length > cells.length then none else fillS has place (cells.take off ++ l ++ cells.drop (off + l.length)) rest
    | _, _ => none
def placesS (fields : List Field) : Option (List (Nat × Nat)) := match fields with
  | [] => some []
  | f :: fs => match sizeB P f.type, placesS fs with
    | some n, some l => some ((f.offset, n) :: l)
    | _, _ => none
def xAt (l i : X) (c : Nat) : X := match l, i with
  | .rows r, .N z => (match r[z.toNat]? with
    | some row => (match row[c]? with
      | some x => x
      | none => .at l i c)
    | none => .at l i c)
  | _, _ => .at l i c
def xLen : X → X
  | .rows r => if r.length ≤ 1000000 then .N r.length else .len (.rows r)
  | .put l i c x => xLen l
  | .rep n r => (match n with
    | .len l => .len l
    | n => .len (.rep n r))
  | l => .len l
def xApp : X → X → X
  | .rows a, .rows b => .rows (a ++ b)
  | .rows [], b => .app (.rows []) b
  | .app a (.rows b), .rows c => .app a (.rows (b ++ c))
  | a, b => .app a b
/-- so many rows, all the same -/
def xRep (n : X) (row : List X) : X := match n with
  | .N z => if z ≤ 64 then .rows (List.replicate z.toNat row) else .rep n row
  | n => .rep n row
def xTake : X → X → X
  | .rows r, .N z => .rows (r.take z.toNat)
  | x, n => .take x n
def xDrop : X → X → X
  | .rows r, .N z => .rows (r.drop z.toNat)
  | x, n => .drop x n
def xMn : X → X → X
  | .N a, .N b => .N (min a b)
  | a, b => .mn a b
def xSlen : X → X
  | .S s => if s.size ≤ 1000000 then .N s.size else .slen (.S s)
  | s => .slen s
def xScat : X → X → X
  | .S s, .S t => .S (s ++ t)
  | s, t => .scat s t
/-- cells of a row, as values; slices in them are told from handle v on -/
def readC (x e : X) : Nat → List CT → Nat → List SV × List Ent
  | _, [], _ => ([], [])
  | c, .int k :: l, v => let r := readC x e (c + 1) l v; (.int k (xAt x e c) :: r.1, r.2)
  | c, .bool :: l, v => let r := readC x e (c + 1) l v; (.bool (xAt x e c) :: r.1, r.2)
  | c, .str :: l, v => let r := readC x e (c + 1) l v; (.str (xAt x e c) :: r.1, r.2)
  | c, .sl cs :: l, v => let r := readC x e (c + 1) l (v + 1); (.var v :: r.1, ⟨v, cs, xAt x e c⟩ :: r.2)
def opt {α : Type} (n : Nat) : Option α → T α
  | some a => .ret a
  | none => .fail n
/-- the place of an index, in a row of so many: with a case for each where it is no number -/
def pick {α : Type} (st : St) (e : X) (k : Nat → St → T α) : (n : Nat) → (i : Nat) → T α
  | 0, _ => .fail 2
  | n + 1, i => tIte st (bEq st.bd e (.N i)) (k i) fun st' => pick st' e k n (i + 1)
def within (st : St) (e len : X) : X := bAnd (bLe st.bd (.N 0) e) (bLt st.bd e len)
def indexed {α : Type} (st : St) (e : X) (len : Nat) (k : Nat → St → T α) : T α :=
  tNeed st (within st e (.N len)) fun st => match e with
    | .N z => k z.toNat st
    | e => if len ≤ 20 then pick st e k len 0 else .fail 4
def boundS (d : Nat) : Option SV → Option Nat
  | none => some d
  | some (.int _ (.N z)) => if 0 ≤ z then some z.toNat else none
  | _ => none
def boundX (d : X) : Option SV → Option X
  | none => some d
  | some (.int _ e) => some e
  | _ => none
def intOp (st : St) (op : BinOp) (k : IntKind) (a b : X) : T (SV × St) := match op with
  | .add => .ret (.int k (mk st.bd k (.add a b)), st)
  | .sub => .ret (.int k (subX st.bd k a b), st)
  | .mul => .ret (.int k (mk st.bd k (.mul a b)), st)
  | .quo => tNeed st (bNot (bEq st.bd b (.N 0))) fun st => .ret (.int k (mk st.bd k (.quo a b)), st)
  | .rem => tNeed st (bNot (bEq st.bd b (.N 0))) fun st => .ret (.int k (remX st.bd a b), st)
  | .eql => .ret (.bool (bEq st.bd a b), st)
  | .neq => .ret (.bool (bNot (bEq st.bd a b)), st)
  | .lss => .ret (.bool (bLt st.bd a b), st)
  | .leq => .ret (.bool (bLe st.bd a b), st)
  | .gtr => .ret (.bool (bLt st.bd b a), st)
  | .geq => .ret (.bool (bLe st.bd b a), st)
  | _ => .fail 5
/-- two values of a type, compared -/
def eqT (bd : Bds) : Nat → TypeId → SV → SV → Option X
  | 0, _, _, _ => none
  | n + 1, t, x, y => match P.underlying t, x, y with
    | some .bool, .bool a, .bool b => some (.beq a b)
    | some (.int _), .int k a, .int k' b => if k = k' then some (bEq bd a b) else none
    | some .string, .str a, .str b => some (.seq a b)
    | some (.struct fields), .agg xs, .agg ys => if P.stoodInHeld t then none else fields.toList.foldr (fun f acc => if f.name = "_" then acc else match partS P f.type xs f.offset, partS P f.type ys f.offset with
      | some u, some v => (match eqT bd n f.type u v, acc with
        | some a, some b => some (bAnd a b)
        | _, _ => none)
      | _, _ => none) (some (.B true))
    | _, _, _ => none
/-- a number that is not below 0, shifted to the right by a constant -/
def shrS (st : St) (k : IntKind) (a : X) (c : Int) : T (SV × St) := match a.rng st.bd with
  | some (l, _) => if 0 ≤ l ∧ 0 ≤ c ∧ c.toNat ≤ k.bits then .ret (.int k ((X.quo a (.N (2 ^ c.toNat))).nf st.bd), st) else .fail 118
  | none => .fail 119
def binS (st : St) (op : BinOp) (t : TypeId) (x y : SV) : T (SV × St) := match op, x, y with
  | .shr, .int k a, .int _ (.N c) => shrS st k a c
  | op, .int k a, .int k' b => if k = k' then intOp st op k a b else .fail 6
  | .eql, .bool a, .bool b => (match P.underlying t with
    | some .bool => .ret (.bool (.beq a b), st)
    | _ => .fail 8)
  | .neq, .bool a, .bool b => (match P.underlying t with
    | some .bool => .ret (.bool (bNot (.beq a b)), st)
    | _ => .fail 9)
  | .add, .str a, .str b => tNeed st (bLe st.bd (.add (xSlen a) (xSlen b)) (.N 9223372036854775807)) fun st => .ret (.str (xScat a b), st)
  | .lss, .str a, .str b => .ret (.bool (.slt a b), st)
  | .geq, .str a, .str b => .ret (.bool (bNot (.slt a b)), st)
  | .leq, .str a, .str b => .ret (.bool (bNot (.and (bNot (.slt a b)) (bNot (.seq a b)))), st)
  | .gtr, .str a, .str b => .ret (.bool (.and (bNot (.slt a b)) (bNot (.seq a b))), st)
  | .eql, .str a, .str b => .ret (.bool (.seq a b), st)
  | .neq, .str a, .str b => .ret (.bool (bNot (.seq a b)), st)
  | .eql, .agg a, .agg b => if P.eqGuardType P.depth t then .fail 8 else (match eqT P st.bd 20 t (.agg a) (.agg b) with
    | some x => .ret (.bool x, st)
    | none => .fail 8)
  | .neq, .agg a, .agg b => if P.eqGuardType P.depth t then .fail 8 else (match eqT P st.bd 20 t (.agg a) (.agg b) with
    | some x => .ret (.bool (bNot x), st)
    | none => .fail 9)
  | _, _, _ => .fail 7
/-- a value as data of a cell -/
def argX (st : St) (own : Bool) : CT → SV → Option X
  | .int k, .int k' e => if k = k' then some e else none
  | .bool, .bool e => some e
  | .str, .str e => some e
  | .sl cs, .var i => match st.ent i with
    | some (cs', x, r) => if CT.sames cs cs' && (own || r.isNone) then some x else none
    | none => none
  | .sl _, .con (.slice none 0 0) => some (.rows [])
  | _, _ => none
def argXs (st : St) (own : Bool) : List CT → List SV → Option (List X)
  | [], [] => some []
  | c :: cs, x :: xs => match argX st own c x, argXs st own cs xs with
    | some a, some l => some (a :: l)
    | _, _ => none
  | _, _ => none
/-- cells as rows of so many -/
def chunks (st : St) (cs : List CT) : Nat → List SV → Option (List (List X))
  | 0, [] => some []
  | n + 1, l => match argXs st false cs (l.take cs.length), chunks st cs n (l.drop cs.length) with
    | some r, some rs => some (r :: rs)
    | _, _ => none
  | _, _ => none
def St.own (st : St) (cs : List CT) (x : X) : T (SV × St) :=
  if st.scoped && x.sc st.nd then .ret (.var st.nv, { st with nv := st.nv + 1, hp := st.hp ++ [.rows cs x st.nv] }) else .fail 102
mutual
/-- the slices and blocks that a value names -/
def SV.refV : SV → List Nat
  | .var i | .el i _ _ _ => [i]
  | .agg l | .tuple l => SV.refVs l
  | .fn _ x c => SV.refVs x ++ SV.refVs c
  | _ => []
def SV.refVs : List SV → List Nat
  | [] => []
  | x :: xs => x.refV ++ SV.refVs xs
end
/-- slices that are owned no longer: nobody writes their cells any more -/
def St.freeze (st : St) : List Nat → St
  | [] => st
  | i :: l => match findR i st.hp 0 with
    | some (j, cs, x) => St.freeze { st with hp := st.hp.set j .none, sl := st.sl ++ [⟨i, cs, x⟩] } l
    | none => St.freeze st l
/-- an owned row changes its value, and is told by a new handle -/
def St.renew (st : St) (j : Nat) (cs : List CT) (x : X) : T (SV × St) :=
  if st.scoped && x.sc st.nd then .ret (.var st.nv, { st with nv := st.nv + 1, hp := st.hp.set j (.rows cs x st.nv) }) else .fail 140
/-- the cells, where there are any, and the data of a slice -/
def St.told (st : St) : SV → Option (Option (List CT) × X)
  | .var i => (st.ent i).map fun e => (some e.1, e.2.1)
  | .con (.slice none 0 0) => some (none, .rows [])
  | _ => none
def SV.notVar (k : Nat) : SV → Bool
  | .var i => i != k
  | _ => true
/-- cells of a row that are written one after the other -/
def putN (l e : X) : Nat → List X → X
  | _, [] => l
  | o, x :: xs => putN (.put l e o x) e (o + 1) xs
section
variable (P : Program)
def appendS (st : St) (e : TypeId) (a b : SV) : T (SV × St) := match P.info? e, ctsOf P 20 e, st.told b with
  | some i, some cs, some (cb, y) =>
    if i.size = cs.length ∧ i.zero.map (·.cells.size) = some i.size ∧ 0 < cs.length ∧ 0 < i.bytes ∧ cb.all (CT.sames cs) = true ∧ y.sc st.nd = true then match a with
      | .var k => (match findR k st.hp 0 with
        | some (j, ca, x) => if CT.sames ca cs && b.notVar k then
            tNeed st (bLe st.bd (.add (xLen x) (xLen y)) (.N (140737488355328 / i.bytes : Nat))) fun st => st.renew j cs (xApp x y)
          else .fail 141
        | none => .fail 142)
      | .con (.slice none 0 0) => tNeed st (bLe st.bd (xLen y) (.N (140737488355328 / i.bytes : Nat))) fun st => st.own cs y
      | _ => .fail 143
    else .fail 144
  | _, _, _ => .fail 145
def overX (y n : X) (r c : Nat) (old : X) : X := match n with
  | .N m => if (r : Int) < m then xAt y (.N r) c else old
  | n => .cond (.lt (.N r) n) (xAt y (.N r) c) old
/-- cells of a block over which rows are copied, as far as they go -/
def overC (y n : X) (cs : List CT) : Nat → Nat → List SV → Option (List SV)
  | _, _, [] => some []
  | r, c, x :: xs =>
    match (match cs[c]?, x with
      | some (.int k), .int k' old => if k = k' then some (SV.int k (overX y n r c old)) else none
      | some .bool, .bool old => some (.bool (overX y n r c old))
      | some .str, .str old => some (.str (overX y n r c old))
      | _, _ => none), (if c + 1 < cs.length then overC y n cs r (c + 1) xs else overC y n cs (r + 1) 0 xs) with
    | some v, some l => some (v :: l)
    | _, _ => none
def copyS (st : St) (e : TypeId) (a b : SV) : T (SV × St) := match sizeB P e, st.told b with
  | some size, some (cb, y) => match a with
    | .var k => (match findR k st.hp 0 with
      | some (j, cs, x) => if size = cs.length ∧ 0 < size ∧ cb.all (CT.sames cs) = true ∧ b.notVar k = true ∧ y.sc st.nd = true ∧ st.scoped = true then
          let n := xMn (xLen x) (xLen y)
          .ret (.int .i64 n, { st with hp := st.hp.set j (.rows cs (xApp (xTake y n) (xDrop x n)) k) })
        else .fail 146
      | none => .fail 147)
    | .row i o l _ => (match st.hp[i]?, cb with
      | some (.fix cells true), some cs => if size = cs.length ∧ 0 < size ∧ o + l * size ≤ cells.length ∧ y.sc st.nd = true ∧ st.scoped = true then
          let n := xMn (.N l) (xLen y)
          match overC y n cs 0 0 ((cells.drop o).take (l * size)) with
          | some new => .ret (.int .i64 n, { st with hp := st.hp.set i (.fix (cells.take o ++ new ++ cells.drop (o + l * size)) true) })
          | none => .fail 148
        else .fail 149
      | _, _ => .fail 150)
    | _ => .fail 151
  | _, _ => .fail 152
def sliceV (st : St) (t : TypeId) (i : Nat) (lo hi mx : Option Operand) : T (SV × St) := match P.underlying t, st.ent i, boundX (.N 0) (lo.map (evalO st)), boundX (.N 0) (hi.map (evalO st)), mx with
  | some (.slice elem), some (cs, y, none), some lo', some hi', none => match sizeB P elem with
    | some n =>
      let h := if hi.isSome then hi' else xLen y
      if n = cs.length ∧ st.scoped = true ∧ (y.sc st.nd && lo'.sc st.nd && hi'.sc st.nd) = true then
        tNeed st (bAnd (bLe st.bd (.N 0) lo') (bAnd (bLe st.bd lo' h) (bLe st.bd h (xLen y)))) fun st =>
          .ret (.var st.nv, { st with nv := st.nv + 1, sl := st.sl ++ [⟨st.nv, cs, let z := if hi.isSome then .take y hi' else y; if lo.isSome then .drop z lo' else z⟩] })
      else .fail 125
    | none => .fail 126
  | _, _, _, _, _ => .fail 127
/-- the beginning of an owned row: it is owned on, and its old handle is told no longer -/
def sliceO (st : St) (t : TypeId) (j : Nat) (cs : List CT) (y : X) (hi : Operand) : T (SV × St) := match P.underlying t, evalO st hi with
  | some (.slice elem), .int _ h => match sizeB P elem with
    | some n => if n = cs.length ∧ (y.sc st.nd && h.sc st.nd) = true then
        tNeed st (bAnd (bLe st.bd (.N 0) h) (bLe st.bd h (xLen y))) fun st => st.renew j cs (xTake y h)
      else .fail 153
    | none => .fail 154
  | _, _ => .fail 155
/-- values written into a cell of an owned row and those behind it -/
def storeR (st : St) (i : Nat) (e : X) (n o : Nat) (l : List SV) : T (SV × St) := match findR i st.hp 0 with
  | some (j, cs, x) => match argXs st false ((cs.drop o).take l.length) l with
    | some xs => if n = cs.length ∧ o + l.length ≤ cs.length then
        tNeed st (within st e (xLen x)) fun st => .ret (.con undef, { st with hp := st.hp.set j (.rows cs (putN x e o xs) i) }) else .fail 122
    | none => .fail 123
  | none => .fail 124
end
def intsX (k : IntKind) : List SV → Option (List (List X))
  | [] => some []
  | .int k' x :: l => if k = k' then (intsX k l).map ([x] :: ·) else none
  | _ => none
def boolsX : List SV → Option (List (List X))
  | [] => some []
  | .bool x :: l => (boolsX l).map ([x] :: ·)
  | _ => none
/-- one of some cells that are all numbers of a kind, or all truths -/
def pelS (e : X) (cs : List SV) : Option SV := match cs with
  | .int k _ :: _ => (intsX k cs).map fun r => .int k (.at (.rows r) e 0)
  | .bool _ :: _ => (boolsX cs).map fun r => .bool (.at (.rows r) e 0)
  | _ => none
/-- one operation that is no call of a function: its value, and the state behind it -/
def opS (st : St) (o : Op) : T (SV × St) := match o with
  | .move x | .assign x => .ret (evalO st x, st)
  | .pick c a b => match evalO st c with
    | .bool q => tIte st q (fun s => .ret (evalO s a, s)) fun s => .ret (evalO s b, s)
    | _ => .fail 10
  | .alloc t => match zeroB P t with
    | some z => match z.cells (fun _ => false) with
      | some cs => st.new cs
      | none => .fail 11
    | none => .fail 12
  | .box _ x => match (evalO st x).cells st.has with
    | some cs => st.new cs
    | none => .fail 13
  | .build t parts => match zeroB P t, P.underlying t with
    | some z, some (.struct fields) => match z.cells (fun _ => false), placesS P fields.toList with
      | some cs, some pl => match fillS st.has (pl[·]?) cs (parts.toList.map fun (i, x) => (i, evalO st x)) with
        | some l => .ret (.agg l, st)
        | none => .fail 14
      | _, _ => .fail 15
    | some z, some (.array _ elem) => match z.cells (fun _ => false), sizeB P elem with
      | some cs, some size => match fillS st.has (fun i => some (i * size, size)) cs (parts.toList.map fun (i, x) => (i, evalO st x)) with
        | some l => .ret (.agg l, st.freeze (SV.refVs l))
        | none => .fail 16
      | _, _ => .fail 17
    | _, _ => .fail 18
  | .buildSlice t len parts => match P.underlying t with
    | some (.slice elem) => match sizeB P elem, zeroB P elem with
      | some size, some z => match z.cells (fun _ => false) with
        | some cs => if cs.length = size ∧ 0 < size ∧ len * size ≤ 1000 then match fillS st.has (fun i => some (i * size, size)) ((List.replicate len cs).flatten) (parts.toList.map fun (i, x) => (i, evalO st x)) with
          | some l => match ctsOf P 20 elem with
            | some ct => (match chunks (st.freeze (SV.refVs l)) ct len l with
              | some rows => if ct.length = size then (st.freeze (SV.refVs l)).own ct (.rows rows) else .fail 103
              | none => .fail 104)
            | none => (st.new l).then fun r => match r.1 with
              | .ptr i o => .ret (.row i o len len, r.2)
              | _ => .fail 19
          | none => .fail 20
          else .fail 21
        | none => .fail 22
      | _, _ => .fail 23
    | _ => .fail 24
  | .load t a => match evalO st a with
    | .ptr i o => match loadS P st.hp t i o with
      | some v => .ret (v, st)
      | none => .fail 25
    | .pel i o e len => (match st.hp[i]?, P.underlying t, sizeB P t with
      | some (.fix cells _), some _, some 1 => if isAggB P t || !(decide (o + len ≤ cells.length)) then .fail 170 else match pelS e ((cells.drop o).take len) with
        | some v => tNeed st (within st e (.N len)) fun st => .ret (v, st)
        | none => indexed st e len fun j st => match loadS P st.hp t i (o + j) with
          | some v => .ret (v, st)
          | none => .fail 171
      | _, _, _ => .fail 172)
    | .el i e n o => match sizeB P t, P.underlying t, st.ent i with
      | some k, some _, some (cs, x, _) => if n = cs.length ∧ o + k ≤ n ∧ 0 < k ∧ st.scoped = true then
          tNeed st (within st e (xLen x)) fun st =>
          let r := readC x e o ((cs.drop o).take k) st.nv
          let st' := { st with nv := st.nv + r.2.length, sl := st.sl ++ r.2 }
          if isAggB P t then .ret (.agg r.1, st')
          else match r.1 with
            | [v] => .ret (v, st')
            | _ => .fail 97
        else .fail 98
      | _, _, _ => .fail 99
    | .con (.pointer (some ⟨g, o, none⟩)) => (match globS g with
      | some cells => (match loadS P [.fix cells false] t 0 o with
        | some v => .ret (v, st)
        | none => .fail 180)
      | none => .fail 181)
    | _ => .fail 26
  | .store t a x => match evalO st a with
    | .ptr i o => match storeS P st.has st.hp t i o (evalO st x) with
      | some hp => .ret (.con undef, { st with hp })
      | none => .fail 27
    | .pel i o e len => indexed st e len fun j st => match storeS P st.has st.hp t i (o + j) (evalO st x) with
      | some hp => .ret (.con undef, { st with hp })
      | none => .fail 173
    | .el i e n o => match (evalO st x).cells st.has, sizeB P t with
      | some l, some m => if l.length = m then storeR (st.freeze ((SV.refVs l).filter (· != i))) i e n o l else .fail 157
      | _, _ => .fail 158
    | _ => .fail 28
  | .nilCheck x => match evalO st x with
    | .ptr i o => .ret (.ptr i o, st)
    | .pel i o e l => .ret (.pel i o e l, st)
    | .fn f x c => .ret (.fn f x c, st)
    | _ => .fail 29
  | .binOp op t x y _ => binS P st op t (evalO st x) (evalO st y)
  | .unOp op _ x => match op, evalO st x with
    | .neg, .int k e => .ret (.int k (mk st.bd k (.sub (.N 0) e)), st)
    | .not, .bool b => .ret (.bool (bNot b), st)
    | _, _ => .fail 30
  | .convert src dst x => match P.underlying src, P.underlying dst, evalO st x with
    | some _, some (.int k), .int _ e => .ret (.int k (mk st.bd k e), st)
    | _, _, _ => .fail 32
  | .makeFunc fn first captured => match fn with
    | .func f => if (first.toList.map (evalO st)).all (fun x => !x.isUnd) && (captured.toList.map (evalO st)).all (fun x => !x.isUnd) then .ret (.fn f (first.toList.map (evalO st)) (captured.toList.map (evalO st)), st) else .fail 105
    | _ => .fail 31
  | .slice t x lo hi mx => match evalO st x with
    | .row i o l c => match P.underlying t, boundS 0 (lo.map (evalO st)), boundS l (hi.map (evalO st)), mx with
      | some (.slice elem), some lo, some hi, none => match sizeB P elem with
        | some n => if lo ≤ hi ∧ hi ≤ c then .ret (.row i (if c = lo then o else o + lo * n) (hi - lo) (c - lo), st) else .fail 33
        | none => .fail 34
      | _, _, _, _ => .fail 35
    | .ptr i o => match P.underlying t with
      | some (.array n elem) => match sizeB P elem, boundS 0 (lo.map (evalO st)), boundS n (hi.map (evalO st)), mx with
        | some z, some lo, some hi, none => if lo ≤ hi ∧ hi ≤ n then .ret (.row i (if n = lo then o else o + lo * z) (hi - lo) (n - lo), st) else .fail 36
        | _, _, _, _ => .fail 37
      | _ => .fail 38
    | .var i => (match findR i st.hp 0, lo, hi, mx with
      | some (j, cs, y), none, some h, none => sliceO P st t j cs y h
      | _, _, _, _ => sliceV P (st.freeze [i]) t i lo hi mx)
    | .str s => (match P.underlying t, boundX (.N 0) (lo.map (evalO st)), boundX (xSlen s) (hi.map (evalO st)), mx with
      | some .string, some lo', some hi', none => tNeed st (bAnd (bLe st.bd (.N 0) lo') (bAnd (bLe st.bd lo' hi') (bAnd (bLe st.bd hi' (xSlen s)) (bLe st.bd (xSlen s) (.N 9223372036854775807))))) fun st => .ret (.str (.ssub s lo' hi'), st)
      | _, _, _, _ => .fail 156)
    | _ => .fail 39
  | .fieldAddr s x f => match evalO st x, P.underlying s with
    | .ptr i o, some (.struct fields) => match fields[f]? with
      | some f => match sizeB P f.type with
        | some n => if n = 0 then .fail 40 else .ret (.ptr i (o + f.offset), st)
        | none => .fail 41
      | none => .fail 42
    | .el i e n o, some (.struct fields) => match fields[f]? with
      | some f => match sizeB P f.type, st.ent i with
        | some m, some (_, x, _) => if m = 0 then .fail 40 else tNeed st (within st e (xLen x)) fun s => .ret (.el i e n (o + f.offset), s)
        | _, _ => .fail 41
      | none => .fail 42
    | _, _ => .fail 43
  | .field s x f => match evalO st x, P.underlying s with
    | .agg l, some (.struct fields) => match fields[f]? with
      | some f => match partS P f.type l f.offset with
        | some v => .ret (v, st)
        | none => .fail 44
      | none => .fail 45
    | _, _ => .fail 46
  | .indexAddr t x ix => match evalO st x, evalO st ix, P.underlying t with
    | .ptr i o, .int _ e, some (.array len elem) => match sizeB P elem with
      | some 1 => (match e with
        | .N z => indexed st (.N z) len fun j s => .ret (.ptr i (o + j * 1), s)
        | e => tNeed st (within st e (.N len)) fun s => .ret (.pel i o e len, s))
      | some n => indexed st e len fun j s => .ret (.ptr i (o + j * n), s)
      | none => .fail 47
    | .row i o len _, .int _ e, some (.slice elem) => match sizeB P elem with
      | some n => indexed st e len fun j s => .ret (.ptr i (o + j * n), s)
      | none => .fail 48
    | .var i, .int _ e, some (.slice elem) => match sizeB P elem, st.ent i with
      | some n, some (cs, x, _) => if n = cs.length ∨ cs.isEmpty = true then tNeed st (within st e (xLen x)) fun s => .ret (.el i (e.nf s.bd) n 0, s) else .fail 106
      | _, _ => .fail 101
    | _, _, _ => .fail 49
  | .index t x ix => match evalO st x, evalO st ix, P.underlying t with
    | .agg l, .int _ e, some (.array len elem) => match sizeB P elem with
      | some n => indexed st e len fun j s => match partS P elem l (j * n) with
        | some v => .ret (v, s)
        | none => .fail 50
      | none => .fail 51
    | .str s, .int _ e, some .string => tNeed st (within st e (xSlen s)) fun st => .ret (.int .u8 (.sat s e), st)
    | _, _, _ => .fail 52
  | .makeSlice t l c => match evalO st l, evalO st c, P.underlying t with
    | .int _ a, .int _ b, some (.slice e) => (match P.info? e, ctsOf P 20 e, zeroB P e with
      | some i, some cs, some z => (match z.cells (fun _ => false) with
        | some zs => (match argXs st false cs zs with
          | some row => if i.size = cs.length ∧ 0 < cs.length ∧ 0 < i.bytes ∧ (a.sc st.nd && b.sc st.nd && X.scs st.nd row) = true then
              tNeed st (bAnd (bLe st.bd (.N 0) a) (bAnd (bLe st.bd a b) (bLe st.bd b (.N (140737488355328 / i.bytes : Nat))))) fun st => st.own cs (xRep a row)
            else .fail 159
          | none => .fail 160)
        | none => .fail 161)
      | _, _, _ => .fail 162)
    | _, _, _ => .fail 163
  | .extract t i => match evalO st t with
    | .tuple l => match l[i]? with
      | some v => .ret (v, st)
      | none => .fail 53
    | _ => .fail 54
  | _ => .fail 55
def mostS (bd : Bds) (f : X → X → X) (k : IntKind) : X → List SV → Option SV
  | a, [] => some (.int k a)
  | a, .int k' b :: rest => if k = k' then mostS bd f k ((f a b).nf bd) rest else none
  | _, _ => none
def builtS (st : St) (b : Builtin) (ts : Array TypeId) (args : List SV) : T (SV × St) := match b, args with
  | .len, [.row _ _ l _] => match (ts[0]?).bind P.underlying with
    | some (.slice _) => .ret (.int .i64 (.N l), st)
    | _ => .fail 60
  | .len, [.var i] => match (ts[0]?).bind P.underlying, st.ent i with
    | some (.slice _), some (_, x, _) => .ret (.int .i64 (xLen x), st)
    | _, _ => .fail 67
  | .len, [.str s] => match (ts[0]?).bind P.underlying with
    | some .string => tNeed st (bLe st.bd (xSlen s) (.N 9223372036854775807)) fun st => .ret (.int .i64 (xSlen s), st)
    | _ => .fail 164
  | .append, [a, b] => match ts[0]?, ts[1]?, (ts[0]?).bind P.underlying with
    | some t, some t', some (.slice e) => if t = t' then appendS P st e a b else .fail 165
    | _, _, _ => .fail 166
  | .copy, [a, b] => match (ts[0]?).bind P.underlying with
    | some (.slice e) => copyS P st e a b
    | _ => .fail 167
  | .len, [x] => match (ts[0]?).bind P.underlying, x with
    | some (.array n _), _ => .ret (.int .i64 (.N n), st)
    | some (.slice _), .con (.slice none 0 0) => .ret (.int .i64 (.N 0), st)
    | _, _ => .fail 61
  | .max, .int k e :: rest => (opt 62 (mostS st.bd .mx k e rest)).then fun v => .ret (v, st)
  | .min, .int k e :: rest => (opt 63 (mostS st.bd .mn k e rest)).then fun v => .ret (v, st)
  | _, _ => .fail 66
abbrev Caller := FuncId → List SV → St → T (SV × St)
def stepS (call : Caller) (st : St) (o : Oper) : T (SV × St) := match o.op with
  | .call c => match c.callee with
    | .builtin b => builtS P st b c.argTypes (c.args.toList.map (evalO st))
    | .value f => match evalO st f with
      | .fn f first cap => call f (first ++ c.args.toList.map (evalO st) ++ cap) st
      | _ => .fail 70
    | _ => .fail 71
  | op => opS P st op
def St.put (st : St) (d : Option Tmp) (v : SV) : St := match d with
  | some d => { st with tm := st.tm.set d v }
  | none => st
def yieldS (ops : Array Oper) (st : St) (j : Nat) : Option X := match ((ops[j]?).bind (·.dst)).bind (st.tm[·]?) with
  | some (.bool b) => some b
  | _ => none
def undefS (ops : Array Oper) (st : St) (j : Nat) : Bool := match ((ops[j]?).bind (·.dst)).bind (st.tm[·]?) with
  | some (.con (.tuple _)) => true
  | _ => false
/-- one operation of a region, if it is wanted -/
def turnS (call : Caller) (ops : Array Oper) (st : St) (o : Oper) : T St :=
  let go (st : St) : T St := (stepS P call st o).then fun r => .ret (r.2.put o.dst r.1)
  let skip (st : St) : T St := .ret (st.put o.dst (.con undef))
  match o.guard with
  | none => go st
  | some (j, want) => match yieldS ops st j with
    | some b => tIte st b (fun s => if want then go s else skip s) fun s => if want then skip s else go s
    | none => if undefS ops st j then skip st else .fail 72
def regS (call : Caller) (ops : Array Oper) : List Oper → St → T St
  | [], st => .ret st
  | o :: rest, st => (turnS P call ops st o).then (regS call ops rest)
def conSame : Value → Value → Bool
  | .int k a, .int k' b => k == k' && a == b
  | .bool a, .bool b => a == b
  | .string a, .string b => decide (a = b)
  | .pointer a, .pointer b => a == b
  | .nilFunc, .nilFunc => true
  | .nilIface, .nilIface => true
  | .slice a n c, .slice a' n' c' => a == a' && n == n' && c == c'
  | .tuple a, .tuple b => a.size == 0 && b.size == 0
  | _, _ => false
mutual
def SV.same : SV → SV → Bool
  | .int k a, .int k' b => k == k' && a.same b
  | .bool a, .bool b | .str a, .str b => a.same b
  | .con a, .con b => conSame a b
  | .var i, .var j => i == j
  | .el i e n o, .el i' e' n' o' => i == i' && e.same e' && n == n' && o == o'
  | .ptr i o, .ptr i' o' => i == i' && o == o'
  | .pel i o e l, .pel i' o' e' l' => i == i' && o == o' && e.same e' && l == l'
  | .row i o l c, .row i' o' l' c' => i == i' && o == o' && l == l' && c == c'
  | .agg a, .agg b => SV.sames a b
  | .tuple a, .tuple b => SV.sames a b
  | .fn f a b, .fn g c d => f == g && SV.sames a c && SV.sames b d
  | .und, .und => true
  | _, _ => false
def SV.sames : List SV → List SV → Bool
  | [], [] => true
  | x :: xs, y :: ys => x.same y && SV.sames xs ys
  | _, _ => false
end
def Blk.same : Blk → Blk → Bool
  | .fix a w, .fix b w' => SV.sames a b && w == w'
  | .rows c x h, .rows c' x' h' => CT.sames c c' && x.same x' && h == h'
  | .none, .none => true
  | _, _ => false
/- Regions that draw their order: each operation is carried out on the part of the state that it sees; what it changes then must be ordered against what sees it. -/
def tmpsOf (ops : Array Oper) (o : Oper) : List Nat := o.looksAt ops
mutual
def SV.refH : SV → List Nat
  | .ptr i _ | .row i _ _ _ | .pel i _ _ _ => [i]
  | .agg l | .tuple l => SV.refHs l
  | .fn _ x c => SV.refHs x ++ SV.refHs c
  | _ => []
def SV.refHs : List SV → List Nat
  | [] => []
  | x :: xs => x.refH ++ SV.refHs xs
end
def Blk.refV : Blk → List Nat
  | .fix c _ => SV.refVs c
  | .rows _ _ h => [h]
  | .none => []
def Blk.refH : Blk → List Nat
  | .fix c _ => SV.refHs c
  | _ => []
def resOf (hp : List Blk) (l : List Nat) : List Nat := l.filterMap fun i => (findR i hp 0).map (·.1)
/-- the blocks that can be reached from some, over so many steps -/
def reachH (hp : List Blk) : Nat → List Nat → List Nat
  | 0, l => l
  | n + 1, l => match (l.flatMap fun j => match hp[j]? with
      | some b => b.refH ++ resOf hp b.refV
      | none => []).filter (fun j => !l.contains j) with
    | [] => l
    | m => reachH hp n (l ++ m.eraseDups)
/-- the blocks that an operation sees -/
def blksOf (st : St) (o : Oper) : List Nat :=
  let vals := o.op.operands.toList.map (evalO st)
  let near := resOf st.hp (SV.refVs vals)
  match o.op with
  | .indexAddr .. | .fieldAddr .. | .move .. | .assign .. | .extract .. | .field .. => []
  | .load _ a | .store _ a _ => (match evalO st a with
    | .ptr i _ | .pel i _ _ _ => i :: near
    | _ => near)
  | .call c => (match c.callee with
    | .builtin _ => near
    | _ => reachH st.hp 20 (SV.refHs vals ++ near).eraseDups)
  | _ => near
def maskT (i : Nat) (ts : List Nat) (l : List SV) : List SV := List.rec (motive := fun _ => Nat → List SV) (fun _ => []) (fun x _ ih i => Bool.rec (motive := fun _ => SV) .und x (hasR ts i) :: ih (Nat.succ i)) l i
theorem maskT_nil {i : Nat} {ts : List Nat} : maskT i ts [] = [] := rfl
theorem maskT_cons {i : Nat} {ts : List Nat} {x : SV} {xs : List SV} : maskT i ts (x :: xs) = (if ts.contains i then x else .und) :: maskT (i + 1) ts xs := by
  show Bool.rec (motive := fun _ => SV) .und x (hasR ts i) :: maskT (i + 1) ts xs = _
  rw [hasR_eq]
  cases ts.contains i <;> rfl
def maskH (i : Nat) (ts : List Nat) (l : List Blk) : List Blk := List.rec (motive := fun _ => Nat → List Blk) (fun _ => []) (fun x _ ih i => Bool.rec (motive := fun _ => Blk) .none x (hasR ts i) :: ih (Nat.succ i)) l i
theorem maskH_nil {i : Nat} {ts : List Nat} : maskH i ts [] = [] := rfl
theorem maskH_cons {i : Nat} {ts : List Nat} {x : Blk} {xs : List Blk} : maskH i ts (x :: xs) = (if ts.contains i then x else .none) :: maskH (i + 1) ts xs := by
  show Bool.rec (motive := fun _ => Blk) .none x (hasR ts i) :: maskH (i + 1) ts xs = _
  rw [hasR_eq]
  cases ts.contains i <;> rfl
def mergeH : Nat → List Nat → List Blk → List Blk → List Blk
  | _, _, [], m => m
  | i, bs, x :: xs, y :: ys => (if bs.contains i then y else x) :: mergeH (i + 1) bs xs ys
  | _, _, xs, [] => xs
structure Rec where
  /-- slots and blocks that are seen -/
  ts : List Nat
  bs : List Nat
  /-- those that are changed -/
  wt : List Nat
  wb : List Nat
  /-- new slices and blocks -/
  v0 : Nat
  v1 : Nat
  h0 : Nat
  h1 : Nat
  /-- slices that are told anew -/
  es : List Nat
def hit (a b : List Nat) : Bool := a.any b.contains
/-- what one changes and the other sees -/
def Rec.clash (r s : Rec) : Bool := hit r.wt (s.ts ++ s.wt) || hit s.wt r.ts || hit r.wb (s.bs ++ s.wb) || hit s.wb r.bs
/-- a slice or block is not one of those that an operation has made for which one need not wait; rs: the operations ahead, the last one first -/
def madeBy (bf : Nat) (isV : Bool) (k : Nat) : List Rec → Nat → Bool
  | [], _ => true
  | r :: rs, i => (!(if isV then r.v0 ≤ k && k < r.v1 else r.h0 ≤ k && k < r.h1) || bf.testBit (i - 1)) && madeBy bf isV k rs (i - 1)
/-- what is told of a slice is not told by an operation for which one need not wait -/
def addBy (bf : Nat) (k : Nat) : List Rec → Nat → Bool
  | [], _ => true
  | r :: rs, i => (!r.es.contains k || bf.testBit (i - 1)) && addBy bf k rs (i - 1)
/-- an operation against those ahead of it -/
def clearOf (bf : Nat) (r : Rec) : List Rec → Nat → Bool
  | [], _ => true
  | s :: rs, i => (bf.testBit (i - 1) || !r.clash s) && clearOf bf r rs (i - 1)
def entSame (a b : Ent) : Bool := a.i == b.i && CT.sames a.cs b.cs && a.x.same b.x
def entsSame : List Ent → List Ent → Bool
  | _, [] => true
  | a :: as, b :: bs => entSame a b && entsSame as bs
  | [], _ :: _ => false
/-- for each operation those for which it waits, as bits -/
def befL : List Oper → List Nat → List Nat
  | [], acc => acc
  | o :: l, acc => befL l (acc ++ [o.after.toList.foldl (fun s e => if Region.binds .any e then s ||| (2 ^ e.on ||| acc.getD e.on 0) else s) 0])
/-- what is waited for stands ahead -/
def backOk (ops : Array Oper) : Bool := (List.range ops.size).all fun i => match ops[i]? with
  | some o => o.after.toList.all fun e => !Region.binds .any e || decide (e.on < i)
  | none => true
def maskSt (ops : Array Oper) (bf : Nat) (rs : List Rec) (i : Nat) (o : Oper) (st : St) : St :=
  { st with tm := maskT 0 (tmpsOf ops o) st.tm, hp := maskH 0 (blksOf st o) st.hp, sl := st.sl.filter fun e => addBy bf e.i rs i }
def dstV (o : Oper) (m' : St) : SV := match o.dst with
  | some d => m'.tm.getD d .und
  | none => .con undef
def backSt (o : Oper) (bs : List Nat) (st m m' : St) : St :=
  { m' with tm := (match o.dst with | some d => st.tm.set d (dstV o m') | none => st.tm), hp := mergeH 0 bs st.hp m'.hp, sl := st.sl ++ m'.sl.drop m.sl.length }
def recOf (ops : Array Oper) (o : Oper) (bs : List Nat) (st m m' : St) : Rec :=
  ⟨tmpsOf ops o, bs, o.dst.toList, (bs.filter fun j => match st.hp[j]?, m'.hp[j]? with
        | some a, some b => !a.same b
        | _, _ => true) ++ (List.range (m'.nh - st.nh)).map (st.nh + ·), st.nv, m'.nv, st.nh, m'.nh, (m'.sl.drop m.sl.length).map (·.i)⟩
/-- what an operation leaves is within its bounds -/
def dstOk (o : Oper) (m' : St) : Bool := bA (SV.okR m'.nd m'.nv (lenQ m'.hp) (match o.dst with | some d => getR .und m'.tm d | none => .und)) (bA (allR (Blk.scR m'.nd m'.nv (lenQ m'.hp)) m'.hp) (allR (fun e => bA (Nat.ble (Nat.succ e.i) m'.nv) (X.scR m'.nd e.x)) m'.sl))
def okStep (bf : Nat) (rs : List Rec) (i : Nat) (o : Oper) (st m m' : St) (r : Rec) : Bool :=
  dstOk o m' && Nat.ble st.nd m'.nd && clearOf bf r rs i && ((dstV o m').refV ++ ((r.wb.map fun j => m'.hp.getD j .none).flatMap Blk.refV ++ r.es)).all (fun k => madeBy bf true k rs i) && ((dstV o m').refH ++ (r.wb.map fun j => m'.hp.getD j .none).flatMap Blk.refH).all (fun k => madeBy bf false k rs i) &&
  entsSame m'.sl m.sl && st.nv ≤ m'.nv && st.nh ≤ m'.nh && r.bs.all (fun j => j < st.nh)
def regD (call : Caller) (ops : Array Oper) (bfs : List Nat) : List Oper → Nat → List Rec → St → T St
  | [], _, _, st => .ret st
  | o :: rest, i, rs, st => (turnS P call ops (maskSt ops (bfs.getD i 0) rs i o st) o).then fun m' =>
      if okStep (bfs.getD i 0) rs i o st (maskSt ops (bfs.getD i 0) rs i o st) m' (recOf ops o (blksOf st o) st (maskSt ops (bfs.getD i 0) rs i o st) m') then
        regD call ops bfs rest (i + 1) (recOf ops o (blksOf st o) st (maskSt ops (bfs.getD i 0) rs i o st) m' :: rs) (backSt o (blksOf st o) st (maskSt ops (bfs.getD i 0) rs i o st) m')
      else .fail 112
/-- how many rows the owned slices have: that does not change where their cells are written -/
def lensOf (hp : List Blk) : List Ent := hp.filterMap fun b => match b with
  | .rows _ x h => some ⟨h, [], xRep (xLen x) []⟩
  | _ => none
def St.withLens (st : St) : St := { st with sl := st.sl ++ lensOf st.hp }
def St.dropLens (n k : Nat) (st : St) : St := { st with sl := st.sl.take n ++ st.sl.drop (n + k) }
def regW (call : Caller) (ops : Array Oper) (st : St) : T St :=
  if st.withLens.scoped then (regD P call ops (befL ops.toList []) ops.toList 0 [] st.withLens).then fun s => .ret (s.dropLens st.sl.length (lensOf st.hp).length) else .fail 190
end
end
end Fx
end Go.Proofs.Ytlhnhidoljfnnaa
