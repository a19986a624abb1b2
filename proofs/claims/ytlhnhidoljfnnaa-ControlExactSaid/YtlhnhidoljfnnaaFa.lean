/- A run of Go code over values that are written as expressions over data: what is computed, as a tree of cases that can be carried out. -/
import Derived.WalkKit
namespace Go.Proofs.Ytlhnhidoljfnnaa
namespace Fx
/-- data: a number, a truth, a string, rows of cells -/
inductive D where
  | i (z : Int) | b (v : Bool) | s (v : ByteArray) | l (rows : List (List D))
  deriving Inhabited
def D.int : D → Int
  | .i z => z
  | _ => 0
def D.boo : D → Bool
  | .b v => v
  | _ => false
def D.str : D → ByteArray
  | .s v => v
  | _ => ByteArray.empty
def D.rows : D → List (List D)
  | .l r => r
  | _ => []
def D.len (d : D) : Int := min (d.rows.length : Int) 9223372036854775807
def D.slen (d : D) : Int := min (d.str.size : Int) 9223372036854775808
def D.cell (d : D) (i : Int) (c : Nat) : D := (d.rows.getD i.toNat []).getD c (.i 0)
def D.put (d : D) (i : Int) (c : Nat) (x : D) : D := .l (d.rows.set i.toNat ((d.rows.getD i.toNat []).set c x))
/-- what a cell holds -/
inductive CT where
  | int (k : IntKind) | bool | str | sl (cs : List CT)
  deriving Inhabited
inductive X where
  | V (i : Nat) | N (z : Int) | B (b : Bool) | S (s : ByteArray)
  | add (a b : X) | sub (a b : X) | mul (a b : X) | quo (a b : X) | rem (a b : X) | mx (a b : X) | mn (a b : X) | wr (k : IntKind) (a : X)
  | not (b : X) | lt (a b : X) | eq (a b : X) | beq (a b : X) | and (a b : X) | seq (a b : X)
  | at (l i : X) (c : Nat) | len (l : X) | app (a b : X) | put (l i : X) (c : Nat) (x : X) | rows (r : List (List X)) | take (l n : X) | drop (l n : X) | slen (s : X) | sat (s i : X) | scat (s t : X)
  | rep (n : X) (row : List X) | cond (b x y : X) | ssub (s lo hi : X) | slt (a b : X) | sbytes (s : X) | bstr (l : X)
  deriving Inhabited
mutual
def X.den (ρ : List D) : X → D
  | .V i => ρ.getD i (.i 0)
  | .N z => .i z
  | .B b => .b b
  | .S s => .s s
  | .add a b => .i ((a.den ρ).int + (b.den ρ).int)
  | .sub a b => .i ((a.den ρ).int - (b.den ρ).int)
  | .mul a b => .i ((a.den ρ).int * (b.den ρ).int)
  | .quo a b => .i ((a.den ρ).int.tdiv (b.den ρ).int)
  | .rem a b => .i ((a.den ρ).int.tmod (b.den ρ).int)
  | .mx a b => .i (max (a.den ρ).int (b.den ρ).int)
  | .mn a b => .i (min (a.den ρ).int (b.den ρ).int)
  | .wr k a => .i (k.wrap (a.den ρ).int)
  | .not b => .b (!(b.den ρ).boo)
  | .lt a b => .b (decide ((a.den ρ).int < (b.den ρ).int))
  | .eq a b => .b (decide ((a.den ρ).int = (b.den ρ).int))
  | .beq a b => .b ((a.den ρ).boo == (b.den ρ).boo)
  | .and a b => .b ((a.den ρ).boo && (b.den ρ).boo)
  | .seq a b => .b ((a.den ρ).str.toList == (b.den ρ).str.toList)
  | .at l i c => (l.den ρ).cell (i.den ρ).int c
  | .len l => .i (l.den ρ).len
  | .app a b => .l ((a.den ρ).rows ++ (b.den ρ).rows)
  | .put l i c x => (l.den ρ).put (i.den ρ).int c (x.den ρ)
  | .rows r => .l (X.denss ρ r)
  | .take l n => .l ((l.den ρ).rows.take (n.den ρ).int.toNat)
  | .drop l n => .l ((l.den ρ).rows.drop (n.den ρ).int.toNat)
  | .slen s => .i (s.den ρ).slen
  | .sat s i => .i ((s.den ρ).str.data.toList.getD (i.den ρ).int.toNat 0).toNat
  | .scat s t => .s ((s.den ρ).str ++ (t.den ρ).str)
  | .rep n row => .l (List.replicate (n.den ρ).int.toNat (X.dens ρ row))
  | .cond b x y => if (b.den ρ).boo = true then x.den ρ else y.den ρ
  | .ssub s lo hi => .s ((s.den ρ).str.extract (lo.den ρ).int.toNat (hi.den ρ).int.toNat)
  | .slt a b => .b (Go.Op.bytesLess (a.den ρ).str.toList (b.den ρ).str.toList)
  | .sbytes s => .l ((s.den ρ).str.data.toList.map fun b => [.i b.toNat])
  | .bstr l => .s ⟨((l.den ρ).rows.map fun r => UInt8.ofNat (r.getD 0 (.i 0)).int.toNat).toArray⟩
def X.dens (ρ : List D) : List X → List D
  | [] => []
  | x :: xs => x.den ρ :: X.dens ρ xs
def X.denss (ρ : List D) : List (List X) → List (List D)
  | [] => []
  | x :: xs => X.dens ρ x :: X.denss ρ xs
end
abbrev X.int (ρ : List D) (x : X) : Int := (x.den ρ).int
abbrev X.boo (ρ : List D) (x : X) : Bool := (x.den ρ).boo
mutual
/-- within so many data -/
def X.sc (nd : Nat) : X → Bool
  | .V i => decide (i < nd)
  | .N _ | .B _ | .S _ => true
  | .add a b | .sub a b | .mul a b | .quo a b | .rem a b | .mx a b | .mn a b | .lt a b | .eq a b | .beq a b | .and a b | .seq a b | .app a b | .take a b | .drop a b | .sat a b | .scat a b | .slt a b => a.sc nd && b.sc nd
  | .wr _ a | .not a | .len a | .slen a | .sbytes a | .bstr a => a.sc nd
  | .rep n row => n.sc nd && X.scs nd row
  | .cond a b c | .ssub a b c => a.sc nd && b.sc nd && c.sc nd
  | .at l i _ => l.sc nd && i.sc nd
  | .put l i _ x => l.sc nd && i.sc nd && x.sc nd
  | .rows r => X.scss nd r
def X.scs (nd : Nat) : List X → Bool
  | [] => true
  | x :: xs => x.sc nd && X.scs nd xs
def X.scss (nd : Nat) : List (List X) → Bool
  | [] => true
  | x :: xs => X.scs nd x && X.scss nd xs
end
mutual
def X.same : X → X → Bool
  | .V i, .V j => i == j
  | .N a, .N b => a == b
  | .B a, .B b => a == b
  | .S a, .S b => decide (a = b)
  | .add a b, .add c d | .sub a b, .sub c d | .mul a b, .mul c d | .quo a b, .quo c d | .rem a b, .rem c d | .mx a b, .mx c d | .mn a b, .mn c d
  | .lt a b, .lt c d | .eq a b, .eq c d | .beq a b, .beq c d | .and a b, .and c d | .seq a b, .seq c d | .app a b, .app c d | .take a b, .take c d | .drop a b, .drop c d | .sat a b, .sat c d | .scat a b, .scat c d | .slt a b, .slt c d => a.same c && b.same d
  | .wr k a, .wr k' b => k == k' && a.same b
  | .not a, .not b | .len a, .len b | .slen a, .slen b | .sbytes a, .sbytes b | .bstr a, .bstr b => a.same b
  | .rep a r, .rep b s => a.same b && X.sames r s
  | .cond a b c, .cond d e f | .ssub a b c, .ssub d e f => a.same d && b.same e && c.same f
  | .at l i c, .at l' i' c' => l.same l' && i.same i' && c == c'
  | .put l i c x, .put l' i' c' x' => l.same l' && i.same i' && c == c' && x.same x'
  | .rows r, .rows r' => X.samess r r'
  | _, _ => false
def X.sames : List X → List X → Bool
  | [], [] => true
  | x :: xs, y :: ys => x.same y && X.sames xs ys
  | _, _ => false
def X.samess : List (List X) → List (List X) → Bool
  | [], [] => true
  | x :: xs, y :: ys => X.sames x y && X.samess xs ys
  | _, _ => false
end
mutual
theorem X.same_eq : ∀ {x y : X}, x.same y = true → x = y
  | .V i, y, h => by cases y <;> simp only [X.same, Bool.false_eq_true, beq_iff_eq] at h; rw [h]
  | .N i, y, h => by cases y <;> simp only [X.same, Bool.false_eq_true, beq_iff_eq] at h; rw [h]
  | .B i, y, h => by cases y <;> simp only [X.same, Bool.false_eq_true, beq_iff_eq] at h; rw [h]
  | .S i, y, h => by cases y <;> simp only [X.same, Bool.false_eq_true, decide_eq_true_eq] at h; rw [h]
  | .add a b, y, h | .sub a b, y, h | .mul a b, y, h | .quo a b, y, h | .rem a b, y, h | .mx a b, y, h | .mn a b, y, h
  | .lt a b, y, h | .eq a b, y, h | .beq a b, y, h | .and a b, y, h | .seq a b, y, h | .app a b, y, h | .take a b, y, h | .drop a b, y, h | .sat a b, y, h | .scat a b, y, h | .slt a b, y, h => by
    cases y <;> simp only [X.same, Bool.false_eq_true, Bool.and_eq_true] at h
    rw [X.same_eq h.1, X.same_eq h.2]
  | .rep a r, y, h => by
    cases y <;> simp only [X.same, Bool.false_eq_true, Bool.and_eq_true] at h
    rw [X.same_eq h.1, X.sames_eq h.2]
  | .cond a b c, y, h | .ssub a b c, y, h => by
    cases y <;> simp only [X.same, Bool.false_eq_true, Bool.and_eq_true] at h
    rw [X.same_eq h.1.1, X.same_eq h.1.2, X.same_eq h.2]
  | .wr k a, y, h => by
    cases y <;> simp only [X.same, Bool.false_eq_true, Bool.and_eq_true, beq_iff_eq] at h
    rw [h.1, X.same_eq h.2]
  | .not a, y, h | .len a, y, h | .slen a, y, h | .sbytes a, y, h | .bstr a, y, h => by
    cases y <;> simp only [X.same, Bool.false_eq_true] at h
    rw [X.same_eq h]
  | .at l i c, y, h => by
    cases y <;> simp only [X.same, Bool.false_eq_true, Bool.and_eq_true, beq_iff_eq] at h
    rw [X.same_eq h.1.1, X.same_eq h.1.2, h.2]
  | .put l i c x, y, h => by
    cases y <;> simp only [X.same, Bool.false_eq_true, Bool.and_eq_true, beq_iff_eq] at h
    rw [X.same_eq h.1.1.1, X.same_eq h.1.1.2, h.1.2, X.same_eq h.2]
  | .rows r, y, h => by
    cases y <;> simp only [X.same, Bool.false_eq_true] at h
    rw [X.samess_eq h]
theorem X.sames_eq : ∀ {x y : List X}, X.sames x y = true → x = y
  | [], y, h => by cases y <;> simp only [X.sames, Bool.false_eq_true] at h; rfl
  | x :: xs, y, h => by
    cases y <;> simp only [X.sames, Bool.false_eq_true, Bool.and_eq_true] at h
    rw [X.same_eq h.1, X.sames_eq h.2]
theorem X.samess_eq : ∀ {x y : List (List X)}, X.samess x y = true → x = y
  | [], y, h => by cases y <;> simp only [X.samess, Bool.false_eq_true] at h; rfl
  | x :: xs, y, h => by
    cases y <;> simp only [X.samess, Bool.false_eq_true, Bool.and_eq_true] at h
    rw [X.sames_eq h.1, X.samess_eq h.2]
end
theorem getD_pre {α : Type} {a l : List α} {i : Nat} {d : α} (h : i < a.length) : (a ++ l).getD i d = a.getD i d := by
  simp [List.getD_eq_getElem?_getD, List.getElem?_append_left h]
/-- the first so many data are the same -/
def AgD (nd : Nat) (ρ ρ' : List D) : Prop := ∀ i, i < nd → ρ'.getD i (.i 0) = ρ.getD i (.i 0)
theorem AgD.refl (nd : Nat) (ρ : List D) : AgD nd ρ ρ := fun _ _ => rfl
theorem AgD.app (ρ l : List D) : AgD ρ.length ρ (ρ ++ l) := fun _ h => getD_pre h
mutual
theorem X.den_ag {nd : Nat} {ρ ρ' : List D} (hl : AgD nd ρ ρ') : ∀ {e : X}, e.sc nd = true → e.den ρ' = e.den ρ
  | .V i, h => by simp only [X.sc, decide_eq_true_eq] at h; simp only [X.den]; exact hl i h
  | .N z, _ | .B z, _ | .S z, _ => by simp only [X.den]
  | .add a b, h | .sub a b, h | .mul a b, h | .quo a b, h | .rem a b, h | .mx a b, h | .mn a b, h | .lt a b, h | .eq a b, h | .beq a b, h | .and a b, h | .seq a b, h | .app a b, h | .take a b, h | .drop a b, h | .sat a b, h | .scat a b, h | .slt a b, h => by
    simp only [X.sc, Bool.and_eq_true] at h; simp only [X.den, X.den_ag hl h.1, X.den_ag hl h.2]
  | .rep n r, h => by simp only [X.sc, Bool.and_eq_true] at h; simp only [X.den, X.den_ag hl h.1, X.dens_ag hl h.2]
  | .cond a b c, h | .ssub a b c, h => by simp only [X.sc, Bool.and_eq_true] at h; simp only [X.den, X.den_ag hl h.1.1, X.den_ag hl h.1.2, X.den_ag hl h.2]
  | .wr k a, h | .not a, h | .len a, h | .slen a, h | .sbytes a, h | .bstr a, h => by simp only [X.sc] at h; simp only [X.den, X.den_ag hl h]
  | .at l i c, h => by simp only [X.sc, Bool.and_eq_true] at h; simp only [X.den, X.den_ag hl h.1, X.den_ag hl h.2]
  | .put l i c x, h => by simp only [X.sc, Bool.and_eq_true] at h; simp only [X.den, X.den_ag hl h.1.1, X.den_ag hl h.1.2, X.den_ag hl h.2]
  | .rows r, h => by simp only [X.sc] at h; simp only [X.den, X.denss_ag hl h]
theorem X.dens_ag {nd : Nat} {ρ ρ' : List D} (hl : AgD nd ρ ρ') : ∀ {e : List X}, X.scs nd e = true → X.dens ρ' e = X.dens ρ e
  | [], _ => by simp only [X.dens]
  | x :: xs, h => by simp only [X.scs, Bool.and_eq_true] at h; simp only [X.dens, X.den_ag hl h.1, X.dens_ag hl h.2]
theorem X.denss_ag {nd : Nat} {ρ ρ' : List D} (hl : AgD nd ρ ρ') : ∀ {e : List (List X)}, X.scss nd e = true → X.denss ρ' e = X.denss ρ e
  | [], _ => by simp only [X.denss]
  | x :: xs, h => by simp only [X.scss, Bool.and_eq_true] at h; simp only [X.denss, X.dens_ag hl h.1, X.denss_ag hl h.2]
end
abbrev Bds := List (Option (Int × Int))
/-- between which numbers an expression lies -/
def X.rng (bd : Bds) : X → Option (Int × Int)
  | .V i => match bd[i]? with
    | some r => r
    | none => none
  | .N z => some (z, z)
  | .add a b => match a.rng bd, b.rng bd with
    | some (l, h), some (l', h') => some (l + l', h + h')
    | _, _ => none
  | .sub a b => match a.rng bd, b.rng bd with
    | some (l, h), some (l', h') => some (l - h', h - l')
    | _, _ => none
  | .mul a b => match a.rng bd, b.rng bd with
    | some (l, h), some (l', h') => some (min (min (l * l') (l * h')) (min (h * l') (h * h')), max (max (l * l') (l * h')) (max (h * l') (h * h')))
    | _, _ => none
  | .quo a b => match a.rng bd, b with
    | some (l, h), .N c => if 0 < c then some (l.tdiv c, h.tdiv c) else none
    | _, _ => none
  | .rem a b => match a.rng bd, b with
    | some (l, h), .N c => if 0 < c then (if l = h then some (l.tmod c, l.tmod c) else some (if 0 ≤ l then 0 else 1 - c, if 0 ≤ h then min (max h 0) (c - 1) else 0)) else none
    | none, .N c => if 0 < c then some (1 - c, c - 1) else none
    | _, _ => none
  | .mx a b => match a.rng bd, b.rng bd with
    | some (l, h), some (l', h') => some (max l l', max h h')
    | _, _ => none
  | .mn a b => match a.rng bd, b.rng bd with
    | some (l, h), some (l', h') => some (min l l', min h h')
    | _, _ => none
  | .wr k _ => some (k.min, k.max)
  | .len _ => some (0, 9223372036854775807)
  | .slen _ => some (0, 9223372036854775808)
  | .sat _ _ => some (0, 255)
  | .cond _ a b => match a.rng bd, b.rng bd with
    | some (l, h), some (l', h') => some (min l l', max h h')
    | _, _ => none
  | _ => none
/-- a number where the expression can be no other one -/
def X.nf (bd : Bds) (e : X) : X := match e.rng bd with
  | some (l, h) => if l = h then .N l else e
  | none => e
/-- what is left by a division, where it is no other number -/
def remX (bd : Bds) (a b : X) : X := match a.rng bd, b with
  | some (l, h), .N c => if 0 ≤ l ∧ h < c then a else (X.rem a b).nf bd
  | _, _ => (X.rem a b).nf bd
/-- the expression as a number of a kind -/
def mk (bd : Bds) (k : IntKind) (e : X) : X := match e.rng bd with
  | some (l, h) => if k.min ≤ l ∧ h ≤ k.max then (if l = h then .N l else e) else .wr k e
  | none => .wr k e
/-- a difference -/
def subX (bd : Bds) (k : IntKind) (a b : X) : X := if a.same b then .N 0 else mk bd k (.sub a b)
def bLt (bd : Bds) (a b : X) : X := match a.rng bd, b.rng bd with
  | some (l, h), some (l', h') => if h < l' then .B true else if h' ≤ l then .B false else .lt a b
  | _, _ => .lt a b
def bEq (bd : Bds) (a b : X) : X := if a.same b then .B true else match a.rng bd, b.rng bd with
  | some (l, h), some (l', h') => if h < l' ∨ h' < l then .B false else if l = h ∧ l' = h' ∧ l = l' then .B true else .eq a b
  | _, _ => .eq a b
def bNot : X → X
  | .B b => .B !b
  | .not b => b
  | b => .not b
def bLe (bd : Bds) (a b : X) : X := bNot (bLt bd b a)
def bAnd : X → X → X
  | .B true, b => b
  | .B false, _ => .B false
  | a, .B true => a
  | _, .B false => .B false
  | a, b => .and a b
def lower (bd : Bds) (e : X) (z : Int) : Bds := match e with
  | .V i => match bd[i]? with
    | some (some (l, h)) => bd.set i (some (max l z, h))
    | _ => bd
  | _ => bd
def upper (bd : Bds) (e : X) (z : Int) : Bds := match e with
  | .V i => match bd[i]? with
    | some (some (l, h)) => bd.set i (some (l, min h z))
    | _ => bd
  | _ => bd
/-- a < b + d is so: what is known of both behind it -/
def less (bd : Bds) (a b : X) (d : Int) : Bds :=
  let bd1 := match b.rng bd with
    | some (_, h) => upper bd a (h + d - 1)
    | none => bd
  match a.rng bd with
  | some (l, _) => lower bd1 b (l - d + 1)
  | none => bd1
def differ (bd : Bds) (a : X) (z : Int) : Bds := match a with
  | .V i => match bd[i]? with
    | some (some (l, h)) => if l = z then bd.set i (some (l + 1, h)) else if h = z then bd.set i (some (l, h - 1)) else bd
    | _ => bd
  | _ => bd
def tell (bd : Bds) : X → Bool → Bds
  | .not b, t => tell bd b !t
  | .lt a b, true => less bd a b 0
  | .lt a b, false => less bd b a 1
  | .eq a b, true => less (less bd a b 1) b a 1
  | .eq a b, false => match a, b with
    | a, .N z => differ bd a z
    | .N z, b => differ bd b z
    | _, _ => bd
  | .and a b, true => tell (tell bd a true) b true
  | _, _ => bd
/-- A tree of cases. need: else it fails · call: a function by its model, which gives so many data · sub: what a tree of its own gives · loop: rounds, until one does not say 'again' -/
inductive T : Type → Type 1 where
  | ret {α : Type} (a : α) : T α
  | ite {α : Type} (b : X) (x y : T α) : T α
  | need {α : Type} (b : X) (x : T α) : T α
  | call {α : Type} (f : FuncId) (xs : List X) (k : Nat) (x : T α) : T α
  | sub {α : Type} (a : T (List X)) (k : Nat) (x : T α) : T α
  | loop {α : Type} (init : List X) (body : T (Bool × List X)) (k : Nat) (x : T α) : T α
  | fail {α : Type} (why : Nat) : T α
abbrev Models := FuncId → List D → Option (List D)
def loopE (B : List D → Option (Bool × List D)) : Nat → List D → Option (List D)
  | 0, _ => none
  | n + 1, l => match B l with
    | some (true, l') => loopE B n l'
    | some (false, l') => some l'
    | none => none
def T.eval (M : Models) (N : Nat) : {α : Type} → T α → List D → Option (α × List D)
  | _, .ret a, ρ => some (a, ρ)
  | _, .ite b x y, ρ => if (b.den ρ).boo = true then x.eval M N ρ else y.eval M N ρ
  | _, .need b x, ρ => if (b.den ρ).boo = true then x.eval M N ρ else none
  | _, .call f xs k x, ρ => match M f (X.dens ρ xs) with
    | some l => if l.length = k then x.eval M N (ρ ++ l) else none
    | none => none
  | _, .sub a k x, ρ => match a.eval M N ρ with
    | some (xs, ρ') => if xs.length = k then x.eval M N (ρ ++ X.dens ρ' xs) else none
    | none => none
  | _, .loop init body k x, ρ => match loopE (fun l => match body.eval M N (ρ ++ l) with
      | some ((b, xs), ρ') => some (b, X.dens ρ' xs)
      | none => none) N (X.dens ρ init) with
    | some l => if l.length = k then x.eval M N (ρ ++ l) else none
    | none => none
  | _, .fail _, _ => none
def T.bind {β : Type} : {α : Type} → (α → T β) → T α → T β
  | _, k, .ret a => k a
  | _, k, .ite b x y => .ite b (x.bind k) (y.bind k)
  | _, k, .need b x => .need b (x.bind k)
  | _, k, .call f xs n x => .call f xs n (x.bind k)
  | _, k, .sub a n x => .sub a n (x.bind k)
  | _, k, .loop i b n x => .loop i b n (x.bind k)
  | _, _, .fail n => .fail n
abbrev T.then {α β : Type} (t : T α) (k : α → T β) : T β := T.bind k t
theorem eval_bind {M : Models} {N : Nat} {β : Type} : ∀ {α : Type} (k : α → T β) (t : T α) (ρ : List D), (T.bind k t).eval M N ρ = match t.eval M N ρ with | some (a, ρ') => (k a).eval M N ρ' | none => none := by
  intro α k t
  induction t with
  | ret a => intro ρ; rfl
  | ite b x y ix iy =>
    intro ρ
    simp only [T.bind, T.eval]
    split
    · exact ix k ρ
    · exact iy k ρ
  | need b x ix =>
    intro ρ
    simp only [T.bind, T.eval]
    split
    · exact ix k ρ
    · rfl
  | call f xs n x ix =>
    intro ρ
    simp only [T.bind, T.eval]
    split
    · split
      · exact ix k _
      · rfl
    · rfl
  | sub a n x _ ix =>
    intro ρ
    simp only [T.bind, T.eval]
    split
    · split
      · exact ix k _
      · rfl
    · rfl
  | loop i b n x _ ix =>
    intro ρ
    simp only [T.bind, T.eval]
    split
    · split
      · exact ix k _
      · rfl
    · rfl
  | fail n => intro ρ; rfl
theorem bind_some {M : Models} {N : Nat} {α β : Type} {k : α → T β} {t : T α} {ρ : List D} {r : β × List D} (h : (T.then t k).eval M N ρ = some r) : ∃ a ρ', t.eval M N ρ = some (a, ρ') ∧ (k a).eval M N ρ' = some r := by
  rw [T.then, eval_bind] at h
  split at h
  · rename_i a ρ' e
    exact ⟨a, ρ', e, h⟩
  · cases h
def T.leaves : {α : Type} → T α → List α
  | _, .ret a => [a]
  | _, .ite _ x y => x.leaves ++ y.leaves
  | _, .need _ x | _, .call _ _ _ x | _, .sub _ _ x | _, .loop _ _ _ x => x.leaves
  | _, .fail _ => []
end Fx
end Go.Proofs.Ytlhnhidoljfnnaa
