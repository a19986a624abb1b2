/- A run of Go code over values that are written as expressions: what is computed, as a tree of cases. It is a function that the kernel carries out; XSymS says that it is sound. -/
import Derived.WalkKit
import Derived.Test.YthfagiihfkjamaaSteady
namespace Go.Proofs.Ythfagiihfkjamaa
namespace Sym
inductive E where
  | v (i : Nat) | n (z : Int) | add (a b : E) | sub (a b : E) | mul (a b : E) | quo (a b : E) | rem (a b : E) | mx (a b : E) | mn (a b : E) | wr (k : IntKind) (a : E)
  deriving DecidableEq
inductive B where
  | v (i : Nat) | c (b : Bool) | not (b : B) | lt (a b : E) | eq (a b : E) | beq (a b : B) | and (a b : B)
  deriving DecidableEq
inductive SV where
  | int (k : IntKind) (e : E) | bool (b : B) | con (v : Value) | var (i : Nat) | el (i : Nat) (e : E) (o : Nat) | ptr (i o : Nat) | row (i o l c : Nat) | agg (l : List SV) | tuple (l : List SV) | fn (f : FuncId) (x c : List SV)
structure Env where
  is : List Int
  bs : List Bool
  vs : List Value
def Env.ext (ρ : Env) (is : List Int) (bs : List Bool) (vs : List Value) : Env := ⟨ρ.is ++ is, ρ.bs ++ bs, ρ.vs ++ vs⟩
def E.den (ρ : Env) : E → Int
  | v i => ρ.is.getD i 0
  | n z => z
  | add a b => a.den ρ + b.den ρ
  | sub a b => a.den ρ - b.den ρ
  | mul a b => a.den ρ * b.den ρ
  | quo a b => (a.den ρ).tdiv (b.den ρ)
  | rem a b => (a.den ρ).tmod (b.den ρ)
  | mx a b => max (a.den ρ) (b.den ρ)
  | mn a b => min (a.den ρ) (b.den ρ)
  | wr k a => k.wrap (a.den ρ)
def B.den (ρ : Env) : B → Bool
  | v i => ρ.bs.getD i false
  | c b => b
  | not b => !b.den ρ
  | lt a b => decide (a.den ρ < b.den ρ)
  | eq a b => decide (a.den ρ = b.den ρ)
  | beq a b => a.den ρ == b.den ρ
  | and a b => a.den ρ && b.den ρ
mutual
def SV.den (ρ : Env) (β : List Nat) : SV → Value
  | .int k e => .int k (e.den ρ)
  | .bool b => .bool (b.den ρ)
  | .con v => v
  | .var i => ρ.vs.getD i undef
  | .el i e o => match ρ.vs.getD i undef with
    | .slice (some a) _ _ => .pointer (some (a.add ((e.den ρ).toNat + o)))
    | _ => undef
  | .ptr i o => .pointer (some ⟨β.getD i 0, o, none⟩)
  | .row i o l c => .slice (some ⟨β.getD i 0, o, none⟩) l c
  | .agg l => .agg (SV.dens ρ β l).toArray
  | .tuple l => .tuple (SV.dens ρ β l).toArray
  | .fn f x c => .func (.func f) (SV.dens ρ β x).toArray (SV.dens ρ β c).toArray
def SV.dens (ρ : Env) (β : List Nat) : List SV → List Value
  | [] => []
  | x :: xs => x.den ρ β :: SV.dens ρ β xs
end
/-- within so many numbers, booleans and blocks -/
def E.sc (ni : Nat) : E → Bool
  | v i => decide (i < ni)
  | n _ => true
  | add a b | sub a b | mul a b | quo a b | rem a b | mx a b | mn a b => a.sc ni && b.sc ni
  | wr _ a => a.sc ni
def B.sc (ni nb : Nat) : B → Bool
  | v i => decide (i < nb)
  | c _ => true
  | not b => b.sc ni nb
  | lt a b | eq a b => a.sc ni && b.sc ni
  | beq a b | and a b => a.sc ni nb && b.sc ni nb
mutual
def SV.sc (ni nb nv nh : Nat) : SV → Bool
  | .int _ e => e.sc ni
  | .bool b => b.sc ni nb
  | .con _ => true
  | .var i => decide (i < nv)
  | .el i e _ => decide (i < nv) && e.sc ni
  | .ptr i _ | .row i _ _ _ => decide (i < nh)
  | .agg l | .tuple l => SV.scs ni nb nv nh l
  | .fn _ x c => SV.scs ni nb nv nh x && SV.scs ni nb nv nh c
def SV.scs (ni nb nv nh : Nat) : List SV → Bool
  | [] => true
  | x :: xs => x.sc ni nb nv nh && SV.scs ni nb nv nh xs
end
structure Blk where
  cells : List SV
  wr : Bool
abbrev Bds := List (Option (Int × Int))
structure St where
  tm : List SV
  hp : List Blk
  ni : Nat
  nb : Nat
  nv : Nat
  lv : Nat
  bd : Bds
  kn : List (B × Bool)
  sl : List (Nat × E)
  sk : List Nat
/-- between which numbers an expression lies -/
def E.rng (bd : Bds) : E → Option (Int × Int)
  | v i => match bd[i]? with
    | some r => r
    | none => none
  | n z => some (z, z)
  | add a b => match a.rng bd, b.rng bd with
    | some (l, h), some (l', h') => some (l + l', h + h')
    | _, _ => none
  | sub a b => match a.rng bd, b.rng bd with
    | some (l, h), some (l', h') => some (l - h', h - l')
    | _, _ => none
  | mul a b => match a.rng bd, b.rng bd with
    | some (l, h), some (l', h') => some (min (min (l * l') (l * h')) (min (h * l') (h * h')), max (max (l * l') (l * h')) (max (h * l') (h * h')))
    | _, _ => none
  | quo a b => match a.rng bd, b with
    | some (l, h), .n c => if 0 < c then some (l.tdiv c, h.tdiv c) else none
    | _, _ => none
  | rem a b => match a.rng bd, b with
    | some (l, h), .n c => if 0 < c then some (if 0 ≤ l then 0 else 1 - c, if 0 ≤ h then min (max h 0) (c - 1) else 0) else none
    | _, _ => none
  | mx a b => match a.rng bd, b.rng bd with
    | some (l, h), some (l', h') => some (max l l', max h h')
    | _, _ => none
  | mn a b => match a.rng bd, b.rng bd with
    | some (l, h), some (l', h') => some (min l l', min h h')
    | _, _ => none
  | wr k _ => some (k.min, k.max)
/-- a number where the expression can be no other one -/
def E.nf (bd : Bds) (e : E) : E := match e.rng bd with
  | some (l, h) => if l = h then .n l else e
  | none => e
/-- the expression as a number of a kind -/
def mk (bd : Bds) (k : IntKind) (e : E) : E := match e.rng bd with
  | some (l, h) => if k.min ≤ l ∧ h ≤ k.max then e.nf bd else .wr k e
  | none => .wr k e
def bLt (bd : Bds) (a b : E) : B := match a.rng bd, b.rng bd with
  | some (l, h), some (l', h') => if h < l' then .c true else if h' ≤ l then .c false else .lt a b
  | _, _ => .lt a b
def bEq (bd : Bds) (a b : E) : B := match a.rng bd, b.rng bd with
  | some (l, h), some (l', h') => if h < l' ∨ h' < l then .c false else if l = h ∧ l' = h' ∧ l = l' then .c true else .eq a b
  | _, _ => .eq a b
def bNot : B → B
  | .c b => .c !b
  | .not b => b
  | b => .not b
def bLe (bd : Bds) (a b : E) : B := bNot (bLt bd b a)
def bAnd : B → B → B
  | .c true, b => b
  | .c false, _ => .c false
  | a, .c true => a
  | _, .c false => .c false
  | a, b => .and a b
def lower (bd : Bds) (e : E) (z : Int) : Bds := match e with
  | .v i => match bd[i]? with
    | some (some (l, h)) => bd.set i (some (max l z, h))
    | _ => bd
  | _ => bd
def upper (bd : Bds) (e : E) (z : Int) : Bds := match e with
  | .v i => match bd[i]? with
    | some (some (l, h)) => bd.set i (some (l, min h z))
    | _ => bd
  | _ => bd
/-- a < b + d is so: what is known of both behind it -/
def less (bd : Bds) (a b : E) (d : Int) : Bds :=
  let bd1 := match b.rng bd with
    | some (_, h) => upper bd a (h + d - 1)
    | none => bd
  match a.rng bd with
  | some (l, _) => lower bd1 b (l - d + 1)
  | none => bd1
def differ (bd : Bds) (a : E) (z : Int) : Bds := match a with
  | .v i => match bd[i]? with
    | some (some (l, h)) => if l = z then bd.set i (some (l + 1, h)) else if h = z then bd.set i (some (l, h - 1)) else bd
    | _ => bd
  | _ => bd
def tell (bd : Bds) : B → Bool → Bds
  | .not b, t => tell bd b !t
  | .lt a b, true => less bd a b 0
  | .lt a b, false => less bd b a 1
  | .eq a b, true => less (less bd a b 1) b a 1
  | .eq a b, false => match a, b with
    | a, .n z => differ bd a z
    | .n z, b => differ bd b z
    | _, _ => bd
  | .and a b, true => tell (tell bd a true) b true
  | _, _ => bd
/-- what is new behind a call or at the head of a loop: so many numbers, booleans and values (nj of which nothing is known), the bounds of the numbers, which values are slices of which lengths, which values fill one cell -/
structure New where
  ni : Nat
  nb : Nat
  nv : Nat
  nj : Nat
  bd : Bds
  sl : List (Nat × E)
  sk : List Nat
/-- what a cell holds -/
inductive CK where
  | int (k : IntKind) | bool | val
/-- A tree of cases. both: either may come · call: a call that is told by contract (fixed: with the same results in whatever memory) · get: cells of a slice · loop, again: a loop, by what its rounds keep -/
inductive T (α : Type) where
  | ret (a : α)
  | ite (b : B) (x y : T α)
  | need (b : B) (x : T α)
  | both (x y : T α)
  | call (fixed : Bool) (f : FuncId) (args : List SV) (hp : List Blk) (sh : SV) (n : New) (x : T α)
  | get (i : Nat) (e : E) (o : Nat) (ks : List CK) (hp : List Blk) (x : T α)
  | loop (id : Nat) (is : List E) (bs : List B) (vs : List SV) (n : New) (x : T α)
  | again (id : Nat) (is : List E) (bs : List B) (vs : List SV)
  | fail (why : Nat)
def T.bind {α β : Type} (k : α → T β) : T α → T β
  | .ret a => k a
  | .ite b x y => .ite b (x.bind k) (y.bind k)
  | .need b x => .need b (x.bind k)
  | .both x y => .both (x.bind k) (y.bind k)
  | .call t f args hp sh n x => .call t f args hp sh n (x.bind k)
  | .get i e o ks hp x => .get i e o ks hp (x.bind k)
  | .loop id is bs vs n x => .loop id is bs vs n (x.bind k)
  | .again id is bs vs => .again id is bs vs
  | .fail n => .fail n
/-- no call that is told by contract, and no loop -/
def T.pure {α : Type} : T α → Bool
  | .ret _ => true
  | .ite _ x y => x.pure && y.pure
  | .need _ x => x.pure
  | _ => false
/-- no loop of this number -/
def T.noId {α : Type} (id : Nat) : T α → Bool
  | .ret _ | .fail _ | .again .. => true
  | .ite _ x y | .both x y => x.noId id && y.noId id
  | .need _ x | .call _ _ _ _ _ _ x | .get _ _ _ _ _ x => x.noId id
  | .loop j _ _ _ _ x => j != id && x.noId id
def seek (b : B) : List (B × Bool) → Option Bool
  | [] => none
  | (c, t) :: l => if b = c then some t else seek b l
def St.tell (st : St) (b : B) (t : Bool) : St := { st with bd := Sym.tell st.bd b t, kn := (b, t) :: st.kn }
def tIte {α : Type} (st : St) (b : B) (x y : St → T α) : T α := match b with
  | .c true => x st
  | .c false => y st
  | .not b => match seek b st.kn with
    | some true => y st
    | some false => x st
    | none => .ite b (y (st.tell b true)) (x (st.tell b false))
  | b => match seek b st.kn with
    | some true => x st
    | some false => y st
    | none => .ite b (x (st.tell b true)) (y (st.tell b false))
def of1 : Value → SV
  | .int k z => .int k (.n z)
  | .bool b => .bool (.c b)
  | v => .con v
def ofVal : Value → SV
  | .agg cs => .agg (cs.toList.map of1)
  | v => of1 v
def scalarV : Value → Bool
  | .agg _ | .tuple _ => false
  | _ => true
def SV.scalar (sk : List Nat) : SV → Bool
  | .int .. | .bool _ | .ptr .. | .row .. | .fn .. => true
  | .con v => scalarV v
  | .var i => sk.contains i
  | _ => false
def SV.cells (sk : List Nat) : SV → Option (List SV)
  | .agg l => some l
  | x => if x.scalar sk then some [x] else none
def evalO (st : St) : Operand → SV
  | .tmp t => st.tm.getD t (.con undef)
  | .const v => ofVal v
  | .global g => .con (.pointer (some ⟨g, 0, none⟩))
  | .func f => .fn f [] []
def scH (ni nb nv : Nat) (hp : List Blk) : Bool := hp.all fun b => SV.scs ni nb nv hp.length b.cells
def St.scoped (st : St) : Bool := SV.scs st.ni st.nb st.nv st.hp.length st.tm && scH st.ni st.nb st.nv st.hp && st.kn.all (fun p => p.1.sc st.ni st.nb) && st.sl.all (fun p => decide (p.1 < st.nv) && p.2.sc st.ni) && st.sk.all fun i => decide (i < st.nv)
def St.new (st : St) (cells : List SV) : T (SV × St) :=
  if st.scoped && SV.scs st.ni st.nb st.nv st.hp.length cells then .ret (.ptr st.hp.length 0, { st with hp := st.hp ++ [⟨cells, true⟩] }) else .fail 1
section
variable (P : Program)
def isAggB (t : TypeId) : Bool := match P.underlying t with
  | some (.struct _) | some (.array _ _) => true
  | _ => false
def sizeB (t : TypeId) : Option Nat := (P.info? t).map (·.size)
def zeroB (t : TypeId) : Option SV := match P.info? t with
  | some i => i.zero.map ofVal
  | none => none
/-- the part of cells at an offset, as a value of a type -/
def partS (t : TypeId) (cs : List SV) (off : Nat) : Option SV :=
  if (P.underlying t).isNone then none else if isAggB P t then (sizeB P t).map fun n => .agg ((cs.drop off).take n) else cs[off]?
/-- cells i .. i + n - 1 -/
def readN (cs : List SV) (i : Nat) : Nat → Option (List SV)
  | 0 => some []
  | n + 1 => match cs[i]?, readN cs (i + 1) n with
    | some x, some l => some (x :: l)
    | _, _ => none
def loadS (hp : List Blk) (t : TypeId) (i o : Nat) : Option SV := match hp[i]? with
  | none => none
  | some b => match P.underlying t, sizeB P t with
    | some _, some n => if isAggB P t then (readN b.cells o n).map .agg else b.cells[o]?
    | _, _ => none
def setN (sk : List Nat) (cs : List SV) (i : Nat) : List SV → Option (List SV)
  | [] => some cs
  | x :: xs => if i < cs.length ∧ x.scalar sk then setN sk (cs.set i x) (i + 1) xs else none
def storeS (sk : List Nat) (hp : List Blk) (t : TypeId) (i o : Nat) (x : SV) : Option (List Blk) := match hp[i]?, sizeB P t, x.cells sk with
  | some b, some n, some l => if b.wr ∧ l.length = n then (setN sk b.cells o l).map fun cs => hp.set i ⟨cs, true⟩ else none
  | _, _, _ => none
def fillS (sk : List Nat) (place : Nat → Option (Nat × Nat)) (cells : List SV) : List (Nat × SV) → Option (List SV)
  | [] => some cells
  | (i, v) :: rest => match place i, v.cells sk with
    | some (off, size), some l => if l.length ≠ size ∨ off + l.length > cells.length then none else fillS sk place (cells.take off ++ l ++ cells.drop (off + l.length)) rest
    | _, _ => none
def placesS (fields : List Field) : Option (List (Nat × Nat)) := match fields with
  | [] => some []
  | f :: fs => match sizeB P f.type, placesS fs with
    | some n, some l => some ((f.offset, n) :: l)
    | _, _ => none
/-- what the cells of a type hold -/
def kindsS : Nat → TypeId → Option (List CK)
  | 0, _ => none
  | n + 1, t => match P.underlying t with
    | some (.int k) => some [.int k]
    | some .bool => some [.bool]
    | some .string | some (.slice _) | some (.pointer _) => some [.val]
    | some (.struct fields) => fields.toList.foldr (fun f l => match kindsS n f.type, l with
      | some a, some b => some (a ++ b)
      | _, _ => none) (some [])
    | _ => none
def freshS (ni nb nv : Nat) : List CK → List SV
  | [] => []
  | .int k :: l => .int k (.v ni) :: freshS (ni + 1) nb nv l
  | .bool :: l => .bool (.v nb) :: freshS ni (nb + 1) nv l
  | .val :: l => .var nv :: freshS ni nb (nv + 1) l
def countS : List CK → Nat × Nat × Nat
  | [] => (0, 0, 0)
  | .int _ :: l => let (a, b, c) := countS l; (a + 1, b, c)
  | .bool :: l => let (a, b, c) := countS l; (a, b + 1, c)
  | .val :: l => let (a, b, c) := countS l; (a, b, c + 1)
def ckBd (ks : List CK) : Bds := ks.filterMap fun | .int k => some (some (k.min, k.max)) | _ => none
def opt {α : Type} (n : Nat) : Option α → T α
  | some a => .ret a
  | none => .fail n
/-- the place of an index, in a row of so many: with a case for each where it is no number -/
def pick {α : Type} (st : St) (e : E) (k : Nat → St → T α) : (n : Nat) → (i : Nat) → T α
  | 0, _ => .fail 2
  | n + 1, i => tIte st (bEq st.bd e (.n i)) (k i) fun st' => pick st' e k n (i + 1)
def within (st : St) (e : E) (len : Nat) : B := bAnd (bLe st.bd (.n 0) e) (bLt st.bd e (.n len))
def tNeed {α : Type} (st : St) (b : B) (x : St → T α) : T α := match b with
  | .c true => x st
  | .c false => .fail 3
  | b => .need b (x (st.tell b true))
def indexed {α : Type} (st : St) (e : E) (len : Nat) (k : Nat → St → T α) : T α :=
  tNeed st (within st e len) fun st => match e with
    | .n z => k z.toNat st
    | e => if len ≤ 20 then pick st e k len 0 else .fail 4
def boundS (d : Nat) : Option SV → Option Nat
  | none => some d
  | some (.int _ (.n z)) => if 0 ≤ z then some z.toNat else none
  | _ => none
def intOp (st : St) (op : BinOp) (k : IntKind) (a b : E) : T SV := match op with
  | .add => .ret (.int k (mk st.bd k (.add a b)))
  | .sub => .ret (.int k (mk st.bd k (.sub a b)))
  | .mul => .ret (.int k (mk st.bd k (.mul a b)))
  | .quo => tNeed st (bNot (bEq st.bd b (.n 0))) fun st => .ret (.int k (mk st.bd k (.quo a b)))
  | .rem => tNeed st (bNot (bEq st.bd b (.n 0))) fun st => .ret (.int k ((E.rem a b).nf st.bd))
  | .eql => .ret (.bool (bEq st.bd a b))
  | .neq => .ret (.bool (bNot (bEq st.bd a b)))
  | .lss => .ret (.bool (bLt st.bd a b))
  | .leq => .ret (.bool (bLe st.bd a b))
  | .gtr => .ret (.bool (bLt st.bd b a))
  | .geq => .ret (.bool (bLe st.bd b a))
  | _ => .fail 5
/-- two structs of numbers alone -/
def eqs (bd : Bds) : List SV → List SV → Option B
  | [], [] => some (.c true)
  | .int k a :: xs, .int k' b :: ys => if k = k' then (eqs bd xs ys).map (bAnd (bEq bd a b)) else none
  | _, _ => none
/-- a number that is not below 0, shifted to the right by a constant -/
def shrS (st : St) (k : IntKind) (a : E) (c : Int) : T SV := match a.rng st.bd with
  | some (l, _) => if 0 ≤ l ∧ 0 ≤ c ∧ c.toNat ≤ k.bits then .ret (.int k ((E.quo a (.n (2 ^ c.toNat))).nf st.bd)) else .fail 118
  | none => .fail 119
def binS (st : St) (op : BinOp) (x y : SV) : T SV := match op, x, y with
  | .shr, .int k a, .int _ (.n c) => shrS st k a c
  | op, .int k a, .int k' b => if k = k' then intOp st op k a b else .fail 6
  | _, _, _ => .fail 7
/-- one operation that is no call of a function: its value, and the state behind it -/
def opS (st : St) (o : Op) : T (SV × St) := match o with
  | .move x | .assign x => .ret (evalO st x, st)
  | .pick c a b => match evalO st c with
    | .bool q => tIte st q (fun s => .ret (evalO s a, s)) fun s => .ret (evalO s b, s)
    | _ => .fail 10
  | .alloc t => match zeroB P t with
    | some z => match z.cells [] with
      | some cs => st.new cs
      | none => .fail 11
    | none => .fail 12
  | .box _ x => match (evalO st x).cells st.sk with
    | some cs => st.new cs
    | none => .fail 13
  | .build t parts => match zeroB P t, P.underlying t with
    | some z, some (.struct fields) => match z.cells [], placesS P fields.toList with
      | some cs, some pl => match fillS st.sk (pl[·]?) cs (parts.toList.map fun (i, x) => (i, evalO st x)) with
        | some l => .ret (.agg l, st)
        | none => .fail 14
      | _, _ => .fail 15
    | some z, some (.array _ elem) => match z.cells [], sizeB P elem with
      | some cs, some size => match fillS st.sk (fun i => some (i * size, size)) cs (parts.toList.map fun (i, x) => (i, evalO st x)) with
        | some l => .ret (.agg l, st)
        | none => .fail 16
      | _, _ => .fail 17
    | _, _ => .fail 18
  | .buildSlice t len parts => match P.underlying t with
    | some (.slice elem) => match sizeB P elem, zeroB P elem with
      | some size, some z => match z.cells [] with
        | some cs => if cs.length = size ∧ 0 < size ∧ len * size ≤ 1000 then match fillS st.sk (fun i => some (i * size, size)) ((List.replicate len cs).flatten) (parts.toList.map fun (i, x) => (i, evalO st x)) with
          | some l => (st.new l).bind fun r => match r.1 with
            | .ptr i o => .ret (.row i o len len, r.2)
            | _ => .fail 19
          | none => .fail 20
          else .fail 21
        | none => .fail 22
      | _, _ => .fail 23
    | _ => .fail 24
  | .load t a => match evalO st a with
    | .ptr i o => match loadS P st.hp t i o with
      | some v => .ret (v, st)
      | none => .fail 25
    | .el i e o => match kindsS P 20 t, sizeB P t, P.underlying t with
      | some ks, some n, some _ => if ks.length = n ∧ 0 < n ∧ st.scoped = true ∧ st.bd.length = st.ni then
          let l := freshS st.ni st.nb st.nv ks
          let st' := { st with ni := st.ni + (countS ks).1, nb := st.nb + (countS ks).2.1, nv := st.nv + (countS ks).2.2, bd := st.bd ++ ckBd ks }
          if isAggB P t then .get i e o ks st.hp (.ret (.agg l, st'))
          else match l with
            | [v] => .get i e o ks st.hp (.ret (v, st'))
            | _ => .fail 97
        else .fail 98
      | _, _, _ => .fail 99
    | _ => .fail 26
  | .store t a x => match evalO st a with
    | .ptr i o => match storeS P st.sk st.hp t i o (evalO st x) with
      | some hp => .ret (.con undef, { st with hp })
      | none => .fail 27
    | _ => .fail 28
  | .nilCheck x => match evalO st x with
    | .ptr i o => .ret (.ptr i o, st)
    | .fn f x c => .ret (.fn f x c, st)
    | _ => .fail 29
  | .binOp op _ x y _ => (binS st op (evalO st x) (evalO st y)).bind fun v => .ret (v, st)
  | .unOp op _ x => match op, evalO st x with
    | .neg, .int k e => .ret (.int k (mk st.bd k (.sub (.n 0) e)), st)
    | .not, .bool b => .ret (.bool (bNot b), st)
    | _, _ => .fail 30
  | .convert src dst x => match P.underlying src, P.underlying dst, evalO st x with
    | some _, some (.int k), .int _ e => .ret (.int k (mk st.bd k e), st)
    | _, _, _ => .fail 32
  | .makeFunc fn first captured => match fn with
    | .func f => .ret (.fn f (first.toList.map (evalO st)) (captured.toList.map (evalO st)), st)
    | _ => .fail 31
  | .slice t x lo hi mx => match evalO st x with
    | .row i o l c => match P.underlying t, boundS 0 (lo.map (evalO st)), boundS l (hi.map (evalO st)), mx with
      | some (.slice elem), some lo, some hi, none => match sizeB P elem with
        | some n => if lo ≤ hi ∧ hi ≤ c then .ret (.row i (if c = lo then o else o + lo * n) (hi - lo) (c - lo), st) else .fail 33
        | none => .fail 34
      | _, _, _, _ => .fail 35
    | .ptr i o => match P.underlying t with
      | some (.array n elem) => match sizeB P elem, boundS 0 (lo.map (evalO st)), boundS n (hi.map (evalO st)), mx with
        | some z, some lo, some hi, none => if lo ≤ hi ∧ hi ≤ n then .ret (.row i (if n = lo then o else o + lo * z) (hi - lo) (n - lo), st) else .fail 36
        | _, _, _, _ => .fail 37
      | _ => .fail 38
    | _ => .fail 39
  | .fieldAddr s x f => match evalO st x, P.underlying s with
    | .ptr i o, some (.struct fields) => match fields[f]? with
      | some f => match sizeB P f.type with
        | some n => if n = 0 then .fail 40 else .ret (.ptr i (o + f.offset), st)
        | none => .fail 41
      | none => .fail 42
    | .el i e o, some (.struct fields) => match fields[f]? with
      | some f => match sizeB P f.type with
        | some n => if n = 0 then .fail 40 else match st.sl.find? (·.1 == i) with
          | some (_, len) => tNeed st (bLt st.bd (.n 0) len) fun s => .ret (.el i e (o + f.offset), s)
          | none => .fail 100
        | none => .fail 41
      | none => .fail 42
    | _, _ => .fail 43
  | .field s x f => match evalO st x, P.underlying s with
    | .agg l, some (.struct fields) => match fields[f]? with
      | some f => match partS P f.type l f.offset with
        | some v => .ret (v, st)
        | none => .fail 44
      | none => .fail 45
    | _, _ => .fail 46
  | .indexAddr t x ix => match evalO st x, evalO st ix, P.underlying t with
    | .ptr i o, .int _ e, some (.array len elem) => match sizeB P elem with
      | some n => indexed st e len fun j s => .ret (.ptr i (o + j * n), s)
      | none => .fail 47
    | .row i o len _, .int _ e, some (.slice elem) => match sizeB P elem with
      | some n => indexed st e len fun j s => .ret (.ptr i (o + j * n), s)
      | none => .fail 48
    | .var i, .int _ e, some (.slice elem) => match sizeB P elem, st.sl.find? (·.1 == i) with
      | some n, some (_, len) => tNeed st (bAnd (bLe st.bd (.n 0) e) (bLt st.bd e len)) fun s => .ret (.el i ((E.mul e (.n n)).nf s.bd) 0, s)
      | _, _ => .fail 101
    | _, _, _ => .fail 49
  | .index t x ix => match evalO st x, evalO st ix, P.underlying t with
    | .agg l, .int _ e, some (.array len elem) => match sizeB P elem with
      | some n => indexed st e len fun j s => match partS P elem l (j * n) with
        | some v => .ret (v, s)
        | none => .fail 50
      | none => .fail 51
    | _, _, _ => .fail 52
  | .extract t i => match evalO st t with
    | .tuple l => match l[i]? with
      | some v => .ret (v, st)
      | none => .fail 53
    | _ => .fail 54
  | _ => .fail 55
def mostS (bd : Bds) (f : E → E → E) (k : IntKind) : E → List SV → Option SV
  | a, [] => some (.int k a)
  | a, .int k' b :: rest => if k = k' then mostS bd f k ((f a b).nf bd) rest else none
  | _, _ => none
def builtS (st : St) (b : Builtin) (ts : Array TypeId) (args : List SV) : T SV := match b, args with
  | .len, [.row _ _ l _] => match (ts[0]?).bind P.underlying with
    | some (.slice _) => .ret (.int .i64 (.n l))
    | _ => .fail 60
  | .len, [.var i] => match (ts[0]?).bind P.underlying, st.sl.find? (·.1 == i) with
    | some (.slice _), some (_, e) => .ret (.int .i64 e)
    | _, _ => .fail 67
  | .len, [_] => match (ts[0]?).bind P.underlying with
    | some (.array n _) => .ret (.int .i64 (.n n))
    | _ => .fail 61
  | .max, .int k e :: rest => opt 62 (mostS st.bd .mx k e rest)
  | .min, .int k e :: rest => opt 63 (mostS st.bd .mn k e rest)
  | _, _ => .fail 66
abbrev Caller := FuncId → List SV → St → T (SV × St)
def stepS (call : Caller) (st : St) (o : Oper) : T (SV × St) := match o.op with
  | .call c => match c.callee with
    | .builtin b => (builtS P st b c.argTypes (c.args.toList.map (evalO st))).bind fun v => .ret (v, st)
    | .value f => match evalO st f with
      | .fn f first cap => call f (first ++ c.args.toList.map (evalO st) ++ cap) st
      | _ => .fail 70
    | _ => .fail 71
  | op => opS P st op
def St.put (st : St) (d : Option Tmp) (v : SV) : St := match d with
  | some d => { st with tm := st.tm.set d v }
  | none => st
def yieldS (ops : Array Oper) (st : St) (j : Nat) : Option B := match ((ops[j]?).bind (·.dst)).bind (st.tm[·]?) with
  | some (.bool b) => some b
  | _ => none
def undefS (ops : Array Oper) (st : St) (j : Nat) : Bool := match ((ops[j]?).bind (·.dst)).bind (st.tm[·]?) with
  | some (.con (.tuple _)) => true
  | _ => false
/-- one operation of a region, if it is wanted -/
def turnS (call : Caller) (ops : Array Oper) (st : St) (o : Oper) : T St :=
  let go (st : St) : T St := (stepS P call st o).bind fun r => .ret (r.2.put o.dst r.1)
  let skip (st : St) : T St := .ret (st.put o.dst (.con undef))
  match o.guard with
  | none => go st
  | some (j, want) => match yieldS ops st j with
    | some b => tIte st b (fun s => if want then go s else skip s) fun s => if want then skip s else go s
    | none => if undefS ops st j then skip st else .fail 72
def regS (call : Caller) (ops : Array Oper) : List Oper → St → T St
  | [], st => .ret st
  | o :: rest, st => (turnS P call ops st o).bind (regS call ops rest)
def conSame : Value → Value → Bool
  | .int k a, .int k' b => k == k' && a == b
  | .bool a, .bool b => a == b
  | .string a, .string b => decide (a = b)
  | .pointer a, .pointer b => a == b
  | .nilFunc, .nilFunc => true
  | .nilIface, .nilIface => true
  | .slice a n c, .slice a' n' c' => a == a' && n == n' && c == c'
  | .tuple a, .tuple b => a.size == 0 && b.size == 0
  | _, _ => false
mutual
def SV.same : SV → SV → Bool
  | .int k a, .int k' b => k == k' && decide (a = b)
  | .bool a, .bool b => decide (a = b)
  | .con a, .con b => conSame a b
  | .var i, .var j => i == j
  | .el i e o, .el i' e' o' => i == i' && decide (e = e') && o == o'
  | .ptr i o, .ptr i' o' => i == i' && o == o'
  | .row i o l c, .row i' o' l' c' => i == i' && o == o' && l == l' && c == c'
  | .agg a, .agg b => SV.sames a b
  | .tuple a, .tuple b => SV.sames a b
  | .fn f a b, .fn g c d => f == g && SV.sames a c && SV.sames b d
  | _, _ => false
def SV.sames : List SV → List SV → Bool
  | [], [] => true
  | x :: xs, y :: ys => x.same y && SV.sames xs ys
  | _, _ => false
end
/-- the blocks that there were are as they were -/
def sameH : List Blk → List Blk → Bool
  | [], _ => true
  | x :: xs, y :: ys => SV.sames x.cells y.cells && x.wr == y.wr && sameH xs ys
  | _, _ => false
/-- may the operation come in any order: it makes and writes nothing -/
def quietOp : Op → Bool
  | .alloc _ | .box .. | .buildSlice .. | .store .. => false
  | _ => true
def steadyOp (o : Oper) : Bool := quietOp o.op && match o.op with
  | .call c => (match c.callee with
    | .builtin _ => true
    | _ => false)
  | _ => true
/-- does one operation wait for another, over so many steps at most -/
def reachS (ops : Array Oper) : Nat → Nat → Nat → Bool
  | 0, _, _ => false
  | n + 1, j, i => match ops[j]? with
    | some o => (o.after.toList.any fun e => Region.binds .any e && e.on == i) || o.after.toList.any fun e => Region.binds .any e && reachS ops n e.on i
    | none => false
/-- the operation waits for all that read alone -/
def lateS (ops : Array Oper) (j : Nat) : Bool := (List.range ops.size).all fun i => i == j || !(ops[i]?).any steadyOp || reachS ops 5 j i
def bothL {α : Type} : List (T α) → T α
  | [] => .fail 115
  | [x] => x
  | x :: y :: l => .both x (bothL (y :: l))
/-- A region that draws its order: what reads alone comes first; of the rest, whatever may come. -/
def regG (call : Caller) (ops : Array Oper) : Nat → Array Bool → St → T St
  | 0, listed, st => if (Region.ready .any ops listed).isEmpty then .ret st else .fail 112
  | n + 1, listed, st => match (Region.ready .any ops listed).find? fun i => (ops[i]?).any steadyOp && Region.free .any ops listed i with
    | some i => match ops[i]? with
      | some o => (turnS P call ops st o).bind (regG call ops n (listed.setIfInBounds i true))
      | none => .fail 113
    | none => match Region.ready .any ops listed with
      | [] => .ret st
      | l => if l.length ≤ 3 then bothL (l.map fun i => (match ops[i]? with
        | some o => (turnS P call ops st o).bind fun s => if lateS ops i || (sameH st.hp s.hp && scH st.ni st.nb st.nv st.hp) then regG call ops n (listed.setIfInBounds i true) s else .fail 114
        | none => .fail 115)) else .fail 116
inductive X where
  | normal | exit (id : Nat) | ret
/-- which temporaries code writes -/
def dstsS : Code → List Nat
  | .region _ ops _ => ops.toList.filterMap (·.dst)
  | .seq a b => dstsS a ++ dstsS b
  | .cond _ a b => dstsS a ++ dstsS b
  | .block _ c | .loop c | .scope c => dstsS c
  | _ => []
/-- numbers, booleans, values in the place of those from so many on -/
structure Sub where
  ni : Nat
  nb : Nat
  nv : Nat
  nh : Nat
  is : List E
  bs : List B
  vs : List SV
def E.lay (s : Sub) : E → E
  | v i => if i < s.ni then v i else s.is.getD (i - s.ni) (.n 0)
  | n z => n z
  | add a b => add (a.lay s) (b.lay s)
  | sub a b => sub (a.lay s) (b.lay s)
  | mul a b => mul (a.lay s) (b.lay s)
  | quo a b => quo (a.lay s) (b.lay s)
  | rem a b => rem (a.lay s) (b.lay s)
  | mx a b => mx (a.lay s) (b.lay s)
  | mn a b => mn (a.lay s) (b.lay s)
  | wr k a => wr k (a.lay s)
def B.lay (s : Sub) : B → B
  | v i => if i < s.nb then v i else s.bs.getD (i - s.nb) (.c false)
  | c b => c b
  | not b => not (b.lay s)
  | lt a b => lt (a.lay s) (b.lay s)
  | eq a b => eq (a.lay s) (b.lay s)
  | beq a b => beq (a.lay s) (b.lay s)
  | and a b => and (a.lay s) (b.lay s)
mutual
def SV.lay (s : Sub) : SV → Option SV
  | .int k e => some (.int k (e.lay s))
  | .bool b => some (.bool (b.lay s))
  | .con v => some (.con v)
  | .var i => some (if i < s.nv then .var i else s.vs.getD (i - s.nv) (.con undef))
  | .el i e o => if i < s.nv then some (.el i (e.lay s) o) else none
  | .ptr i o => if i < s.nh then some (.ptr i o) else none
  | .row i o l c => if i < s.nh then some (.row i o l c) else none
  | .agg l => match SV.lays s l with
    | some l => some (.agg l)
    | none => none
  | .tuple l => match SV.lays s l with
    | some l => some (.tuple l)
    | none => none
  | .fn f a b => match SV.lays s a, SV.lays s b with
    | some a, some b => some (.fn f a b)
    | _, _ => none
def SV.lays (s : Sub) : List SV → Option (List SV)
  | [] => some []
  | x :: xs => match x.lay s, SV.lays s xs with
    | some x, some xs => some (x :: xs)
    | _, _ => none
end
def fitS (s : Sub) (x y : SV) : Bool := match x.lay s with
  | some z => z.same y
  | none => false
def fitL (s : Sub) : List SV → List SV → Bool
  | [], [] => true
  | x :: xs, y :: ys => fitS s x y && fitL s xs ys
  | _, _ => false
def fitH (s : Sub) : List Blk → List Blk → Bool
  | [], _ => true
  | x :: xs, y :: ys => fitL s x.cells y.cells && (!x.wr || y.wr) && fitH s xs ys
  | _, _ => false
/-- the new slices are slices of the lengths that are told -/
def fitN (s : Sub) (sl : List (Nat × E)) (l : List (Nat × E)) : Bool := l.all fun p => match s.vs.getD p.1 (.con undef) with
  | .var j => match sl.find? (·.1 == j) with
    | some (_, e) => match p.2 with
      | .v k => decide (e = s.is.getD k (.n 0))
      | _ => false
    | none => false
  | _ => false
/-- is a state the head of a loop, with these values in the place of the new ones -/
def fits (hd : St) (n : New) (st : St) (s : Sub) : Bool :=
  s.is.length == n.ni && s.bs.length == n.nb && s.vs.length == n.nv + n.nj && s.nh == hd.hp.length && SV.scs st.ni st.nb st.nv 0 (s.vs.take n.nv) && fitL s hd.tm st.tm && fitH s hd.hp st.hp && fitN s st.sl n.sl
/-- the head of a loop, and what is new in it: a slot that rounds write becomes new numbers, a new slice, or a value of which nothing is known -/
structure Gen where
  ni : Nat
  nb : Nat
  ns : Nat
  nj : Nat
  sl : List E
mutual
def genS (g : Gen) : SV → Option (SV × Gen)
  | .int k _ => some (.int k (.v g.ni), { g with ni := g.ni + 1 })
  | .bool _ => some (.bool (.v g.nb), { g with nb := g.nb + 1 })
  | .agg l => match genL g l with
    | some (l, g) => some (.agg l, g)
    | none => none
  | _ => none
def genL (g : Gen) : List SV → Option (List SV × Gen)
  | [] => some ([], g)
  | x :: xs => match genS g x with
    | some (y, g) => match genL g xs with
      | some (ys, g) => some (y :: ys, g)
      | none => none
    | none => none
end
def isSl (sl : List (Nat × E)) : SV → Bool
  | .var j => sl.any (·.1 == j)
  | _ => false
/-- nsl: how many slices there are among the slots that rounds write -/
def genT (sl : List (Nat × E)) (ds : List Nat) (b b0 nsl : Nat) : Nat → Gen → List SV → List SV × Gen
  | _, g, [] => ([], g)
  | i, g, x :: xs => match (if ds.contains i then (match genS g x with
      | some r => r
      | none => if isSl sl x then (.var (b + g.ns), { g with ns := g.ns + 1, ni := g.ni + 1, sl := g.sl ++ [.v (g.ni - b0)] }) else (.var (b + nsl + g.nj), { g with nj := g.nj + 1 })) else (x, g)) with
    | (y, g) => match genT sl ds b b0 nsl (i + 1) g xs with
      | (ys, g) => (y :: ys, g)
def genC (g : Gen) : List SV → List SV × Gen
  | [] => ([], g)
  | x :: xs => match (match genS g x with | some r => r | none => (x, g)) with
    | (y, g) => match genC g xs with
      | (ys, g) => (y :: ys, g)
def genH (g : Gen) : List Blk → List Blk × Gen
  | [] => ([], g)
  | x :: xs => match (if x.wr then (match genC g x.cells with | (l, g) => (Blk.mk l true, g)) else (x, g)) with
    | (y, g) => match genH g xs with
      | (ys, g) => (y :: ys, g)
/-- the values in the place of the new ones, read off a state -/
structure Acc where
  is : List E
  bs : List B
  vs : List SV
  js : List SV
mutual
def readS (b : Sub) (ns : Nat) (sl : List (Nat × E)) (a : Acc) : SV → SV → Acc
  | .int _ (.v i), .int _ e => if i < b.ni then a else { a with is := a.is ++ [e] }
  | .bool (.v i), .bool e => if i < b.nb then a else { a with bs := a.bs ++ [e] }
  | .agg l, .agg m => readL b ns sl a l m
  | .var i, y => if i < b.nv then a else if i < b.nv + ns then { a with vs := a.vs ++ [y], is := a.is ++ [match y with
      | .var j => (match sl.find? (·.1 == j) with | some (_, e) => e | none => .n 0)
      | _ => .n 0] } else { a with js := a.js ++ [y] }
  | _, _ => a
def readL (b : Sub) (ns : Nat) (sl : List (Nat × E)) (a : Acc) : List SV → List SV → Acc
  | x :: xs, y :: ys => readL b ns sl (readS b ns sl a x y) xs ys
  | _, _ => a
end
def readH (b : Sub) (ns : Nat) (sl : List (Nat × E)) (a : Acc) : List Blk → List Blk → Acc
  | x :: xs, y :: ys => readH b ns sl (readL b ns sl a x.cells y.cells) xs ys
  | _, _ => a
def E.shift (d : Nat) : E → E
  | .v i => .v (d + i)
  | e => e
def B.shift (d : Nat) : B → B
  | .v i => .v (d + i)
  | b => b
mutual
def SV.shift (di db dv : Nat) : SV → SV
  | .int k e => .int k (e.shift di)
  | .bool b => .bool (b.shift db)
  | .var i => .var (dv + i)
  | .agg l => .agg (SV.shifts di db dv l)
  | .tuple l => .tuple (SV.shifts di db dv l)
  | x => x
def SV.shifts (di db dv : Nat) : List SV → List SV
  | [] => []
  | x :: xs => x.shift di db dv :: SV.shifts di db dv xs
end
/-- the state behind what is new -/
def St.grow (st : St) (n : New) : St :=
  { st with ni := st.ni + n.ni, nb := st.nb + n.nb, nv := st.nv + n.nv, bd := st.bd ++ n.bd, sl := st.sl ++ n.sl.map fun p => (st.nv + p.1, p.2.shift st.ni), sk := st.sk ++ n.sk.map (st.nv + ·) }
def newB (n : New) : Bool := n.bd.length == n.ni && n.sl.all (fun p => decide (p.1 < n.nv) && (match p.2 with | .v i => decide (i < n.ni) | _ => false)) && n.sk.all (fun i => decide (i < n.nv) && n.sl.any (·.1 == i))
def headS (st : St) (ds : List Nat) (bd : Bds) : St × New :=
  let nsl := (st.tm.zipIdx.filter fun p => ds.contains p.2 && isSl st.sl p.1).length
  match genT st.sl ds st.nv st.ni nsl 0 ⟨st.ni, st.nb, 0, 0, []⟩ st.tm with
  | (tm, g) => match genH g st.hp with
    | (hp, g) =>
      let n : New := ⟨g.ni - st.ni, g.nb - st.nb, g.ns, g.nj, bd ++ List.replicate (g.ni - st.ni - bd.length) none, g.sl.zipIdx.map fun p => (p.2, p.1), List.range g.ns⟩
      ({ st.grow n with tm, hp, nv := st.nv + n.nv + n.nj, lv := st.lv + 1 }, n)
def subS (st0 hd : St) (n : New) (st : St) : Sub :=
  let b : Sub := ⟨st0.ni, st0.nb, st0.nv, hd.hp.length, [], [], []⟩
  let a := readH b n.nv st.sl (readL b n.nv st.sl ⟨[], [], [], []⟩ hd.tm st.tm) hd.hp st.hp
  { b with is := a.is, bs := a.bs, vs := a.vs ++ a.js }
/-- how a function's loops are carried out: unrolled, or told by what their rounds keep; then the bounds of the numbers there, by the loop -/
abbrev Cut := Option (List (Nat × Bds))
def codeS (call : Caller) (cut : Cut) : Nat → Code → St → T (X × St)
  | 0, _, _ => .fail 80
  | n + 1, c, st => match c with
    | .skip => .ret (.normal, st)
    | .region _ ops draw =>
      if draw then
        if Region.noSelect ops then (regG P call ops ops.size (Array.replicate ops.size false) st).bind fun s => .ret (.normal, s) else .fail 117
      else (regS P call ops ops.toList st).bind fun s => .ret (.normal, s)
    | .seq a b => (codeS call cut n a st).bind fun r => match r.1 with
      | .normal => codeS call cut n b r.2
      | _ => .ret r
    | .cond c x y => match evalO st c with
      | .bool b => tIte st b (codeS call cut n x) (codeS call cut n y)
      | _ => .fail 82
    | .block id c => (codeS call cut n c st).bind fun r => match r.1 with
      | .exit i => if i = id then .ret (.normal, r.2) else .ret r
      | _ => .ret r
    | .loop c => match cut with
      | none => (codeS call cut n c st).bind fun r => match r.1 with
        | .normal => codeS call cut n (.loop c) r.2
        | _ => .ret r
      | some bds =>
        let hn := headS st (dstsS c) (((bds.find? (·.1 == st.lv)).map (·.2)).getD [])
        let hd := hn.1
        let new := hn.2
        let s0 := subS st hd new st
        let body := codeS call cut n c hd
        if st.scoped && st.bd.length == st.ni && newB new && hd.hp.length == st.hp.length && fits hd new st s0 && body.noId st.lv then
          .loop st.lv s0.is s0.bs (s0.vs.take new.nv) new (body.bind fun r => match r.1 with
            | .normal =>
              let s := subS st hd new r.2
              if fits hd new r.2 s then .again st.lv s.is s.bs (s.vs.take new.nv) else .fail 110
            | _ => .ret r)
        else .fail 111
    | .exit id => .ret (.exit id, st)
    | .scope c => codeS call cut n c st
    | .ret => .ret (.ret, st)
    | _ => .fail 83
def resS (st : St) : List ResultVar → Option (List SV)
  | [] => some []
  | .tmp t :: rest => (resS st rest).map (st.tm.getD t (.con undef) :: ·)
  | .cell a t :: rest => match st.tm.getD a (.con undef) with
    | .ptr i o => match loadS P st.hp t i o, resS st rest with
      | some v, some l => some (v :: l)
      | _, _ => none
    | _ => none
/-- the body of a function, entered with arguments -/
def bodyS (call : Caller) (cut : Cut) (n : Nat) (fn : Func) (args : List SV) (st : St) : T (SV × St) := match fn.body with
  | some c => (codeS P call cut n c { st with tm := args ++ List.replicate (fn.ntmps - args.length) (.con undef) }).bind fun r => match r.1 with
    | .exit _ => .fail 84
    | _ => match resS P r.2 fn.results.toList with
      | some [v] => .ret (v, r.2)
      | some l => .ret (.tuple l, r.2)
      | none => .fail 85
  | none => .fail 86
/-- a contract: its function, whether its results are fixed, the shape of the result (numbers, booleans, values counted from 0), what is new -/
structure Con where
  f : FuncId
  fixed : Bool
  sh : SV
  n : New
def callable (f : FuncId) : Bool := match P.funcs[f]? with
  | some fn => fn.body.isSome && !(fn.name == "runtime.NumGoroutine")
  | none => false
def conS (k : Con) (args : List SV) (st : St) : T (SV × St) :=
  let sh := k.sh.shift st.ni st.nb st.nv
  if callable P k.f && st.scoped && sh.sc (st.ni + k.n.ni) (st.nb + k.n.nb) (st.nv + k.n.nv) 0 && k.n.bd.length == k.n.ni && st.bd.length == st.ni && k.n.nj == 0 && k.n.sl.all (fun p => decide (p.1 < k.n.nv) && (match p.2 with | .v i => decide (i < k.n.ni) | _ => false)) && k.n.sk.all (fun i => decide (i < k.n.nv)) then
    .call k.fixed k.f args st.hp sh k.n (.ret (sh, st.grow k.n))
  else .fail 91
def callS (cons : List Con) (cuts : FuncId → Cut) : Nat → Caller
  | 0, _, _, _ => .fail 90
  | n + 1, f, args, st => match cons.find? (·.f == f) with
    | some k => if k.f == f then conS P k args st else .fail 95
    | none => match P.funcs[f]? with
      | some fn => if !callable P f || !SV.scs st.ni st.nb st.nv st.hp.length st.tm then .fail 92 else
        (bodyS P (callS cons cuts n) (cuts f) 300 fn args st).bind fun r => .ret (r.1, { r.2 with tm := st.tm })
      | none => .fail 93
/-- what a function is run from: shapes of the arguments over so many numbers, booleans and values -/
structure Beg where
  cons : List Con
  cuts : List (FuncId × List (Nat × Bds))
  args : List SV
  ni : Nat
  nb : Nat
  nv : Nat
  bd : Bds
  sl : List (Nat × E)
  sk : List Nat
def Beg.cut (s : Beg) (f : FuncId) : Cut := (s.cuts.find? (·.1 == f)).map (·.2)
def runS (s : Beg) (f : FuncId) : T SV := match P.funcs[f]? with
  | some fn => (bodyS P (callS P s.cons s.cut 40) (s.cut f) 300 fn s.args ⟨[], [], s.ni, s.nb, s.nv, 0, s.bd, [], s.sl, s.sk⟩).bind fun r => if r.1.sc r.2.ni r.2.nb r.2.nv 0 then .ret r.1 else .fail 96
  | none => .fail 94
end
end Sym
end Go.Proofs.Ythfagiihfkjamaa
