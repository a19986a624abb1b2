/- A run of Go code over expressions: code, where ways meet, loops, functions. -/
import Derived.Test.YtlhnhidoljfnnaaFc
set_option linter.unusedVariables false
namespace Go.Proofs.Ytlhnhidoljfnnaa
namespace Fx
noncomputable section
inductive Ex where
  | normal | exit (id : Nat) | ret
  deriving DecidableEq
/-- where a new slice is from: a slice of the state that is left, or nil -/
abbrev Src := Option Nat
/-- what is gathered where states meet: the next data and slices, the ranges of the new data (the last one first), new slices, new blocks -/
structure MS where
  d : Nat
  v : Nat
  bd : Bds
  ents : List Ent
  blks : List Blk
  hd : List (Nat × Nat)
def unionR (wide : Option Bool) : List (Option (Int × Int)) → Option (Int × Int)
  | [] => none
  | [r] => r
  | none :: _ => none
  | some (l, h) :: rest => match unionR wide rest with
    | none => none
    | some (l', h') => match wide with
      | none => some (min l l', max h h')
      | some true => some (if l ≤ l' then l else -4611686018427387904, if h' ≤ h then h else 4611686018427387904)
      | some false => none
def isNil : SV → Bool
  | .con (.slice none 0 0) => true
  | _ => false
/-- one value out of those of states that meet -/
def mergeV (wide : Option Bool) (base : St) (sts : List St) (xs : List SV) (s : MS) : SV × MS := match xs with
  | [] => (.und, s)
  | x0 :: rest =>
    if rest.all (fun y => x0.same y) && x0.sc base.nd base.nv base.nh then (x0, s) else
    match x0 with
    | .int k _ => if xs.all (fun | .int k' _ => k == k' | _ => false) then (.int k (.V s.d), { s with d := s.d + 1, bd := unionR wide ((sts.zip xs).map fun p => match p.2 with | .int _ e => e.rng p.1.bd | _ => none) :: s.bd }) else (.und, s)
    | .bool _ => if xs.all (fun | .bool _ => true | _ => false) then (.bool (.V s.d), { s with d := s.d + 1, bd := none :: s.bd }) else (.und, s)
    | .str _ => if xs.all (fun | .str _ => true | _ => false) then (.str (.V s.d), { s with d := s.d + 1, bd := none :: s.bd }) else (.und, s)
    | _ =>
      let es := (sts.zip xs).map fun p => match p.2 with
        | .var i => p.1.ent i
        | _ => none
      if (xs.zip es).all (fun p => isNil p.1 || p.2.isSome) && es.any Option.isSome then
        match es.findSome? id with
        | some (cs, _, _) =>
          let res := es.map fun e => e.bind (·.2.2)
          if (xs.zip es).all (fun p => isNil p.1 || (p.2.bind (·.2.2)).isSome) then
            match res with
            | some j :: _ => match (if res.all (· == some j) then s.hd.find? (·.1 == j) else none) with
              | some (_, h) => (.var h, s)
              | none => (.var s.v, { s with d := s.d + 1, v := s.v + 1, bd := none :: s.bd, blks := s.blks ++ [.rows cs (.V s.d) s.v] })
            | _ => (.var s.v, { s with d := s.d + 1, v := s.v + 1, bd := none :: s.bd, blks := s.blks ++ [.rows cs (.V s.d) s.v] })
          else (.var s.v, { s with d := s.d + 1, v := s.v + 1, bd := none :: s.bd, ents := s.ents ++ [⟨s.v, cs, .V s.d⟩] })
        | none => (.und, s)
      else (.und, s)
/-- rows of values, by the column -/
def mergeL (wide : Option Bool) (base : St) (sts : List St) : Nat → List (List SV) → MS → List SV × MS
  | 0, _, s => ([], s)
  | n + 1, xs, s =>
    let r := mergeV wide base sts (xs.map fun l => l.headD .und) s
    let q := mergeL wide base sts n (xs.map List.tail) r.2
    (r.1 :: q.1, q.2)
/-- values out of those of states that meet: a struct or one cell -/
def mergeA (wide : Option Bool) (base : St) (sts : List St) (hs : List SV) (s : MS) : SV × MS := match hs with
  | .agg l :: rest => if rest.all (fun y => (SV.agg l).same y) && (SV.agg l).sc base.nd base.nv base.nh then (.agg l, s) else
      if hs.all (fun | .agg m => m.length == l.length | _ => false) then
        let r := mergeL wide base sts l.length (hs.map fun | .agg m => m | _ => []) s
        if r.1.any SV.isUnd then (.und, s) else (.agg r.1, r.2)
      else (.und, s)
  | _ => mergeV wide base sts hs s
def mergeAL (wide : Option Bool) (base : St) (sts : List St) : Nat → List (List SV) → MS → List SV × MS
  | 0, _, s => ([], s)
  | n + 1, xs, s =>
    let r := mergeA wide base sts (xs.map fun l => l.headD .und) s
    let q := mergeAL wide base sts n (xs.map List.tail) r.2
    (r.1 :: q.1, q.2)
def mergeT (wide : Option Bool) (base : St) (sts : List St) : Nat → Nat → List (List SV) → MS → List SV × MS
  | _, 0, _, s => ([], s)
  | live, n + 1, xs, s =>
    let hs : List SV := xs.map fun l => l.headD .und
    let r : SV × MS := if live % 2 = 0 then (.und, s) else match hs with
      | .tuple l :: rest => if rest.all (fun y => (SV.tuple l).same y) && (SV.tuple l).sc base.nd base.nv base.nh then (.tuple l, s) else
          if hs.all (fun | .tuple m => m.length == l.length | _ => false) then
            let r := mergeAL wide base sts l.length (hs.map fun | .tuple m => m | _ => []) s
            if r.1.any SV.isUnd then (.und, s) else (.tuple r.1, r.2)
          else (.und, s)
      | _ => mergeA wide base sts hs s
    let q := mergeT wide base sts (live / 2) n (xs.map List.tail) r.2
    (r.1 :: q.1, q.2)
/-- the blocks where states meet: rows first, then (with the rows at hand) cells -/
def mergeB (ph : Bool) (pre : List Blk) (wide : Option Bool) (base : St) (nb : Nat) (sts : List St) : Nat → Nat → MS → List Blk × MS
  | 0, _, s => ([], s)
  | n + 1, j, s =>
    let bs : List Blk := sts.map fun st => st.hp.getD j .none
    let r : Blk × MS := match bs with
      | .fix cells w :: rest =>
        if ph && bs.all (fun | .fix c _ => c.length == cells.length | _ => false) then
          let r := mergeL wide base sts cells.length (bs.map fun | .fix c _ => c | _ => []) s
          (.fix r.1 (bs.all fun | .fix _ w => w | _ => false), r.2)
        else (.none, s)
      | .rows cs x h :: rest =>
        if ph then (pre.getD j .none, s) else
        if j < nb && bs.all (fun | .rows c _ _ => CT.sames c cs | _ => false) then
          if bs.all (fun b => b.same (.rows cs x h)) && x.sc base.nd && h < base.nv then (.rows cs x h, { s with hd := (j, h) :: s.hd })
          else if bs.all (fun | .rows _ _ h' => h' == h | _ => false) && h < base.nv then (.rows cs (.V s.d) h, { s with d := s.d + 1, bd := none :: s.bd, hd := (j, h) :: s.hd })
          else (.rows cs (.V s.d) s.v, { s with d := s.d + 1, v := s.v + 1, bd := none :: s.bd, hd := (j, s.v) :: s.hd })
        else (.none, s)
      | _ => (.none, s)
    let q := mergeB ph pre wide base nb sts n (j + 1) r.2
    (r.1 :: q.1, q.2)
/-- the state where states meet: with data from d on, slices from the base's next one on -/
def mergeS (wide : Option Bool) (live : Nat) (base : St) (d : Nat) (sts : List St) : St :=
  let top := match sts with | [] => base.nh | s :: l => l.foldl (fun m s => min m s.nh) s.nh
  let base' := { base with hp := base.hp ++ List.replicate (top - base.nh) .none }
  let b0 := mergeB false [] wide base' base.nh sts base'.nh 0 ⟨d, base.nv, [], [], [], []⟩
  let b := mergeB true b0.1 wide base' base.nh sts base'.nh 0 b0.2
  let t := mergeT wide base' sts live base.tm.length (sts.map (·.tm)) b.2
  { base with tm := t.1, hp := b.1 ++ t.2.blks, nd := t.2.d, nv := t.2.v, bd := base.bd ++ List.replicate (d - base.bd.length) none ++ t.2.bd.reverse, sl := base.sl ++ t.2.ents }
abbrev Fit := List (Nat × X) × List (Nat × Src)
def Fit.add : Option Fit → Option Fit → Option Fit
  | some a, some b => some (a.1 ++ b.1, a.2 ++ b.2)
  | _, _ => none
def fit1 (nd nv nh : Nat) (x y : SV) : Option Fit :=
  if x.same y && x.sc nd nv nh then some ([], []) else match x, y with
  | .int k (.V d), .int k' e => if k = k' ∧ nd ≤ d then some ([(d, e)], []) else none
  | .bool (.V d), .bool e => if nd ≤ d then some ([(d, e)], []) else none
  | .str (.V d), .str e => if nd ≤ d then some ([(d, e)], []) else none
  | .var h, .var i => if nv ≤ h then some ([], [(h, some i)]) else none
  | .var h, .con (.slice none 0 0) => if nv ≤ h then some ([], [(h, none)]) else none
  | _, _ => none
def fitL (nd nv nh : Nat) : List SV → List SV → Option Fit
  | [], [] => some ([], [])
  | x :: xs, y :: ys => Fit.add (fit1 nd nv nh x y) (fitL nd nv nh xs ys)
  | _, _ => none
def fitA (nd nv nh : Nat) (x y : SV) : Option Fit := match x, y with
  | .agg l, .agg m => if SV.sames l m && SV.scs nd nv nh l then some ([], []) else fitL nd nv nh l m
  | x, y => fit1 nd nv nh x y
def fitAL (nd nv nh : Nat) : List SV → List SV → Option Fit
  | [], [] => some ([], [])
  | x :: xs, y :: ys => Fit.add (fitA nd nv nh x y) (fitAL nd nv nh xs ys)
  | _, _ => none
/-- slots and cells: of those of which nothing is told, nothing need be so -/
def fitU (nd nv nh : Nat) : List SV → List SV → Option Fit
  | [], _ => some ([], [])
  | .und :: xs, _ :: ys => fitU nd nv nh xs ys
  | .agg l :: xs, .agg m :: ys => Fit.add (if SV.sames l m && SV.scs nd nv nh l then some ([], []) else fitL nd nv nh l m) (fitU nd nv nh xs ys)
  | .tuple l :: xs, .tuple m :: ys => Fit.add (if SV.sames l m && SV.scs nd nv nh l then some ([], []) else fitAL nd nv nh l m) (fitU nd nv nh xs ys)
  | x :: xs, y :: ys => Fit.add (fit1 nd nv nh x y) (fitU nd nv nh xs ys)
  | _, _ => none
/-- the block of the state that is left for each block where states meet; none: nil -/
def fitB (nh : Nat) (base leaf : St) (hs : List (Nat × Src)) : List Blk → Nat → Option (Fit × List (Option Nat))
  | [], _ => some (([], []), [])
  | b :: bs, j => match (match b with
      | .none => some (([], []), none)
      | .fix cells w => (match leaf.hp[j]? with
        | some (.fix c w') => if (!w || w') && cells.length ≤ c.length then (fitU base.nd base.nv nh cells c).map fun f => (f, some j) else none
        | _ => none)
      | .rows cs x h => match (if j < base.nh then some (some j) else match hs.find? (·.1 == h) with
          | some (_, some i) => (match findR i leaf.hp 0 with
            | some (j', _, _) => some (some j')
            | none => none)
          | some (_, none) => some none
          | none => none) with
        | some (some j') => (match leaf.hp[j']? with
          | some (.rows cs' x' h') => if CT.sames cs cs' then
              Fit.add (if x.same x' && x.sc base.nd then some ([], []) else match x with
                | .V d => if base.nd ≤ d then some ([(d, x')], []) else none
                | _ => none) (if h = h' ∧ h < base.nv then some ([], []) else if base.nv ≤ h then some ([], [(h, some h')]) else none) |>.map fun f => (f, some j')
            else none
          | _ => none)
        | some none => (match x with
          | .V d => if base.nd ≤ d ∧ base.nv ≤ h then some (([(d, .rows [])], [(h, none)]), none) else none
          | _ => none)
        | none => none : Option (Fit × Option Nat)), fitB nh base leaf hs bs (j + 1) with
    | some (f, m), some (g, ms) => some ((f.1 ++ g.1, f.2 ++ g.2), m :: ms)
    | _, _ => none
def fitE (base leaf : St) (hs : List (Nat × Src)) : List Ent → Option Fit
  | [] => some ([], [])
  | e :: es => Fit.add (match e.x with
      | .V d => if base.nd ≤ d ∧ base.nv ≤ e.i then (match hs.find? (·.1 == e.i) with
          | some (_, some i) => (match leaf.sl.find? (·.i == i) with
            | some e' => if CT.sames e.cs e'.cs then some ([(d, e'.x)], []) else none
            | none => none)
          | some (_, none) => some ([(d, .rows [])], [])
          | none => none) else none
      | _ => none) (fitE base leaf hs es)
def nodup : List (Option Nat) → Bool
  | [] => true
  | none :: l => nodup l
  | some j :: l => !l.contains (some j) && nodup l
def okH (hs : List (Nat × Src)) : Bool := hs.all fun p => match hs.find? (·.1 == p.1) with
  | some q => q.2 == p.2
  | none => false
def okD (leaf J : St) (fs : List (Nat × X)) : Bool := fs.all fun p => decide (p.1 < J.nd) && (match fs.find? (·.1 == p.1) with
  | some q => q.2.same p.2
  | none => false) && match J.bd[p.1]? with
    | some (some (l, h)) => (match p.2.rng leaf.bd with
      | some (l', h') => decide (l ≤ l' ∧ h' ≤ h)
      | none => false)
    | _ => true
def okB (base : St) (fs : List (Nat × X)) : Bds → Nat → Bool
  | [], _ => true
  | none :: l, i => okB base fs l (i + 1)
  | some (a, b) :: l, i => ((match base.bd[i]? with
    | some (some (a', b')) => a == a' && b == b'
    | _ => false) || fs.any (·.1 == i)) && okB base fs l (i + 1)
/-- the values of the new data where a state that is left meets others -/
def fitS (base J leaf : St) (d : Nat) : Option (List X × List (Nat × Src)) :=
  if !(leaf.tm.length == J.tm.length && entsSame J.sl base.sl && entsSame leaf.sl base.sl && base.nd ≤ d && d ≤ J.nd && base.nv ≤ J.nv && base.nh ≤ J.nh) then none else
  match fitU base.nd base.nv J.nh J.tm leaf.tm with
  | some t => match fitB J.nh base leaf t.2 J.hp 0 with
    | some (b, μ) => match fitE base leaf (t.2 ++ b.2) (J.sl.drop base.sl.length) with
      | some e =>
        let fs := t.1 ++ b.1 ++ e.1
        let hs := t.2 ++ b.2 ++ e.2
        if nodup μ && okH hs && okD leaf J fs && fs.all (fun p => decide (d ≤ p.1)) && okB base fs J.bd 0 && hs.all (fun p => decide (base.nv ≤ p.1)) then some ((List.range (J.nd - d)).map (fun i => match fs.find? (·.1 == d + i) with | some p => p.2 | none => .N 0), hs) else none
      | none => none
    | none => none
  | none => none
def kindsOf : List (Ex × St) → List Ex
  | [] => []
  | (k, _) :: l => let r := kindsOf l; if r.contains k then r else k :: r
def indexE (k : Ex) : List Ex → Nat
  | [] => 0
  | x :: l => if x = k then 0 else indexE k l + 1
/-- ways of leaving, by their number -/
def chainE (d : Nat) : Nat → List (Ex × St) → T (Ex × St)
  | _, [] => .fail 130
  | _, [x] => .ret x
  | i, x :: l => .ite (.eq (.V d) (.N i)) (.ret x) (chainE d (i + 1) l)
/-- where states meet: one state for each way of leaving, and how the tree is closed -/
def meetS (wide : Option Bool) (live : Nat) (base : St) (ls : List (Ex × St)) : List (Ex × St) × Nat :=
  let ks := kindsOf ls
  let d := if ks.length = 1 then base.nd else base.nd + 1
  let js := ks.map fun k => (k, mergeS wide live base d ((ls.filter fun p => p.1 = k).map (·.2)))
  let top := js.foldl (fun m p => max m p.2.nd) d
  (js.map fun p => (p.1, { p.2 with nd := top, bd := p.2.bd ++ List.replicate (top - p.2.bd.length) none }), d)
/-- slices that a state that is left owns, where the state in which states meet does not: nothing rests on it -/
def mix1 (J leaf : St) : SV → SV → List Nat
  | .var h, .var i => if (findR h J.hp 0).isNone && (findR i leaf.hp 0).isSome then [i] else []
  | _, _ => []
def mixA (J leaf : St) : SV → SV → List Nat
  | .agg l, .agg m => (l.zip m).flatMap fun p => mix1 J leaf p.1 p.2
  | x, y => mix1 J leaf x y
def mixT (J leaf : St) : SV → SV → List Nat
  | .tuple l, .tuple m => (l.zip m).flatMap fun p => mixA J leaf p.1 p.2
  | x, y => mixA J leaf x y
def mixB (J leaf : St) : Blk → Blk → List Nat
  | .fix c _, .fix d _ => (c.zip d).flatMap fun p => mix1 J leaf p.1 p.2
  | _, _ => []
def mixH (base J leaf : St) : List Nat := if Nat.beq (lenQ J.sl) (lenQ base.sl) then [] else (J.tm.zip leaf.tm).flatMap (fun p => mixT J leaf p.1 p.2) ++ (J.hp.zip leaf.hp).flatMap fun p => mixB J leaf p.1 p.2
def closeS (base : St) (js : List (Ex × St)) (d : Nat) (l : Ex × St) : Option (List X) :=
  match js[indexE l.1 (js.map (·.1))]? with
  | some j => if base.scoped && l.2.scoped && j.2.scoped && j.1 = l.1 then (match fitS base j.2 (l.2.freeze (mixH base j.2 l.2)) d with
    | some (xs, _) => some (if d = base.nd then xs else .N (indexE l.1 (js.map (·.1))) :: xs)
    | none => none) else none
  | none => none
def topOf (base : St) (js : List (Ex × St)) : Nat := (match js with | p :: _ => p.2.nd | [] => 0) - base.nd
def joinS (live : Nat) (base : St) (t : T (Ex × St)) : T (Ex × St) :=
  let ls := t.leaves
  if (kindsOf ls).length = ls.length then t else
  let r := meetS none live base ls
  .sub (t.then fun l => match closeS base r.1 r.2 l with
    | some xs => .ret xs
    | none => .fail 131) (topOf base r.1) (chainE base.nd 0 r.1)
section
variable (P : Program)
def roundS (base J : St) (js : List (Ex × St)) (d : Nat) (l : Ex × St) : T (Bool × List X) := match l.1 with
  | .normal => match (if base.scoped && l.2.scoped && J.scoped then fitS base J l.2 base.nd else none) with
    | some (xs, _) => .ret (true, xs)
    | none => .fail 132
  | _ => match closeS base js d l with
    | some xs => .ret (false, xs)
    | none => .fail 133
def isNormal (p : Ex × St) : Bool := p.1 = .normal
/-- the state at the head of a loop: the first one that all rounds lead back to -/
def headS (live : Nat) (base : St) (body : St → T (Ex × St)) : Nat → List St → St
  | 0, _ => base
  | n + 1, sts =>
    let J := mergeS (if n = 0 then some false else some true) live base base.nd sts
    let ls := ((body J).leaves.filter isNormal).map (·.2)
    if ls.all fun l => (fitS base J l base.nd).isSome then J else headS live base body n (base :: ls)
def bitO : Operand → Nat
  | .tmp t => 1 <<< t
  | _ => 0
def bitOps (ops : Array Oper) : List Oper → Nat
  | [] => 0
  | o :: l => (o.looksAt ops).foldl (fun a t => a ||| 1 <<< t) (bitOps ops l)
/-- the slots that code may look at -/
def bitsC : Code → Nat
  | .region _ ops _ => bitOps ops ops.toList
  | .seq a b => bitsC a ||| bitsC b
  | .cond c a b => bitO c ||| (bitsC a ||| bitsC b)
  | .block _ c | .loop c | .scope c => bitsC c
  | _ => 0
/-- code with one round of each loop: which slots and cells change, for a guess at what holds at the head of a loop; nothing rests on it -/
def codeA (call : Caller) : Nat → Nat → Code → St → T (Ex × St)
  | 0, _, _, _ => .fail 80
  | n + 1, live, c, st => match c with
    | .skip => .ret (.normal, st)
    | .region _ ops draw =>
      if draw then
        if Region.noSelect ops && st.scoped && backOk ops then (regW P call ops st).then fun s => .ret (.normal, s) else .fail 117
      else (regS P call ops ops.toList st).then fun s => .ret (.normal, s)
    | .seq a b => (joinS (live ||| bitsC b) st (codeA call n (live ||| bitsC b) a st)).then fun r => match r.1 with
      | .normal => codeA call n live b r.2
      | _ => .ret r
    | .cond c x y => match evalO st c with
      | .bool b => tIte st b (codeA call n live x) (codeA call n live y)
      | _ => .fail 82
    | .block id c => (codeA call n live c st).then fun r => match r.1 with
      | .exit i => if i = id then .ret (.normal, r.2) else .ret r
      | _ => .ret r
    | .loop c => codeA call n (live ||| bitsC c) c st
    | .exit id => .ret (.exit id, st)
    | .scope c => codeA call n live c st
    | .ret => .ret (.ret, st)
    | _ => .fail 83
/-- a guess at what holds at the head of a loop -/
def headA (live : Nat) (base : St) (body : St → T (Ex × St)) : St :=
  let l1 := ((body base).leaves.filter isNormal).map (·.2)
  let J1 := mergeS (some true) live base base.nd (base :: l1)
  let l2 := ((body J1).leaves.filter isNormal).map (·.2)
  if l2.all fun l => (fitS base J1 l base.nd).isSome then J1 else mergeS (some false) live base base.nd (base :: l2)
/-- a slot, or a cell, that is the empty slice becomes a row of its own, of no cells yet -/
def adoptT (cs : List CT) (t : Nat) (st : St) : St := match st.tm[t]? with
  | some (.con (.slice none 0 0)) => if st.scoped then { st with tm := st.tm.set t (.var st.nv), hp := st.hp ++ [Blk.rows cs (X.rows []) st.nv], nv := st.nv + 1 } else st
  | _ => st
def adoptG (cs : List CT) (t o : Nat) (st : St) : St := match st.tm[t]? with
  | some (.agg l) => match l[o]? with
    | some (.con (.slice none 0 0)) => if st.scoped then { st with tm := st.tm.set t (.agg (l.set o (.var st.nv))), hp := st.hp ++ [Blk.rows cs (X.rows []) st.nv], nv := st.nv + 1 } else st
    | _ => st
  | _ => st
def adoptC (cs : List CT) (j o : Nat) (st : St) : St := match st.hp[j]? with
  | some (.fix cells wr) => match cells[o]? with
    | some (.con (.slice none 0 0)) => if st.scoped then { st with hp := (st.hp ++ [Blk.rows cs (X.rows []) st.nv]).set j (.fix (cells.set o (.var st.nv)) wr), nv := st.nv + 1 } else st
    | _ => st
  | _ => st
def rowOf (hp : List Blk) (i : Nat) : Option (List CT) := hp.findSome? fun b => match b with
  | .rows cs _ h => if h = i then some cs else none
  | _ => none
/-- which ones: those that are rows behind a round; nothing rests on it -/
def adoptL (st : St) (l : St) : St :=
  let go (f : List CT → St → St) (x : SV) (s : St) : St := match x with
    | .var i => match rowOf l.hp i with
      | some cs => f cs s
      | none => s
    | _ => s
  let s1 := (l.tm.zipIdx).foldl (fun s p => match p.1 with
    | .agg xs => (xs.zipIdx).foldl (fun s q => go (fun cs => adoptG cs p.2 q.2) q.1 s) s
    | x => go (fun cs => adoptT cs p.2) x s) st
  ((l.hp.take st.hp.length).zipIdx).foldl (fun s p => match p.1 with
    | .fix cells _ => (cells.zipIdx).foldl (fun s q => go (fun cs => adoptC cs p.2 q.2) q.1 s) s
    | _ => s) s1
def adoptS (st : St) (ls : List (Ex × St)) : St := ((ls.filter isNormal).map (·.2)).foldl adoptL st
/-- a slot or cell to be adopted -/
inductive AI where
  | t (cs : List CT) (t : Nat) | g (cs : List CT) (t o : Nat) | c (cs : List CT) (j o : Nat)
def AI.run (st : St) : AI → St
  | .t cs i => adoptT cs i st
  | .g cs i o => adoptG cs i o st
  | .c cs i o => adoptC cs i o st
/-- a state at a loop's head that is told; nothing rests on it -/
structure Hint where
  key : Nat
  nd : Nat
  ad : List AI
  J : St
/-- how loops are carried out: unrolled, or by their rounds -/
abbrev Cut := Option (List Hint)
abbrev Cuts := List (FuncId × List Hint)
def cutOf (cuts : Cuts) (f : FuncId) : Cut := match cuts.find? (·.1 == f) with
  | some p => some p.2
  | none => none
def hintOf (hs : List Hint) (key nd : Nat) : Option Hint := hs.find? fun h => Nat.beq h.nd nd && Nat.beq h.key key
/-- a loop by its rounds: J is the state at its head, t what a round makes of it -/
def loopS (live : Nat) (st J : St) (t : T (Ex × St)) : T (Ex × St) :=
  let out := meetS none live st (t.leaves.filter fun p => !isNormal p)
  match fitS st J st st.nd with
  | some (init, _) => if st.scoped && J.scoped then .loop init (t.then (roundS st J out.1 out.2)) (topOf st out.1) (chainE st.nd 0 out.1) else .fail 134
  | none => .fail 135
def codeS (call : Caller) (cut : Cut) : Nat → Nat → Code → St → T (Ex × St)
  | 0, _, _, _ => .fail 80
  | n + 1, live, c, st => match c with
    | .skip => .ret (.normal, st)
    | .region _ ops draw =>
      if draw then
        if Region.noSelect ops && st.scoped && backOk ops then (regW P call ops st).then fun s => .ret (.normal, s) else .fail 117
      else (regS P call ops ops.toList st).then fun s => .ret (.normal, s)
    | .seq a b => (joinS (live ||| bitsC b) st (codeS call cut n (live ||| bitsC b) a st)).then fun r => match r.1 with
      | .normal => codeS call cut n live b r.2
      | _ => .ret r
    | .cond c x y => match evalO st c with
      | .bool b => tIte st b (codeS call cut n live x) (codeS call cut n live y)
      | _ => .fail 82
    | .block id c => (codeS call cut n live c st).then fun r => match r.1 with
      | .exit i => if i = id then .ret (.normal, r.2) else .ret r
      | _ => .ret r
    | .loop c => match cut with
      | none => (joinS (live ||| bitsC c) st (codeS call cut n (live ||| bitsC c) c st)).then fun r => match r.1 with
        | .normal => codeS call cut n live (.loop c) r.2
        | _ => .ret r
      | some hs => match hintOf hs ((live ||| bitsC c) % 1152921504606846975) st.nd with
        | some h => loopS live (h.ad.foldl AI.run st) { h.J with kn := (h.ad.foldl AI.run st).kn } (codeS call cut n (live ||| bitsC c) c { h.J with kn := (h.ad.foldl AI.run st).kn })
        | none =>
          let st := adoptS st (codeA P call n (live ||| bitsC c) c st).leaves
          let J := headA (live ||| bitsC c) st (codeA P call n (live ||| bitsC c) c)
          loopS live st J (codeS call cut n (live ||| bitsC c) c J)
    | .exit id => .ret (.exit id, st)
    | .scope c => codeS call cut n live c st
    | .ret => .ret (.ret, st)
    | _ => .fail 83
def resS (st : St) : List ResultVar → Option (List SV)
  | [] => some []
  | .tmp t :: rest => match st.tm.getD t .und with
    | .und => none
    | x => (resS st rest).map (x :: ·)
  | .cell a t :: rest => match st.tm.getD a .und with
    | .ptr i o => match loadS P st.hp t i o, resS st rest with
      | some v, some l => some (v :: l)
      | _, _ => none
    | _ => none
/-- the body of a function, entered with arguments: the state behind it has the result in its one slot -/
def bodyS (call : Caller) (cut : Cut) (n : Nat) (fn : Func) (args : List SV) (st : St) : T (Ex × St) := match fn.body with
  | some c => (codeS P call cut n (fn.results.toList.foldl (fun a r => a ||| 1 <<< (match r with | .tmp t => t | .cell t _ => t)) 0) c { st with tm := args ++ List.replicate (fn.ntmps - args.length) .und }).then fun r => match r.1 with
    | .exit _ => .fail 84
    | _ => match resS P r.2 fn.results.toList with
      | some [v] => .ret (.normal, { r.2 with tm := [v] })
      | some l => .ret (.normal, { r.2 with tm := [.tuple l] })
      | none => .fail 85
  | none => .fail 86
def callable (f : FuncId) : Bool := match P.funcs[f]? with
  | some fn => fn.body.isSome && !(fn.name == "runtime.NumGoroutine")
  | none => false
/-- a parameter: data, or a pointer to a block of them · a result: data -/
inductive PK where
  | val (agg : Bool) (cs : List CT) | ptr (cs : List CT)
inductive RK where
  | val (agg : Bool) (cs : List CT)
structure Con where
  f : FuncId
  ps : List PK
  rs : List RK
  bd : Bds
/-- cells as new data from d on, slices from v on -/
def freshC : List CT → Nat → Nat → List SV × List Ent
  | [], _, _ => ([], [])
  | .int k :: l, d, v => let r := freshC l (d + 1) v; (.int k (.V d) :: r.1, r.2)
  | .bool :: l, d, v => let r := freshC l (d + 1) v; (.bool (.V d) :: r.1, r.2)
  | .str :: l, d, v => let r := freshC l (d + 1) v; (.str (.V d) :: r.1, r.2)
  | .sl cs :: l, d, v => let r := freshC l (d + 1) (v + 1); (.var v :: r.1, ⟨v, cs, .V d⟩ :: r.2)
def CT.isSl : CT → Bool
  | .sl _ => true
  | _ => false
def slN : List CT → Nat
  | [] => 0
  | .sl _ :: l => slN l + 1
  | _ :: l => slN l
def freshR : List RK → Nat → Nat → List SV × List Ent
  | [], _, _ => ([], [])
  | .val agg cs :: l, d, v =>
    let c := freshC cs d v
    let r := freshR l (d + cs.length) (v + slN cs)
    ((if agg then .agg c.1 else c.1.headD .und) :: r.1, c.2 ++ r.2)
def RK.cs : RK → List CT
  | .val _ cs => cs
/-- arguments as data, and the blocks of those that are pointers -/
def argsS (st : St) (own : Bool) : List PK → List SV → Option (List X × List (Nat × List CT))
  | [], [] => some ([], [])
  | .val agg cs :: ps, x :: xs => match (match agg, x with
      | true, .agg l => argXs st own cs l
      | false, x => argXs st own cs [x]
      | _, _ => none), argsS st own ps xs with
    | some a, some (l, bs) => some (a ++ l, bs)
    | _, _ => none
  | .ptr cs :: ps, .ptr j 0 :: xs => match (match st.hp[j]? with
      | some (.fix c true) => argXs st own cs c
      | _ => none), argsS st own ps xs with
    | some a, some (l, bs) => some (a ++ l, (j, cs) :: bs)
    | _, _ => none
  | _, _ => none
def updP : List (Nat × List CT) → Nat → Nat → List Blk → List Blk × List Ent
  | [], _, _, hp => (hp, [])
  | (j, cs) :: l, d, v, hp =>
    let c := freshC cs d v
    let r := updP l (d + cs.length) (v + slN cs) (hp.set j (.fix c.1 true))
    (r.1, c.2 ++ r.2)
def needB (st : St) (d : Nat) : Bds → (St → T (SV × St)) → T (SV × St)
  | [], k => k st
  | none :: bd, k => needB { st with bd := st.bd ++ [none] } (d + 1) bd k
  | some (l, h) :: bd, k => .need (.and (.not (.lt (.V d) (.N l))) (.not (.lt (.N h) (.V d)))) (needB { st with bd := st.bd ++ [some (l, h)] } (d + 1) bd k)
def lenR (rs : List RK) : Nat := (rs.map fun r => r.cs.length).sum
def slR (rs : List RK) : Nat := (rs.map fun r => slN r.cs).sum
def lenB (bs : List (Nat × List CT)) : Nat := (bs.map fun b => b.2.length).sum
def slB (bs : List (Nat × List CT)) : Nat := (bs.map fun b => slN b.2).sum
def PK.isV : PK → Bool
  | .val .. => true
  | _ => false
def PK.cs : PK → List CT
  | .val _ cs | .ptr cs => cs
/-- may slices that are owned be handed in: nothing that comes back can hold their cells -/
def lends (k : Con) : Bool := slR k.rs == 0 && k.ps.all fun p => p.isV || slN p.cs == 0
def conF (k : Con) (args : List SV) (st : St) : T (SV × St) :=
  match argsS st (lends k) k.ps args with
  | some (xs, bs) =>
    let n := lenR k.rs + lenB bs
    let r := freshR k.rs st.nd st.nv
    let u := updP bs (st.nd + lenR k.rs) (st.nv + slR k.rs) st.hp
    if callable P k.f && st.scoped && nodup (bs.map fun b => some b.1) && k.bd.length ≤ n && (k.rs.all fun r => match r with | .val agg cs => agg || cs.length == 1) then
      .call k.f xs n (needB { st with nd := st.nd + n, nv := st.nv + slR k.rs + slB bs, hp := u.1, sl := st.sl ++ (r.2 ++ u.2), bd := st.bd ++ List.replicate (st.nd - st.bd.length) none } st.nd k.bd fun st' =>
        .ret (match r.1 with | [v] => v | l => .tuple l, st'))
    else .fail 91
  | none => .fail 87
def conS (k : Con) (args : List SV) (st : St) : T (SV × St) := conF P k args (if lends k then st else st.freeze (SV.refVs args))
def callS (cons : List Con) (cuts : Cuts) : Nat → Caller
  | 0, _, _, _ => .fail 90
  | n + 1, f, args, st => match cons.find? (·.f == f) with
    | some k => if k.f == f then conS P k args st else .fail 95
    | none => match P.funcs[f]? with
      | some fn => if !callable P f || !st.scoped || args.any SV.isUnd then .fail 92 else
        (joinS 1 { st with tm := [.und] } (bodyS P (callS cons cuts n) (cutOf cuts f) 300 fn args st)).then fun r => match r.1, r.2.tm with
          | .normal, [v] => if v.isUnd then .fail 88 else .ret (v, { r.2 with tm := st.tm })
          | _, _ => .fail 89
      | none => .fail 93
/-- what a function is run from -/
def startP : List PK → Nat → Nat → Nat → List SV × List Ent × List Blk
  | [], _, _, _ => ([], [], [])
  | .val agg cs :: l, d, v, h =>
    let c := freshC cs d v
    let r := startP l (d + cs.length) (v + slN cs) h
    ((if agg then .agg c.1 else c.1.headD .und) :: r.1, c.2 ++ r.2.1, r.2.2)
  | .ptr cs :: l, d, v, h =>
    let c := freshC cs d v
    let r := startP l (d + cs.length) (v + slN cs) (h + 1)
    (.ptr h 0 :: r.1, c.2 ++ r.2.1, .fix c.1 true :: r.2.2)
/-- what a result is made of, as data; slices that are owned are given away -/
def outR (st : St) : RK → SV → Option (List X)
  | .val true cs, .agg l => argXs st true cs l
  | .val false cs, x => argXs st true cs [x]
  | _, _ => none
def outRs (st : St) : List RK → List SV → Option (List X)
  | [], [] => some []
  | r :: rs, x :: xs => match outR st r x, outRs st rs xs with
    | some a, some l => some (a ++ l)
    | _, _ => none
  | _, _ => none
def outP (st : St) : List PK → Nat → Option (List X)
  | [], _ => some []
  | .val .. :: ps, h => outP st ps h
  | .ptr cs :: ps, h => match st.hp[h]? with
    | some (.fix c true) => (match argXs st true cs c, outP st ps (h + 1) with
      | some a, some l => some (a ++ l)
      | _, _ => none)
    | _ => none
def resL (rs : List RK) (v : SV) : List SV := match rs, v with
  | [_], v => [v]
  | _, .tuple l => l
  | _, _ => [.und]
def lenP (ps : List PK) : Nat := (ps.map fun p => p.cs.length).sum
def slP (ps : List PK) : Nat := (ps.map fun p => slN p.cs).sum
/-- A function's tree: what it gives, then what its pointers' blocks hold. -/
def runS (cons : List Con) (cuts : Cuts) (k : Con) : T (List X) := match P.funcs[k.f]? with
  | some fn =>
    let s := startP k.ps 0 0 0
    let st0 : St := ⟨[], s.2.2, lenP k.ps, slP k.ps, k.bd, [], s.2.1⟩
    (bodyS P (callS P cons cuts 40) (cutOf cuts k.f) 300 fn s.1 st0).then fun r => match r.2.tm with
      | [v] => match outRs r.2 k.rs (resL k.rs v), outP r.2 k.ps 0 with
        | some a, some b => .ret (a ++ b)
        | _, _ => .fail 96
      | _ => .fail 97
  | none => .fail 94
end
end
end Fx
end Go.Proofs.Ytlhnhidoljfnnaa
