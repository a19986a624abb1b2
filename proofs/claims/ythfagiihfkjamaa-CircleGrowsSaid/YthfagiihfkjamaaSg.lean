/- The source of numbers in XSym's trees. -/
import Derived.Test.YthfagiihfkjamaaSymU
import Derived.Test.YthfagiihfkjamaaSm
set_option linter.unusedSimpArgs false
namespace Go.Proofs.Ythfagiihfkjamaa
open Go.ChangeShapes Go.WideShapes Go.ChangeAt Go.RowKit Sym
set_option maxHeartbeats 400000 in
theorem srcPick_calls (m b : Nat) (v : Value) (zs : List Int) (B : Nat) (w : World) (h : SrcM m w b) (hv : IntsIn w B v .i64 zs) (hB : ∀ g, v.ownBlock = some g → g ≠ b ∧ g < w.heap.size) (h1 : 1 ≤ zs.length) (h2 : zs.length ≤ 1000) :
    Calls Try.prog 48 #[.pointer (some ⟨b, 0, none⟩), v] w (GaveM m b w fun v => ∃ x, v = .int .i64 x ∧ x ∈ zs) := by
  obtain ⟨A, c, rfl, g1, g2, g3, g4⟩ := hv
  obtain ⟨bl, o, rfl, hbl, hc⟩ := g4 (by omega)
  unfold maxLen at g2
  obtain ⟨hne, hlt⟩ := hB bl rfl
  clear g3 g4 hB
  have HC := Lib.hid hc
  clear hc
  go_enter Try.func48, Try.ntmps48
  go_wp2_with (fail)
  refine (srcN_calls m b _ _ h (by omega)).mono ?_
  rintro e w1 ⟨_, rfl, ⟨x, rfl, hx⟩, hs, hg⟩
  obtain ⟨x0, x1⟩ := hx.1 (by omega)
  obtain ⟨j, rfl⟩ := Int.eq_ofNat_of_zero_le x0
  have hj : j < zs.length := by omega
  have hcell : w1.cell? ⟨bl, o + j, none⟩ = some (.int .i64 (zs.getD j 0)) := by
    rw [World.cell?_of_block (hg.block bl hlt (by intro e; injection e with e; exact hne e))]
    exact HC.out j hj
  clear hx
  go_wp2_with (fail)
  go_ret
  refine ⟨_, rfl, ⟨_, rfl, ?_⟩, hs, hg⟩
  simp
/-- since w0 nothing has changed but the source in block b -/
def spSrc (w0 : World) (m b : Nat) : Sp := ⟨fun w => w0.grownBy w (some b) ∧ SrcM m w b, fun g => g = b⟩
theorem inv_src {w0 : World} {m b : Nat} (hm : m ≤ w0.heap.size) : Inv w0.heap.size (spSrc w0 m b) where
  size h := h.1.size
  alloc := fun h o => ⟨grownBy_alloc' h.1 o, h.2.kept (by simp) fun i hi => Below.heap_alloc _ _ _ (by
    have := h.2.lt
    have := h.1.size
    rcases hi with hi | rfl <;> omega)⟩
  set := fun {w} h g o v hg hb => by
    have hk : ∀ i, i ≠ g → (w.setCell ⟨g, o, none⟩ v).heap[i]? = w.heap[i]? := fun i hi => Below.heap_setCell _ _ _ _ (by simpa using hi)
    refine ⟨⟨h.1.os, h.1.tape, h.1.output, by simpa using h.1.size, fun i hi hne => (hk i (by omega)).trans (h.1.block i hi hne)⟩, h.2.kept (by simp) fun i hi => hk i ?_⟩
    rcases hi with hi | rfl
    · omega
    · exact fun e => hb e.symm
  drew := fun h => ⟨grownBy_drew h.1, h.2.kept (Nat.le_refl _) fun _ _ => rfl⟩
  lt := fun h g hg => by subst hg; exact h.2.lt
variable {w0 : World} {m b : Nat} {A : Inva} {ρ : Env} {Q : SV → Env → Sp → Prop} {f : FuncId} {args : List SV} {hp : List Blk} {x : T SV}
/-- a call that gives a number out of the source -/
theorem intNode {k : Nat} {bd : Bds} (hm : m ≤ w0.heap.size) (R : Int → Prop) (hk : k = ρ.is.length) (hbd : ∀ z, R z → BdL [z] bd) (hcall : ∀ β w, HRel (spSrc w0 m b) w0.heap.size ρ β hp w → Calls Try.prog f (SV.dens ρ β args).toArray w (GaveM m b w fun v => ∃ z, v = .int .i64 z ∧ R z))
    (rest : ∀ z, R z → x.holds Try.prog w0.heap.size (spSrc w0 m b) ⟨ρ.is ++ [z], ρ.bs ++ [], ρ.vs ++ []⟩ A Q) :
    (T.call false f args hp (.int .i64 (.v k)) ⟨1, 0, 0, 0, bd, [], []⟩ x).holds Try.prog w0.heap.size (spSrc w0 m b) ρ A Q := by
  refine ⟨fun is bs vs s' => ∃ z, is = [z] ∧ R z ∧ s' = spSrc w0 m b, fun β w hH => ?_, fun is bs vs s' hn F _ hR => ?_⟩
  · refine (hcall β w hH).mono fun e w' ⟨v, he, ⟨z, hv, hz⟩, hs, hg⟩ => ?_
    subst hv
    have hS := hH.inv
    refine ⟨[z], [], [], spSrc w0 m b, ⟨rfl, rfl, rfl, BdL.ok (hbd z hz), slNil _ _, skNil _⟩, ⟨z, rfl, hz, rfl⟩, inv_src hm, Sp.le_refl _, ?_, ⟨grownBy_trans hS.1 hg, hs⟩, fun b' hb => (hH.lo b' hb).2.2, hg.size, fun b' hb => hg.block b' (hH.lo b' hb).2.1 (fun e => (hH.lo b' hb).2.2 (by injection e))⟩
    rw [he, hk]; simp [SV.den, E.den, Env.ext]
  · obtain ⟨z, rfl, hz, rfl⟩ := hR
    have e1 : bs = [] := List.length_eq_zero_iff.1 hn.nb
    have e2 : vs = [] := List.length_eq_zero_iff.1 hn.nv
    subst e1 e2
    exact rest z hz
/-- what is found of a row of numbers that the call has laid itself -/
theorem row_ints {s : Sp} {n0 : Nat} {β : List Nat} {w : World} (hH : HRel s n0 ρ β hp w) {i : Nat} {es : List E} {wr : Bool} (hi : hp[i]? = some ⟨es.map (SV.int .i64), wr⟩) (hl : es.length ≤ 1000) :
    IntsIn w w.heap.size (.slice (some ⟨β.getD i 0, 0, none⟩) es.length es.length) .i64 (es.map (E.den ρ)) := by
  refine ⟨_, es.length, by simp, by simp, by unfold maxLen; omega, (fun h => by cases h), fun _ => ⟨_, 0, rfl, (hH.lo _ (hH.mem hi).1).2.1, fun j hj => ?_⟩⟩
  simp only [List.length_map] at hj
  rw [Nat.zero_add, hH.cells i _ hi j (.int .i64 es[j]) (by simp [hj])]
  simp [SV.den, List.getD_eq_getElem?_getD, hj]
theorem nNode {j k : Nat} {e : E} {bd : Bds} (hm : m ≤ w0.heap.size) (hk : k = ρ.is.length) (hj : ρ.vs.getD j undef = .pointer (some ⟨b, 0, none⟩)) (he : e.den ρ ≤ 4611686018427387904) (hbd : ∀ z, InN (e.den ρ) z → BdL [z] bd)
    (rest : ∀ z, InN (e.den ρ) z → x.holds Try.prog w0.heap.size (spSrc w0 m b) ⟨ρ.is ++ [z], ρ.bs ++ [], ρ.vs ++ []⟩ A Q) :
    (T.call false 25 [.var j, .int .i64 e] hp (.int .i64 (.v k)) ⟨1, 0, 0, 0, bd, [], []⟩ x).holds Try.prog w0.heap.size (spSrc w0 m b) ρ A Q :=
  intNode hm (InN (e.den ρ)) hk hbd (fun β w hH => by
    have ea : (SV.dens ρ β [.var j, .int .i64 e]).toArray = #[.pointer (some ⟨b, 0, none⟩), .int .i64 (e.den ρ)] := by simp only [SV.dens, SV.den, hj]
    rw [ea]
    exact srcN_calls m b (e.den ρ) w hH.inv.2 he) rest
theorem pickNode {j k i : Nat} {wr : Bool} (es : List E) (hm : m ≤ w0.heap.size) (hk : k = ρ.is.length) (hj : ρ.vs.getD j undef = .pointer (some ⟨b, 0, none⟩)) {n : Nat} (hn : n = es.length) (hi : hp[i]? = some ⟨es.map (SV.int .i64), wr⟩) (h1 : 1 ≤ es.length) (h2 : es.length ≤ 1000)
    (rest : ∀ z, z ∈ es.map (E.den ρ) → x.holds Try.prog w0.heap.size (spSrc w0 m b) ⟨ρ.is ++ [z], ρ.bs ++ [], ρ.vs ++ []⟩ A Q) :
    (T.call false 48 [.var j, .row i 0 n n] hp (.int .i64 (.v k)) ⟨1, 0, 0, 0, [none], [], []⟩ x).holds Try.prog w0.heap.size (spSrc w0 m b) ρ A Q :=
  intNode hm (· ∈ es.map (E.den ρ)) hk (fun _ _ => trivial) (fun β w hH => by
    subst hn
    have := srcPick_calls m b _ _ w.heap.size w hH.inv.2 (row_ints hH hi h2) (fun g hg => by
      have : g = β.getD i 0 := by simpa [Value.ownBlock] using hg.symm
      subst this
      have := hH.lo _ (hH.mem hi).1
      exact ⟨this.2.2, this.2.1⟩) (by simpa using h1) (by simpa using h2)
    have ea : (SV.dens ρ β [.var j, .row i 0 es.length es.length]).toArray = #[.pointer (some ⟨b, 0, none⟩), .slice (some ⟨β.getD i 0, 0, none⟩) es.length es.length] := by simp only [SV.dens, SV.den, hj]
    rw [ea]
    exact this) rest
/-- A function of the source by its tree. -/
theorem srcRun {z : Beg} {f : FuncId} {t : T SV} (ht : runS Try.prog z f = t) (ρ : Env) (hi : ρ.is.length = z.ni) (hb : ρ.bs.length = z.nb) (hv : ρ.vs.length = z.nv) (hd : BdL ρ.is z.bd) (hsl : SlOk ρ.is ρ.vs z.sl) (hsk : SkOk ρ.vs z.sk) {w : World} {m b : Nat} (h : SrcM m w b) {R : Value → Prop}
    (hh : t.holds Try.prog w.heap.size (spSrc w m b) ρ noInv fun sv ρ' _ => R (sv.den ρ' [])) : Calls Try.prog f (SV.dens ρ [] z.args).toArray w (GaveM m b w R) :=
  calls ht ρ hi hb hv hd hsl hsk (inv_src (by have := h.lt; have := h.le; omega)) (s := spSrc w m b) (w := w) ⟨grownBy_refl _ _, h⟩ (holds_mono (fun _ _ _ h2 w' hw _ => ⟨_, rfl, h2, hw.2, hw.1⟩) hh)
theorem sk1 {v : Value} {l : List Value} (h : scalarV v = true) : SkOk (v :: l) [0] := fun i hi => by
  simp only [List.mem_cons, List.not_mem_nil, or_false] at hi
  subst hi
  exact h
def InR (lo hi x : Int) : Prop := lo ≤ x ∧ x ≤ hi
theorem inN_bd {n z : Int} (hn : n ≤ 4611686018427387904) (h : InN n z) : BdL [z] [some (0, 4611686018427387904)] := by
  refine ⟨?_, trivial⟩
  by_cases k : 1 ≤ n
  · have := h.1 k; omega
  · have := h.2 (by omega); omega
def rng_Z : Beg := ⟨[⟨25, false, .int .i64 (.v 0), ⟨1, 0, 0, 0, [some (0, 4611686018427387904)], [], []⟩⟩], [], [.var 0, .int .i64 (.v 0), .int .i64 (.v 1)], 2, 0, 1, [some (-1000000000000, 1000000000000), some (-1000000000000, 1000000000000)], [], [0]⟩
def rng_T : T SV :=
  T.call false 25 [SV.var 0, SV.int IntKind.i64 (((E.v 1).sub (E.v 0)).add (E.n 1))] []
  (SV.int IntKind.i64 (E.v 2))
  { ni := 1, nb := 0, nv := 0, nj := 0, bd := [some (0, 4611686018427387904)], sl := [], sk := [] }
  (T.ret (SV.int IntKind.i64 ((E.v 0).add (E.v 2))))
set_option maxRecDepth 100000 in
theorem rng_t : runS Go.Proofs.Try.prog rng_Z 32 = rng_T := by kernel_rfl
theorem srcRange_calls (m b : Nat) (lo hi : Int) (w : World) (h : SrcM m w b) (h1 : lo ≤ hi) (h2 : -1000000000000 ≤ lo) (h3 : hi ≤ 1000000000000) :
    Calls Try.prog 32 #[.pointer (some ⟨b, 0, none⟩), .int .i64 lo, .int .i64 hi] w (GaveM m b w fun v => ∃ x, v = .int .i64 x ∧ InR lo hi x) :=
  srcRun rng_t ⟨[lo, hi], [], [.pointer (some ⟨b, 0, none⟩)]⟩ rfl rfl rfl (by simp only [rng_Z, BdL]; exact ⟨⟨by omega, by omega⟩, ⟨by omega, by omega⟩, trivial⟩) (slNil _ _) (sk1 (by rfl)) h (by
    have hm : m ≤ w.heap.size := by have := h.lt; have := h.le; omega
    unfold rng_T
    refine nNode hm rfl rfl (by simp only [E.den, B.den, SV.den, SV.dens, List.getD_cons_zero, List.getD_cons_succ, List.cons_append, List.nil_append, List.append_nil, List.map_cons, List.map_nil, List.length_cons, List.length_nil]; omega) (fun z hz => inN_bd (by simp only [E.den, B.den, SV.den, SV.dens, List.getD_cons_zero, List.getD_cons_succ, List.cons_append, List.nil_append, List.append_nil, List.map_cons, List.map_nil, List.length_cons, List.length_nil]; omega) hz) fun z hz => ?_
    simp only [E.den, B.den, SV.den, SV.dens, List.getD_cons_zero, List.getD_cons_succ, List.cons_append, List.nil_append, List.append_nil, List.map_cons, List.map_nil, List.length_cons, List.length_nil] at hz
    obtain ⟨z0, z1⟩ := hz.1 (by omega)
    exact ⟨_, rfl, by simp only [E.den, B.den, SV.den, SV.dens, List.getD_cons_zero, List.getD_cons_succ, List.cons_append, List.nil_append, List.append_nil, List.map_cons, List.map_nil, List.length_cons, List.length_nil]; omega, by simp only [E.den, B.den, SV.den, SV.dens, List.getD_cons_zero, List.getD_cons_succ, List.cons_append, List.nil_append, List.append_nil, List.map_cons, List.map_nil, List.length_cons, List.length_nil]; omega⟩)
theorem rangeNode {j k : Nat} {e e' : E} (hm : m ≤ w0.heap.size) (hk : k = ρ.is.length) (hj : ρ.vs.getD j undef = .pointer (some ⟨b, 0, none⟩)) (h1 : e.den ρ ≤ e'.den ρ) (h2 : -1000000000000 ≤ e.den ρ) (h3 : e'.den ρ ≤ 1000000000000)
    (rest : ∀ z, InR (e.den ρ) (e'.den ρ) z → x.holds Try.prog w0.heap.size (spSrc w0 m b) ⟨ρ.is ++ [z], ρ.bs ++ [], ρ.vs ++ []⟩ A Q) :
    (T.call false 32 [.var j, .int .i64 e, .int .i64 e'] hp (.int .i64 (.v k)) ⟨1, 0, 0, 0, [some (-1000000000000, 1000000000000)], [], []⟩ x).holds Try.prog w0.heap.size (spSrc w0 m b) ρ A Q :=
  intNode hm (InR (e.den ρ) (e'.den ρ)) hk (fun z hz => ⟨⟨by have := hz.1; omega, by have := hz.2; omega⟩, trivial⟩) (fun β w hH => by
    have ea : (SV.dens ρ β [.var j, .int .i64 e, .int .i64 e']).toArray = #[.pointer (some ⟨b, 0, none⟩), .int .i64 (e.den ρ), .int .i64 (e'.den ρ)] := by simp only [SV.dens, SV.den, hj]
    rw [ea]
    exact srcRange_calls m b _ _ w hH.inv.2 h1 h2 h3) rest
/-- a call that gives a value of numbers out of the source -/
theorem srcNode {n : Nat} {sh : SV} {bd : Bds} (hm : m ≤ w0.heap.size) (R : List Int → Prop) (hR : ∀ is, R is → is.length = n ∧ BdL is bd)
    (hcall : ∀ β w, HRel (spSrc w0 m b) w0.heap.size ρ β hp w → Calls Try.prog f (SV.dens ρ β args).toArray w (GaveM m b w fun v => ∃ is, R is ∧ v = sh.den ⟨ρ.is ++ is, ρ.bs ++ [], ρ.vs ++ []⟩ []))
    (rest : ∀ is, R is → x.holds Try.prog w0.heap.size (spSrc w0 m b) ⟨ρ.is ++ is, ρ.bs ++ [], ρ.vs ++ []⟩ A Q) :
    (T.call false f args hp sh ⟨n, 0, 0, 0, bd, [], []⟩ x).holds Try.prog w0.heap.size (spSrc w0 m b) ρ A Q := by
  refine ⟨fun is bs vs s' => R is ∧ s' = spSrc w0 m b, fun β w hH => ?_, fun is bs vs s' hn F _ hq => ?_⟩
  · refine (hcall β w hH).mono fun e w' ⟨v, he, ⟨is, hi, hv⟩, hs, hg⟩ => ?_
    subst hv
    have hS := hH.inv
    refine ⟨is, [], [], spSrc w0 m b, ⟨(hR is hi).1, rfl, rfl, BdL.ok (hR is hi).2, slNil _ _, skNil _⟩, ⟨hi, rfl⟩, inv_src hm, Sp.le_refl _, he, ⟨grownBy_trans hS.1 hg, hs⟩, fun b' hb => (hH.lo b' hb).2.2, hg.size, fun b' hb => hg.block b' (hH.lo b' hb).2.1 (fun e => (hH.lo b' hb).2.2 (by injection e))⟩
  · obtain ⟨hi, rfl⟩ := hq
    have e1 : bs = [] := List.length_eq_zero_iff.1 hn.nb
    have e2 : vs = [] := List.length_eq_zero_iff.1 hn.nv
    subst e1 e2
    exact rest is hi
/-- the source is made -/
theorem newNode {j k : Nat} {v : Value} {zs : List Int} (hk : k = ρ.vs.length) (hj : ρ.vs.getD j undef = v) (hv : IntsIn w0 w0.heap.size v .i64 zs) (hz : ∀ z ∈ zs, (Lit.int .i64 z).wf = true)
    (rest : ∀ b, x.holds Try.prog w0.heap.size (spSrc w0 w0.heap.size b) ⟨ρ.is ++ [], ρ.bs ++ [], ρ.vs ++ [.pointer (some ⟨b, 0, none⟩)]⟩ A Q) :
    (T.call false 16 [.var j] hp (.var k) ⟨0, 0, 1, 0, [], [], [0]⟩ x).holds Try.prog w0.heap.size (spB w0) ρ A Q := by
  refine ⟨fun is bs vs s' => ∃ b, vs = [.pointer (some ⟨b, 0, none⟩)] ∧ s' = spSrc w0 w0.heap.size b, fun β w hH => ?_, fun is bs vs s' hn F _ hq => ?_⟩
  · have hB : Below w0.heap.size w0 w := hH.inv
    have hc := srcNew_calls w0.heap.size v zs w hB.size (hv.kept hB.block) hz
    have ea : (SV.dens ρ β [.var j]).toArray = #[v] := by simp only [SV.dens, SV.den, hj]
    rw [ea]
    refine hc.mono fun e w' ⟨he, hs, hb⟩ => ?_
    have hT : Below w0.heap.size w0 w' := hB.trans (hb.mono hB.size)
    refine ⟨[], [], [.pointer (some ⟨w.heap.size, 0, none⟩)], spSrc w0 w0.heap.size w.heap.size, ⟨rfl, rfl, rfl, fun i l h q => by simp at q, slNil _ _, sk1 rfl⟩, ⟨_, rfl, rfl⟩, inv_src (Nat.le_refl _), ?_, ?_, ?_, fun b' hb' e => ?_, hb.size, fun b' hb' => hb.block b' (hH.lo b' hb').2.1⟩
    · exact ⟨fun u hu => ⟨hu.1.os, hu.1.tape, hu.1.output, hu.1.size, fun i hi => hu.1.block i hi (fun e => by
        injection e with e
        have := hB.size
        omega)⟩, fun _ h => h.elim⟩
    · rw [he, hk]; simp [SV.den, Env.ext]
    · exact ⟨grownBy_below hT _, hs⟩
    · exact absurd (hH.lo b' hb').2.1 (by rw [show b' = w.heap.size from e]; omega)
  · obtain ⟨b, rfl, rfl⟩ := hq
    have e1 : is = [] := List.length_eq_zero_iff.1 hn.ni
    have e2 : bs = [] := List.length_eq_zero_iff.1 hn.nb
    subst e1 e2
    exact rest b
/-- a condition that lasts where nothing that there was has changed -/
def Keeps (s : Sp) : Prop := ∀ w w', s.S w → Below w.heap.size w w' → s.S w'
theorem keeps_src {w0 : World} {m b : Nat} : Keeps (spSrc w0 m b) := fun w w' h k => ⟨grownBy_trans h.1 (grownBy_below k _), h.2.kept k.size fun i hi => k.block i (by
  have := h.2.lt
  have := h.2.le
  rcases hi with hi | rfl <;> omega)⟩
theorem keeps_below {w0 : World} : Keeps (spB w0) := fun _ _ h k => Below.trans h (k.mono (Below.size h))
theorem gotK {s : Sp} {n0 : Nat} {β : List Nat} {w : World} (hs : Keeps s) (hH : HRel s n0 ρ β hp w) {v : Value} {args : Array Value} (h : Calls Try.prog f args w fun e w' => e = .returned v ∧ Below w.heap.size w w') : Calls Try.prog f args w (Got s β w (· = v)) :=
  h.mono fun _ _ ⟨he, hb⟩ => ⟨v, he, rfl, hs _ _ hH.inv hb, hb.size, fun b hb' => hb.block b (hH.lo b hb').2.1⟩
/-- a call whose number is told -/
theorem fixInt {s : Sp} {n0 k : Nat} {bd : Bds} (hs : Keeps s) (hk : k = ρ.is.length) (z : Int) (hbd : BdL [z] bd) (hcall : ∀ w, Calls Try.prog f (SV.dens ρ [] args).toArray w fun e w' => e = .returned (.int .i64 z) ∧ Below w.heap.size w w') (ha : ∀ β, SV.dens ρ β args = SV.dens ρ [] args)
    (rest : x.holds Try.prog n0 s ⟨ρ.is ++ [z], ρ.bs ++ [], ρ.vs ++ []⟩ A Q) :
    (T.call true f args hp (.int .i64 (.v k)) ⟨1, 0, 0, 0, bd, [], []⟩ x).holds Try.prog n0 s ρ A Q :=
  ⟨[z], [], [], ⟨rfl, rfl, rfl, BdL.ok hbd, slNil _ _, skNil _⟩, fun β w hH => by
    have := gotK hs hH (hcall w)
    rw [ha β]
    rw [hk]
    simpa [SV.den, E.den, Env.ext] using this, rest⟩
theorem fixBool {s : Sp} {n0 k : Nat} (hs : Keeps s) (hk : k = ρ.bs.length) (z : Bool) (hcall : ∀ w, Calls Try.prog f (SV.dens ρ [] args).toArray w fun e w' => e = .returned (.bool z) ∧ Below w.heap.size w w') (ha : ∀ β, SV.dens ρ β args = SV.dens ρ [] args)
    (rest : x.holds Try.prog n0 s ⟨ρ.is ++ [], ρ.bs ++ [z], ρ.vs ++ []⟩ A Q) :
    (T.call true f args hp (.bool (.v k)) ⟨0, 1, 0, 0, [], [], []⟩ x).holds Try.prog n0 s ρ A Q :=
  ⟨[], [z], [], ⟨rfl, rfl, rfl, fun i l h q => by simp at q, slNil _ _, skNil _⟩, fun β w hH => by
    have := gotK hs hH (hcall w)
    rw [ha β]
    rw [hk]
    simpa [SV.den, B.den, Env.ext] using this, rest⟩
/-- the law's row of numbers -/
theorem sl1 {w : World} {B : Nat} {v : Value} {zs : List Int} (h : IntsIn w B v .i64 zs) {is : List Int} : SlOk ((zs.length : Int) :: is) [v] [(0, .v 0)] := by
  intro p hp
  simp only [List.mem_cons, List.not_mem_nil, or_false] at hp
  subst hp
  obtain ⟨A, c, rfl, g1, g2, g3, g4⟩ := h
  exact ⟨A, zs.length, c, rfl, rfl, fun h0 => by obtain ⟨bl, o, ha, _⟩ := g4 h0; rw [ha]; rfl⟩
theorem len_bd {w : World} {B : Nat} {v : Value} {zs : List Int} (h : IntsIn w B v .i64 zs) : 0 ≤ (zs.length : Int) ∧ (zs.length : Int) ≤ 9223372036854775807 := by
  obtain ⟨A, c, rfl, g1, g2, g3, g4⟩ := h
  unfold maxLen at g2
  omega
theorem skL {w : World} {B : Nat} {v : Value} {zs : List Int} (h : IntsIn w B v .i64 zs) : SkOk [v] [0] := sk1 (by obtain ⟨A, c, rfl, _⟩ := h; rfl)
end Go.Proofs.Ythfagiihfkjamaa
