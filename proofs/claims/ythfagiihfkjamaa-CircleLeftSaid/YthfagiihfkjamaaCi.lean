/- The circle's laws: what the source gives, and the example. -/
import Derived.Test.YthfagiihfkjamaaSg
set_option linter.unusedSimpArgs false
namespace Go.Proofs.Ythfagiihfkjamaa
open Go.ChangeShapes Go.WideShapes Go.ChangeAt Go.RowKit Sym
theorem wr64 {z : Int} (h1 : -9223372036854775808 ≤ z) (h2 : z ≤ 9223372036854775807) : IntKind.i64.wrap z = z := by
  simp only [IntKind.wrap, IntKind.bits, IntKind.signed]
  simp
  (try split) <;> omega
def CircB (x y l r : Int) : Prop := (-1000 ≤ x ∧ x ≤ 1000) ∧ (-1000 ≤ y ∧ y ≤ 1000) ∧ 0 ≤ l ∧ l ≤ r ∧ r ≤ 5000
def EstB (x y n s : Int) : Prop := (-5000 ≤ x ∧ x ≤ 5000) ∧ (-5000 ≤ y ∧ y ≤ 5000) ∧ (0 ≤ n ∧ n ≤ 900) ∧ 0 ≤ s ∧ s ≤ 2
def circ_Z : Beg := ⟨[⟨25, false, .int .i64 (.v 0), ⟨1, 0, 0, 0, [some (0, 4611686018427387904)], [], []⟩⟩, ⟨32, false, .int .i64 (.v 0), ⟨1, 0, 0, 0, [some (-1000000000000, 1000000000000)], [], []⟩⟩, ⟨48, false, .int .i64 (.v 0), ⟨1, 0, 0, 0, [none], [], []⟩⟩], [], [.var 0], 0, 0, 1, [], [], [0]⟩
def circ_T : T SV :=
  T.call false 48 [SV.var 0, SV.row 1 0 4 4]
  [{
      cells :=
        [SV.int IntKind.i64 (E.n 0), SV.int IntKind.i64 (E.n 0),
          SV.int IntKind.i64 (E.n 0), SV.int IntKind.i64 (E.n 0)],
      wr := true },
    {
      cells :=
        [SV.int IntKind.i64 (E.n 0), SV.int IntKind.i64 (E.n 300),
          SV.int IntKind.i64 (E.n 500), SV.int IntKind.i64 (E.n 2000)],
      wr := true }]
  (SV.int IntKind.i64 (E.v 0)) { ni := 1, nb := 0, nv := 0, nj := 0, bd := [none], sl := [], sk := [] }
  (T.call false 48 [SV.var 0, SV.row 2 0 3 3]
    [{
        cells :=
          [SV.int IntKind.i64 (E.n 0), SV.int IntKind.i64 (E.n 0),
            SV.int IntKind.i64 (E.n 0), SV.int IntKind.i64 (E.n 0)],
        wr := true },
      {
        cells :=
          [SV.int IntKind.i64 (E.n 0), SV.int IntKind.i64 (E.n 300),
            SV.int IntKind.i64 (E.n 500), SV.int IntKind.i64 (E.n 2000)],
        wr := true },
      {
        cells :=
          [SV.int IntKind.i64 (E.n 0), SV.int IntKind.i64 (E.n 0),
            SV.int IntKind.i64 (E.n 200)],
        wr := true }]
    (SV.int IntKind.i64 (E.v 1)) { ni := 1, nb := 0, nv := 0, nj := 0, bd := [none], sl := [], sk := [] }
    (T.call false 48 [SV.var 0, SV.row 3 0 3 3]
      [{
          cells :=
            [SV.int IntKind.i64 (E.n 0), SV.int IntKind.i64 (E.n 0),
              SV.int IntKind.i64 (E.n 0), SV.int IntKind.i64 (E.n 0)],
          wr := true },
        {
          cells :=
            [SV.int IntKind.i64 (E.n 0), SV.int IntKind.i64 (E.n 300),
              SV.int IntKind.i64 (E.n 500), SV.int IntKind.i64 (E.n 2000)],
          wr := true },
        {
          cells :=
            [SV.int IntKind.i64 (E.n 0), SV.int IntKind.i64 (E.n 0),
              SV.int IntKind.i64 (E.n 200)],
          wr := true },
        {
          cells :=
            [SV.int IntKind.i64 (E.n 0), SV.int IntKind.i64 (E.n 0),
              SV.int IntKind.i64 (E.n (-100))],
          wr := true }]
      (SV.int IntKind.i64 (E.v 2)) { ni := 1, nb := 0, nv := 0, nj := 0, bd := [none], sl := [], sk := [] }
      (T.call false 48 [SV.var 0, SV.row 4 0 3 3]
        [{
            cells :=
              [SV.int IntKind.i64 (E.n 0), SV.int IntKind.i64 (E.n 0),
                SV.int IntKind.i64 (E.n 0), SV.int IntKind.i64 (E.n 0)],
            wr := true },
          {
            cells :=
              [SV.int IntKind.i64 (E.n 0), SV.int IntKind.i64 (E.n 300),
                SV.int IntKind.i64 (E.n 500), SV.int IntKind.i64 (E.n 2000)],
            wr := true },
          {
            cells :=
              [SV.int IntKind.i64 (E.n 0), SV.int IntKind.i64 (E.n 0),
                SV.int IntKind.i64 (E.n 200)],
            wr := true },
          {
            cells :=
              [SV.int IntKind.i64 (E.n 0), SV.int IntKind.i64 (E.n 0),
                SV.int IntKind.i64 (E.n (-100))],
            wr := true },
          {
            cells :=
              [SV.int IntKind.i64 (E.n 0), SV.int IntKind.i64 (E.n 500),
                SV.int IntKind.i64 (E.n 3000)],
            wr := true }]
        (SV.int IntKind.i64 (E.v 3)) { ni := 1, nb := 0, nv := 0, nj := 0, bd := [none], sl := [], sk := [] }
        (T.ret
          (SV.agg
            [SV.int IntKind.i64 (E.v 1), SV.int IntKind.i64 (E.v 2), SV.int IntKind.i64 (E.v 0),
              SV.int IntKind.i64 (E.wr IntKind.i64 ((E.v 0).add (E.v 3)))])))))
set_option maxRecDepth 100000 in
theorem circ_t : runS Go.Proofs.Try.prog circ_Z 36 = circ_T := by kernel_rfl
theorem circ_calls (m b : Nat) (w : World) (h : SrcM m w b) :
    Calls Try.prog 36 #[.pointer (some ⟨b, 0, none⟩)] w (GaveM m b w fun v => ∃ x y l r, CircB x y l r ∧ v = .agg #[.int .i64 x, .int .i64 y, .int .i64 l, .int .i64 r]) :=
  srcRun circ_t ⟨[], [], [.pointer (some ⟨b, 0, none⟩)]⟩ rfl rfl rfl trivial (slNil _ _) (sk1 rfl) h (by
    have hm : m ≤ w.heap.size := by have := h.lt; have := h.le; omega
    unfold circ_T
    refine pickNode [.n 0, .n 300, .n 500, .n 2000] hm rfl rfl rfl rfl (by decide) (by decide) fun z0 h0 => ?_
    refine pickNode [.n 0, .n 0, .n 200] hm rfl rfl rfl rfl (by decide) (by decide) fun z1 h1 => ?_
    refine pickNode [.n 0, .n 0, .n (-100)] hm rfl rfl rfl rfl (by decide) (by decide) fun z2 h2 => ?_
    refine pickNode [.n 0, .n 500, .n 3000] hm rfl rfl rfl rfl (by decide) (by decide) fun z3 h3 => ?_
    simp only [E.den, B.den, SV.den, SV.dens, List.getD_cons_zero, List.getD_cons_succ, List.cons_append, List.nil_append, List.append_nil, List.map_cons, List.map_nil, List.length_cons, List.length_nil, List.mem_cons, List.not_mem_nil, or_false] at h0 h1 h2 h3
    refine ⟨z1, z2, z0, z0 + z3, ⟨by omega, by omega, by omega, by omega, by omega⟩, ?_⟩
    simp only [E.den, B.den, SV.den, SV.dens, List.getD_cons_zero, List.getD_cons_succ, List.cons_append, List.nil_append, List.append_nil, List.map_cons, List.map_nil, List.length_cons, List.length_nil]
    rw [wr64 (by omega) (by omega)])
def esti_Z : Beg := ⟨[⟨25, false, .int .i64 (.v 0), ⟨1, 0, 0, 0, [some (0, 4611686018427387904)], [], []⟩⟩, ⟨32, false, .int .i64 (.v 0), ⟨1, 0, 0, 0, [some (-1000000000000, 1000000000000)], [], []⟩⟩, ⟨48, false, .int .i64 (.v 0), ⟨1, 0, 0, 0, [none], [], []⟩⟩], [], [.var 0, .int .i64 (.v 0)], 1, 0, 1, [none], [], [0]⟩
def esti_T : T SV :=
  T.call false 48 [SV.var 0, SV.row 1 0 4 4]
  [{
      cells :=
        [SV.int IntKind.i64 (E.n 0), SV.int IntKind.i64 (E.n 0),
          SV.int IntKind.i64 (E.n 0), SV.int IntKind.i64 (E.n 0),
          SV.int IntKind.i64 (E.n 0)],
      wr := true },
    {
      cells :=
        [SV.int IntKind.i64 (E.n 0), SV.int IntKind.i64 (E.n 300),
          SV.int IntKind.i64 (E.n (-700)), SV.int IntKind.i64 (E.n 5000)],
      wr := true }]
  (SV.int IntKind.i64 (E.v 1)) { ni := 1, nb := 0, nv := 0, nj := 0, bd := [none], sl := [], sk := [] }
  (T.call false 48 [SV.var 0, SV.row 2 0 3 3]
    [{
        cells :=
          [SV.int IntKind.i64 (E.n 0), SV.int IntKind.i64 (E.n 0),
            SV.int IntKind.i64 (E.n 0), SV.int IntKind.i64 (E.n 0),
            SV.int IntKind.i64 (E.n 0)],
        wr := true },
      {
        cells :=
          [SV.int IntKind.i64 (E.n 0), SV.int IntKind.i64 (E.n 300),
            SV.int IntKind.i64 (E.n (-700)), SV.int IntKind.i64 (E.n 5000)],
        wr := true },
      {
        cells :=
          [SV.int IntKind.i64 (E.n 0), SV.int IntKind.i64 (E.n 400),
            SV.int IntKind.i64 (E.n (-100))],
        wr := true }]
    (SV.int IntKind.i64 (E.v 2)) { ni := 1, nb := 0, nv := 0, nj := 0, bd := [none], sl := [], sk := [] }
    (T.call false 48 [SV.var 0, SV.row 3 0 4 4]
      [{
          cells :=
            [SV.int IntKind.i64 (E.n 0), SV.int IntKind.i64 (E.n 0),
              SV.int IntKind.i64 (E.n 0), SV.int IntKind.i64 (E.n 0),
              SV.int IntKind.i64 (E.n 0)],
          wr := true },
        {
          cells :=
            [SV.int IntKind.i64 (E.n 0), SV.int IntKind.i64 (E.n 300),
              SV.int IntKind.i64 (E.n (-700)), SV.int IntKind.i64 (E.n 5000)],
          wr := true },
        {
          cells :=
            [SV.int IntKind.i64 (E.n 0), SV.int IntKind.i64 (E.n 400),
              SV.int IntKind.i64 (E.n (-100))],
          wr := true },
        {
          cells :=
            [SV.int IntKind.i64 (E.n 0), SV.int IntKind.i64 (E.n 10),
              SV.int IntKind.i64 (E.n 100), SV.int IntKind.i64 (E.n 900)],
          wr := true }]
      (SV.int IntKind.i64 (E.v 3)) { ni := 1, nb := 0, nv := 0, nj := 0, bd := [none], sl := [], sk := [] }
      (T.call false 48 [SV.var 0, SV.row 4 0 4 4]
        [{
            cells :=
              [SV.int IntKind.i64 (E.n 0), SV.int IntKind.i64 (E.n 0),
                SV.int IntKind.i64 (E.n 0), SV.int IntKind.i64 (E.n 0),
                SV.int IntKind.i64 (E.n 0)],
            wr := true },
          {
            cells :=
              [SV.int IntKind.i64 (E.n 0), SV.int IntKind.i64 (E.n 300),
                SV.int IntKind.i64 (E.n (-700)), SV.int IntKind.i64 (E.n 5000)],
            wr := true },
          {
            cells :=
              [SV.int IntKind.i64 (E.n 0), SV.int IntKind.i64 (E.n 400),
                SV.int IntKind.i64 (E.n (-100))],
            wr := true },
          {
            cells :=
              [SV.int IntKind.i64 (E.n 0), SV.int IntKind.i64 (E.n 10),
                SV.int IntKind.i64 (E.n 100), SV.int IntKind.i64 (E.n 900)],
            wr := true },
          {
            cells :=
              [SV.int IntKind.i64 (E.n 1), SV.int IntKind.i64 (E.n 1),
                SV.int IntKind.i64 (E.n 2), SV.int IntKind.i64 (E.n 0)],
            wr := true }]
        (SV.int IntKind.i64 (E.v 4)) { ni := 1, nb := 0, nv := 0, nj := 0, bd := [none], sl := [], sk := [] }
        (T.ret
          (SV.agg
            [SV.int IntKind.i64 (E.v 1), SV.int IntKind.i64 (E.v 2), SV.int IntKind.i64 (E.v 3),
              SV.int IntKind.i64 (E.v 0), SV.int IntKind.i64 (E.v 4)])))))
set_option maxRecDepth 100000 in
theorem esti_t : runS Go.Proofs.Try.prog esti_Z 39 = esti_T := by kernel_rfl
theorem esti_calls (m b : Nat) (n : Int) (w : World) (h : SrcM m w b) :
    Calls Try.prog 39 #[.pointer (some ⟨b, 0, none⟩), .int .i64 n] w (GaveM m b w fun v => ∃ x y c s, EstB x y c s ∧ v = .agg #[.int .i64 x, .int .i64 y, .int .i64 c, .int .i64 n, .int .i64 s]) :=
  srcRun esti_t ⟨[n], [], [.pointer (some ⟨b, 0, none⟩)]⟩ rfl rfl rfl trivial (slNil _ _) (sk1 rfl) h (by
    have hm : m ≤ w.heap.size := by have := h.lt; have := h.le; omega
    unfold esti_T
    refine pickNode [.n 0, .n 300, .n (-700), .n 5000] hm rfl rfl rfl rfl (by decide) (by decide) fun z0 h0 => ?_
    refine pickNode [.n 0, .n 400, .n (-100)] hm rfl rfl rfl rfl (by decide) (by decide) fun z1 h1 => ?_
    refine pickNode [.n 0, .n 10, .n 100, .n 900] hm rfl rfl rfl rfl (by decide) (by decide) fun z2 h2 => ?_
    refine pickNode [.n 1, .n 1, .n 2, .n 0] hm rfl rfl rfl rfl (by decide) (by decide) fun z3 h3 => ?_
    simp only [E.den, B.den, SV.den, SV.dens, List.getD_cons_zero, List.getD_cons_succ, List.cons_append, List.nil_append, List.append_nil, List.map_cons, List.map_nil, List.length_cons, List.length_nil, List.mem_cons, List.not_mem_nil, or_false] at h0 h1 h2 h3
    exact ⟨z0, z1, z2, z3, ⟨by omega, by omega, by omega, by omega, by omega⟩, rfl⟩)
def sane29_Z : Beg := ⟨[], [], [], 0, 0, 0, [], [], []⟩
def sane29_T : T SV :=
  T.ret (SV.bool (B.c true))
set_option maxRecDepth 100000 in
theorem sane29_t : runS Go.Proofs.Try.prog sane29_Z 35 = sane29_T := by kernel_rfl
theorem sane29_calls (w : World) : Calls Try.prog 35 #[] w fun e w' => e = .returned (.bool true) ∧ Below w.heap.size w w' :=
  fixed sane29_t ⟨[], [], []⟩ rfl rfl rfl trivial (slNil _ _) (skNil _) w (.bool true) rfl
section
variable {w0 : World} {m b : Nat} {A : Inva} {ρ : Env} {Q : SV → Env → Sp → Prop} {hp : List Blk} {x : T SV}
theorem circNode {j k k1 k2 k3 : Nat} {bd : Bds} (hm : m ≤ w0.heap.size) (hk : k = ρ.is.length ∧ k1 = ρ.is.length + 1 ∧ k2 = ρ.is.length + 2 ∧ k3 = ρ.is.length + 3) (hj : ρ.vs.getD j undef = .pointer (some ⟨b, 0, none⟩))
    (hbd : ∀ x y l r, CircB x y l r → BdL [x, y, l, r] bd) (rest : ∀ c0 c1 c2 c3, CircB c0 c1 c2 c3 → x.holds Try.prog w0.heap.size (spSrc w0 m b) ⟨ρ.is ++ [c0, c1, c2, c3], ρ.bs ++ [], ρ.vs ++ []⟩ A Q) :
    (T.call false 36 [.var j] hp (.agg [.int .i64 (.v k), .int .i64 (.v k1), .int .i64 (.v k2), .int .i64 (.v k3)]) ⟨4, 0, 0, 0, bd, [], []⟩ x).holds Try.prog w0.heap.size (spSrc w0 m b) ρ A Q := by
  obtain ⟨rfl, rfl, rfl, rfl⟩ := hk
  refine srcNode hm (fun is => ∃ x y l r, is = [x, y, l, r] ∧ CircB x y l r) (fun is ⟨x, y, l, r, e, h⟩ => by subst e; exact ⟨rfl, hbd _ _ _ _ h⟩) (fun β w hH => ?_) (fun is ⟨x, y, l, r, e, h⟩ => by subst e; exact rest _ _ _ _ h)
  have ea : (SV.dens ρ β [.var j]).toArray = #[.pointer (some ⟨b, 0, none⟩)] := by simp only [SV.dens, SV.den, hj]
  rw [ea]
  refine (circ_calls m b w hH.inv.2).mono fun e w' ⟨v, he, ⟨x, y, l, r, hc, hv⟩, hs⟩ => ⟨v, he, ⟨[x, y, l, r], ⟨x, y, l, r, rfl, hc⟩, ?_⟩, hs⟩
  rw [hv]
  simp [SV.den, SV.dens, E.den]
theorem estiNode {j k k1 k2 k3 k4 : Nat} {n : E} {bd : Bds} (hm : m ≤ w0.heap.size) (hk : k = ρ.is.length ∧ k1 = ρ.is.length + 1 ∧ k2 = ρ.is.length + 2 ∧ k3 = ρ.is.length + 3 ∧ k4 = ρ.is.length + 4) (hj : ρ.vs.getD j undef = .pointer (some ⟨b, 0, none⟩))
    (hbd : ∀ x y c s, EstB x y c s → BdL [x, y, c, n.den ρ, s] bd) (rest : ∀ e0 e1 e2 e3, EstB e0 e1 e2 e3 → x.holds Try.prog w0.heap.size (spSrc w0 m b) ⟨ρ.is ++ [e0, e1, e2, n.den ρ, e3], ρ.bs ++ [], ρ.vs ++ []⟩ A Q) :
    (T.call false 39 [.var j, .int .i64 n] hp (.agg [.int .i64 (.v k), .int .i64 (.v k1), .int .i64 (.v k2), .int .i64 (.v k3), .int .i64 (.v k4)]) ⟨5, 0, 0, 0, bd, [], []⟩ x).holds Try.prog w0.heap.size (spSrc w0 m b) ρ A Q := by
  obtain ⟨rfl, rfl, rfl, rfl, rfl⟩ := hk
  refine srcNode hm (fun is => ∃ x y c s, is = [x, y, c, n.den ρ, s] ∧ EstB x y c s) (fun is ⟨x, y, l, r, e, h⟩ => by subst e; exact ⟨rfl, hbd _ _ _ _ h⟩) (fun β w hH => ?_) (fun is ⟨x, y, l, r, e, h⟩ => by subst e; exact rest _ _ _ _ h)
  have ea : (SV.dens ρ β [.var j, .int .i64 n]).toArray = #[.pointer (some ⟨b, 0, none⟩), .int .i64 (n.den ρ)] := by simp only [SV.dens, SV.den, hj]
  rw [ea]
  refine (esti_calls m b (n.den ρ) w hH.inv.2).mono fun e w' ⟨v, he, ⟨x, y, l, r, hc, hv⟩, hs⟩ => ⟨v, he, ⟨[x, y, l, n.den ρ, r], ⟨x, y, l, r, rfl, hc⟩, ?_⟩, hs⟩
  rw [hv]
  simp [SV.den, SV.dens, E.den]
theorem saneNode {s : Sp} {n0 k : Nat} (hs : Keeps s) (hk : k = ρ.bs.length) (rest : x.holds Try.prog n0 s ⟨ρ.is ++ [], ρ.bs ++ [true], ρ.vs ++ []⟩ A Q) :
    (T.call true 35 [] hp (.bool (.v k)) ⟨0, 1, 0, 0, [], [], []⟩ x).holds Try.prog n0 s ρ A Q :=
  fixBool hs hk true (fun w => sane29_calls w) (fun _ => rfl) rest
end
end Go.Proofs.Ythfagiihfkjamaa
