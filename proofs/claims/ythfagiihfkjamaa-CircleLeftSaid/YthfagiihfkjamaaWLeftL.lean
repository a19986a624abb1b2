/- The walk of CircleLeft. -/
import Derived.Test.YthfagiihfkjamaaWLeft
set_option linter.unusedSimpArgs false
namespace Go.Proofs.Ythfagiihfkjamaa
open Go.ChangeShapes Go.WideShapes Go.ChangeAt Go.RowKit Sym
def lefl_Z : Beg := ⟨[⟨16, false, .var 0, ⟨0, 0, 1, 0, [], [], [0]⟩⟩, ⟨35, true, .bool (.v 0), ⟨0, 1, 0, 0, [], [], []⟩⟩, ⟨44, true, .int .i64 (.v 0), ⟨1, 0, 0, 0, [some (1, 3)], [], []⟩⟩, ⟨49, false, .int .i64 (.v 0), ⟨1, 0, 0, 0, [some (-1, 400)], [], []⟩⟩, ⟨36, false, .agg [.int .i64 (.v 0), .int .i64 (.v 1), .int .i64 (.v 2), .int .i64 (.v 3)], ⟨4, 0, 0, 0, [some (-1000, 1000), some (-1000, 1000), some (0, 5000), some (0, 5000)], [], []⟩⟩, ⟨51, false, .agg [.int .i64 (.v 0), .int .i64 (.v 1), .int .i64 (.v 2), .int .i64 (.v 3), .int .i64 (.v 4)], ⟨5, 0, 0, 0, [some (-5000, 5000), some (-5000, 5000), some (0, 900), none, some (1, 2)], [], []⟩⟩], [], [.var 0, .int .u16 (.v 1)], 2, 0, 1, [some (0, 9223372036854775807), some (0, 65535)], [(0, .v 0)], [0]⟩
def lefl_T : T SV :=
  T.ite (B.lt (E.n 600) (E.v 0))
  (T.call true 35 [] [] (SV.bool (B.v 0)) { ni := 0, nb := 1, nv := 0, nj := 0, bd := [], sl := [], sk := [] }
    (T.ret (SV.bool (B.v 0))))
  (T.call false 16 [SV.var 0] [] (SV.var 1) { ni := 0, nb := 0, nv := 1, nj := 0, bd := [], sl := [], sk := [0] }
    (T.call false 36 [SV.var 1] []
      (SV.agg
        [SV.int IntKind.i64 (E.v 2), SV.int IntKind.i64 (E.v 3), SV.int IntKind.i64 (E.v 4),
          SV.int IntKind.i64 (E.v 5)])
      { ni := 4, nb := 0, nv := 0, nj := 0,
        bd :=
          [some ((-1000), 1000), some ((-1000), 1000),
            some (0, 5000), some (0, 5000)],
        sl := [], sk := [] }
      (T.call false 51 [SV.var 1] []
        (SV.agg
          [SV.int IntKind.i64 (E.v 6), SV.int IntKind.i64 (E.v 7), SV.int IntKind.i64 (E.v 8),
            SV.int IntKind.i64 (E.v 9), SV.int IntKind.i64 (E.v 10)])
        { ni := 5, nb := 0, nv := 0, nj := 0,
          bd :=
            [some ((-5000), 5000), some ((-5000), 5000),
              some (0, 900), none, some (1, 2)],
          sl := [], sk := [] }
        (T.call false 49
          [SV.agg
              [SV.int IntKind.i64 (E.v 2), SV.int IntKind.i64 (E.v 3), SV.int IntKind.i64 (E.v 4),
                SV.int IntKind.i64 (E.v 5)],
            SV.agg
              [SV.int IntKind.i64 (E.v 6), SV.int IntKind.i64 (E.v 7), SV.int IntKind.i64 (E.v 8),
                SV.int IntKind.i64 (E.v 9), SV.int IntKind.i64 (E.v 10)],
            SV.int IntKind.i64 ((E.v 1).rem (E.n 1001))]
          [{
              cells :=
                [SV.int IntKind.i64 (E.v 2), SV.int IntKind.i64 (E.v 3), SV.int IntKind.i64 (E.v 4),
                  SV.int IntKind.i64 (E.v 5)],
              wr := true },
            {
              cells :=
                [SV.int IntKind.i64 (E.v 6), SV.int IntKind.i64 (E.v 7), SV.int IntKind.i64 (E.v 8),
                  SV.int IntKind.i64 (E.v 9), SV.int IntKind.i64 (E.v 10)],
              wr := true }]
          (SV.int IntKind.i64 (E.v 11))
          { ni := 1, nb := 0, nv := 0, nj := 0, bd := [some ((-1), 400)], sl := [], sk := [] }
          (T.ite (B.lt (E.v 11) (E.n 0))
            (T.call true 44
              [SV.agg
                  [SV.int IntKind.i64 (E.v 2), SV.int IntKind.i64 (E.v 3), SV.int IntKind.i64 (E.v 4),
                    SV.int IntKind.i64 (E.v 5)],
                SV.agg
                  [SV.int IntKind.i64 (E.v 6), SV.int IntKind.i64 (E.v 7), SV.int IntKind.i64 (E.v 8),
                    SV.int IntKind.i64 (E.v 9), SV.int IntKind.i64 (E.v 10)]]
              [{
                  cells :=
                    [SV.int IntKind.i64 (E.v 2), SV.int IntKind.i64 (E.v 3), SV.int IntKind.i64 (E.v 4),
                      SV.int IntKind.i64 (E.v 5)],
                  wr := true },
                {
                  cells :=
                    [SV.int IntKind.i64 (E.v 6), SV.int IntKind.i64 (E.v 7), SV.int IntKind.i64 (E.v 8),
                      SV.int IntKind.i64 (E.v 9), SV.int IntKind.i64 (E.v 10)],
                  wr := true }]
              (SV.int IntKind.i64 (E.v 12))
              { ni := 1, nb := 0, nv := 0, nj := 0, bd := [some (1, 3)], sl := [], sk := [] }
              (T.ite (B.eq (E.v 12) (E.n 3))
                (T.call true 35 []
                  [{
                      cells :=
                        [SV.int IntKind.i64 (E.v 2), SV.int IntKind.i64 (E.v 3), SV.int IntKind.i64 (E.v 4),
                          SV.int IntKind.i64 (E.v 5)],
                      wr := true },
                    {
                      cells :=
                        [SV.int IntKind.i64 (E.v 6), SV.int IntKind.i64 (E.v 7), SV.int IntKind.i64 (E.v 8),
                          SV.int IntKind.i64 (E.v 9), SV.int IntKind.i64 (E.v 10)],
                      wr := true }]
                  (SV.bool (B.v 0)) { ni := 0, nb := 1, nv := 0, nj := 0, bd := [], sl := [], sk := [] }
                  (T.ret (SV.bool (B.v 0))))
                (T.ret (SV.bool (B.c false)))))
            (T.call true 44
              [SV.agg
                  [SV.int IntKind.i64 (E.v 2), SV.int IntKind.i64 (E.v 3), SV.int IntKind.i64 (E.v 4),
                    SV.int IntKind.i64 (E.v 5)],
                SV.agg
                  [SV.int IntKind.i64 (E.v 6), SV.int IntKind.i64 (E.v 7),
                    SV.int IntKind.i64 ((E.v 8).add ((E.v 11).mul ((E.v 1).rem (E.n 1001)))),
                    SV.int IntKind.i64 (E.v 9), SV.int IntKind.i64 (E.v 10)]]
              [{
                  cells :=
                    [SV.int IntKind.i64 (E.v 2), SV.int IntKind.i64 (E.v 3), SV.int IntKind.i64 (E.v 4),
                      SV.int IntKind.i64 (E.v 5)],
                  wr := true },
                {
                  cells :=
                    [SV.int IntKind.i64 (E.v 6), SV.int IntKind.i64 (E.v 7), SV.int IntKind.i64 (E.v 8),
                      SV.int IntKind.i64 (E.v 9), SV.int IntKind.i64 (E.v 10)],
                  wr := true },
                {
                  cells :=
                    [SV.int IntKind.i64 (E.v 6), SV.int IntKind.i64 (E.v 7),
                      SV.int IntKind.i64 ((E.v 8).add ((E.v 11).mul ((E.v 1).rem (E.n 1001)))),
                      SV.int IntKind.i64 (E.v 9), SV.int IntKind.i64 (E.v 10)],
                  wr := true }]
              (SV.int IntKind.i64 (E.v 12))
              { ni := 1, nb := 0, nv := 0, nj := 0, bd := [some (1, 3)], sl := [], sk := [] }
              (T.ite (B.eq (E.v 12) (E.n 3)) (T.ret (SV.bool (B.c false)))
                (T.ite (B.eq (E.v 11) (E.n 400))
                  (T.ite (B.lt (E.n 0) ((E.v 1).rem (E.n 1001)))
                    (T.call true 35 []
                      [{
                          cells :=
                            [SV.int IntKind.i64 (E.v 2), SV.int IntKind.i64 (E.v 3), SV.int IntKind.i64 (E.v 4),
                              SV.int IntKind.i64 (E.v 5)],
                          wr := true },
                        {
                          cells :=
                            [SV.int IntKind.i64 (E.v 6), SV.int IntKind.i64 (E.v 7), SV.int IntKind.i64 (E.v 8),
                              SV.int IntKind.i64 (E.v 9), SV.int IntKind.i64 (E.v 10)],
                          wr := true },
                        {
                          cells :=
                            [SV.int IntKind.i64 (E.v 6), SV.int IntKind.i64 (E.v 7),
                              SV.int IntKind.i64
                                (((E.v 8).add ((E.v 11).mul ((E.v 1).rem (E.n 1001)))).add
                                  ((E.v 1).rem (E.n 1001))),
                              SV.int IntKind.i64 (E.v 9), SV.int IntKind.i64 (E.v 10)],
                          wr := true }]
                      (SV.bool (B.v 0)) { ni := 0, nb := 1, nv := 0, nj := 0, bd := [], sl := [], sk := [] }
                      (T.ret (SV.bool (B.v 0))))
                    (T.call true 35 []
                      [{
                          cells :=
                            [SV.int IntKind.i64 (E.v 2), SV.int IntKind.i64 (E.v 3), SV.int IntKind.i64 (E.v 4),
                              SV.int IntKind.i64 (E.v 5)],
                          wr := true },
                        {
                          cells :=
                            [SV.int IntKind.i64 (E.v 6), SV.int IntKind.i64 (E.v 7), SV.int IntKind.i64 (E.v 8),
                              SV.int IntKind.i64 (E.v 9), SV.int IntKind.i64 (E.v 10)],
                          wr := true },
                        {
                          cells :=
                            [SV.int IntKind.i64 (E.v 6), SV.int IntKind.i64 (E.v 7),
                              SV.int IntKind.i64
                                (((E.v 8).add ((E.v 11).mul ((E.v 1).rem (E.n 1001)))).add
                                  ((E.v 1).rem (E.n 1001))),
                              SV.int IntKind.i64 (E.v 9), SV.int IntKind.i64 (E.v 10)],
                          wr := true }]
                      (SV.bool (B.v 0)) { ni := 0, nb := 1, nv := 0, nj := 0, bd := [], sl := [], sk := [] }
                      (T.ret (SV.bool (B.v 0)))))
                  (T.call true 44
                    [SV.agg
                        [SV.int IntKind.i64 (E.v 2), SV.int IntKind.i64 (E.v 3), SV.int IntKind.i64 (E.v 4),
                          SV.int IntKind.i64 (E.v 5)],
                      SV.agg
                        [SV.int IntKind.i64 (E.v 6), SV.int IntKind.i64 (E.v 7),
                          SV.int IntKind.i64
                            (((E.v 8).add ((E.v 11).mul ((E.v 1).rem (E.n 1001)))).add
                              ((E.v 1).rem (E.n 1001))),
                          SV.int IntKind.i64 (E.v 9), SV.int IntKind.i64 (E.v 10)]]
                    [{
                        cells :=
                          [SV.int IntKind.i64 (E.v 2), SV.int IntKind.i64 (E.v 3), SV.int IntKind.i64 (E.v 4),
                            SV.int IntKind.i64 (E.v 5)],
                        wr := true },
                      {
                        cells :=
                          [SV.int IntKind.i64 (E.v 6), SV.int IntKind.i64 (E.v 7), SV.int IntKind.i64 (E.v 8),
                            SV.int IntKind.i64 (E.v 9), SV.int IntKind.i64 (E.v 10)],
                        wr := true },
                      {
                        cells :=
                          [SV.int IntKind.i64 (E.v 6), SV.int IntKind.i64 (E.v 7),
                            SV.int IntKind.i64
                              (((E.v 8).add ((E.v 11).mul ((E.v 1).rem (E.n 1001)))).add
                                ((E.v 1).rem (E.n 1001))),
                            SV.int IntKind.i64 (E.v 9), SV.int IntKind.i64 (E.v 10)],
                        wr := true }]
                    (SV.int IntKind.i64 (E.v 13))
                    { ni := 1, nb := 0, nv := 0, nj := 0, bd := [some (1, 3)], sl := [], sk := [] }
                    (T.ite (B.eq (E.v 13) (E.n 3))
                      (T.ite (B.lt (E.n 0) ((E.v 1).rem (E.n 1001)))
                        (T.call true 35 []
                          [{
                              cells :=
                                [SV.int IntKind.i64 (E.v 2), SV.int IntKind.i64 (E.v 3), SV.int IntKind.i64 (E.v 4),
                                  SV.int IntKind.i64 (E.v 5)],
                              wr := true },
                            {
                              cells :=
                                [SV.int IntKind.i64 (E.v 6), SV.int IntKind.i64 (E.v 7), SV.int IntKind.i64 (E.v 8),
                                  SV.int IntKind.i64 (E.v 9), SV.int IntKind.i64 (E.v 10)],
                              wr := true },
                            {
                              cells :=
                                [SV.int IntKind.i64 (E.v 6), SV.int IntKind.i64 (E.v 7),
                                  SV.int IntKind.i64
                                    (((E.v 8).add ((E.v 11).mul ((E.v 1).rem (E.n 1001)))).add
                                      ((E.v 1).rem (E.n 1001))),
                                  SV.int IntKind.i64 (E.v 9), SV.int IntKind.i64 (E.v 10)],
                              wr := true }]
                          (SV.bool (B.v 0)) { ni := 0, nb := 1, nv := 0, nj := 0, bd := [], sl := [], sk := [] }
                          (T.ret (SV.bool (B.v 0))))
                        (T.ret (SV.bool (B.c false))))
                      (T.ret (SV.bool (B.c false)))))))))))))
set_option maxRecDepth 100000 in
theorem lefl_t : runS Go.Proofs.Try.prog lefl_Z 12 = lefl_T := by kernel_rfl
section
variable {A : Inva} {ρ : Env} {Q : SV → Env → Sp → Prop} {hp : List Blk} {x : T SV}
/-- a call that gives a number of which R is so -/
theorem anyInt {s : Sp} {n0 k : Nat} {f : FuncId} {args : List SV} {va : List Value} {bd : Bds} (F : Inv n0 s) (hs : Keeps s) (hk : k = ρ.is.length) (R : Int → Prop) (hbd : ∀ z, R z → BdL [z] bd) (ha : ∀ β, SV.dens ρ β args = va)
    (hcall : ∀ w, Calls Try.prog f va.toArray w fun e w' => ∃ z, e = .returned (.int .i64 z) ∧ R z ∧ Below w.heap.size w w')
    (rest : ∀ z, R z → x.holds Try.prog n0 s ⟨ρ.is ++ [z], ρ.bs ++ [], ρ.vs ++ []⟩ A Q) :
    (T.call false f args hp (.int .i64 (.v k)) ⟨1, 0, 0, 0, bd, [], []⟩ x).holds Try.prog n0 s ρ A Q := by
  refine ⟨fun is _ _ s' => s' = s ∧ ∃ z, is = [z] ∧ R z, fun β w hH => ?_, fun is bs vs s' hn _ _ hq => ?_⟩
  · rw [ha]
    refine (hcall w).mono fun e w' ⟨z, he, hz, hb⟩ => ?_
    refine ⟨[z], [], [], s, ⟨rfl, rfl, rfl, BdL.ok (hbd z hz), slNil _ _, skNil _⟩, ⟨rfl, z, rfl, hz⟩, F, Sp.le_refl _, ?_, hs _ _ hH.inv hb, fun b' hb' => (hH.lo b' hb').2.2, hb.size, fun b' hb' => hb.block b' (hH.lo b' hb').2.1⟩
    rw [he, hk]; simp [SV.den, E.den, Env.ext]
  · obtain ⟨rfl, z, rfl, hz⟩ := hq
    have e1 : bs = [] := List.length_eq_zero_iff.1 hn.nb
    have e2 : vs = [] := List.length_eq_zero_iff.1 hn.nv
    subst e1 e2
    exact rest z hz
end
theorem CircleLeft_walk (w : World) (v : Value) (zs : List Int) (h : IntsIn w w.heap.size v .i64 zs) (hz : ∀ z ∈ zs, (Lit.int .i64 z).wf = true) (n : Int) (hn : (Lit.int .u16 n).wf = true) :
    Calls Try.prog 12 #[v, .int .u16 n] w fun e w' => e = .returned (.bool true) ∧ Below w.heap.size w w' := by
  have hn' : 0 ≤ n ∧ n ≤ 65535 := by
    simp [Lit.wf, IntKind.min, IntKind.max, IntKind.bits, IntKind.signed] at hn
    omega
  refine fixed lefl_t ⟨[(zs.length : Int), n], [], [v]⟩ rfl rfl rfl ⟨len_bd h, hn', trivial⟩ (sl1 h) (skL h) w (.bool true) ?_
  unfold lefl_T
  refine ⟨fun _ => saneNode keeps_below rfl rfl, fun _ => ?_⟩
  refine newNode rfl rfl h hz fun blk => ?_
  simp only [List.cons_append, List.nil_append, List.append_nil]
  refine circNode (Nat.le_refl _) ⟨rfl, rfl, rfl, rfl⟩ rfl (fun x y l r k => ⟨k.1, k.2.1, by have := k.2.2; omega, by have := k.2.2; omega, trivial⟩) fun x y l r hc => ?_
  refine knownNode (Nat.le_refl _) ⟨rfl, rfl, rfl, rfl, rfl⟩ rfl (fun x y l r k => ⟨k.1, k.2.1, k.2.2.1, k.2.2.2, trivial⟩) fun p q c s he => ?_
  simp only [List.cons_append, List.nil_append, List.append_nil]
  obtain ⟨cx, cy, cl, clr, cr⟩ := hc
  obtain ⟨ex, ey, ec, es⟩ := he
  have u1 : 0 ≤ n.tmod 1001 := Int.tmod_nonneg _ hn'.1
  have u2 : n.tmod 1001 < 1001 := Int.tmod_lt_of_pos _ (by omega)
  generalize hu : n.tmod 1001 = u at *
  have N : Near x y l r p q c s u := ⟨cx, cy, by omega, by omega, ex, ey, ec, es, by omega⟩
  refine anyInt (va := [circV x y l r, estV p q c 0 s, .int .i64 u]) (inv_src (Nat.le_refl _)) keeps_src rfl (LeftR x y l r p q c s u) (fun z hz => ⟨by rcases hz with ⟨rfl, _⟩ | ⟨h1, h2, _⟩ <;> omega, trivial⟩) (fun _ => by simp only [E.den, B.den, SV.den, SV.dens, List.getD_cons_zero, List.getD_cons_succ, List.cons_append, List.nil_append, List.append_nil, List.map_cons, List.map_nil, List.length_cons, List.length_nil, hu]) (fun w => left_calls N w) fun k hk => ?_
  simp only [List.cons_append, List.nil_append, List.append_nil]
  have e0 := (N.small (k := 0) (by omega) (by omega)).2
  rw [Int.zero_mul, Int.add_zero] at e0
  refine ⟨fun c1 => ?_, fun c1 => ?_⟩
  · simp only [E.den, B.den, SV.den, SV.dens, List.getD_cons_zero, List.getD_cons_succ, List.cons_append, List.nil_append, List.append_nil, List.map_cons, List.map_nil, List.length_cons, List.length_nil, decide_eq_true_eq] at c1
    have w3 : worstV x y l r p q c s = 3 := by
      rcases hk with ⟨_, h1⟩ | ⟨h1, _⟩
      · exact h1
      · omega
    refine worstNode keeps_src rfl e0 (fun _ => by simp only [E.den, B.den, SV.den, SV.dens, List.getD_cons_zero, List.getD_cons_succ, List.cons_append, List.nil_append, List.append_nil, List.map_cons, List.map_nil, List.length_cons, List.length_nil]; rfl) ?_
    simp only [List.cons_append, List.nil_append, List.append_nil]
    refine ⟨fun _ => saneNode keeps_src rfl rfl, fun c2 => ?_⟩
    simp only [E.den, B.den, SV.den, SV.dens, List.getD_cons_zero, List.getD_cons_succ, List.cons_append, List.nil_append, List.append_nil, List.map_cons, List.map_nil, List.length_cons, List.length_nil, decide_eq_false_iff_not] at c2
    exact absurd w3 c2
  · simp only [E.den, B.den, SV.den, SV.dens, List.getD_cons_zero, List.getD_cons_succ, List.cons_append, List.nil_append, List.append_nil, List.map_cons, List.map_nil, List.length_cons, List.length_nil, decide_eq_false_iff_not] at c1
    obtain ⟨h1, h2, h3, h4⟩ : 0 ≤ k ∧ k ≤ 400 ∧ worstV x y l r p q (c + k * u) s ≠ 3 ∧ (k = 400 ∨ worstV x y l r p q (c + (k + 1) * u) s = 3) := by
      rcases hk with ⟨h1, _⟩ | h1
      · omega
      · exact h1
    obtain ⟨⟨b1, b2⟩, e1⟩ := N.small (k := k) (by omega) (by omega)
    obtain ⟨⟨b3, b4⟩, e2⟩ := N.small (k := k + 1) (by omega) (by omega)
    have ek : c + (k + 1) * u = c + k * u + u := by rw [Int.add_mul, Int.one_mul]; omega
    rw [ek] at h4 e2
    refine worstNode (c0 := x) (c1 := y) (c2 := l) (c3 := r) (e0 := p) (e1 := q) (e2 := c + k * u) (e3 := 0) (e4 := s) keeps_src rfl e1 (fun _ => by simp only [E.den, B.den, SV.den, SV.dens, List.getD_cons_zero, List.getD_cons_succ, List.cons_append, List.nil_append, List.append_nil, List.map_cons, List.map_nil, List.length_cons, List.length_nil, hu]) ?_
    simp only [List.cons_append, List.nil_append, List.append_nil]
    refine ⟨fun c2 => ?_, fun _ => ⟨fun _ => ⟨fun _ => saneNode keeps_src rfl rfl, fun _ => saneNode keeps_src rfl rfl⟩, fun c3 => ?_⟩⟩
    · simp only [E.den, B.den, SV.den, SV.dens, List.getD_cons_zero, List.getD_cons_succ, List.cons_append, List.nil_append, List.append_nil, List.map_cons, List.map_nil, List.length_cons, List.length_nil, decide_eq_true_eq] at c2
      exact absurd c2 h3
    simp only [E.den, B.den, SV.den, SV.dens, List.getD_cons_zero, List.getD_cons_succ, List.cons_append, List.nil_append, List.append_nil, List.map_cons, List.map_nil, List.length_cons, List.length_nil, decide_eq_false_iff_not] at c3
    have h5 : worstV x y l r p q (c + k * u + u) s = 3 := h4.resolve_left c3
    refine worstNode (c0 := x) (c1 := y) (c2 := l) (c3 := r) (e0 := p) (e1 := q) (e2 := c + k * u + u) (e3 := 0) (e4 := s) keeps_src rfl e2 (fun _ => by simp only [E.den, B.den, SV.den, SV.dens, List.getD_cons_zero, List.getD_cons_succ, List.cons_append, List.nil_append, List.append_nil, List.map_cons, List.map_nil, List.length_cons, List.length_nil, hu]) ?_
    simp only [List.cons_append, List.nil_append, List.append_nil]
    refine ⟨fun _ => ⟨fun _ => saneNode keeps_src rfl rfl, fun c5 => ?_⟩, fun c4 => ?_⟩
    · simp only [E.den, B.den, SV.den, SV.dens, List.getD_cons_zero, List.getD_cons_succ, List.cons_append, List.nil_append, List.append_nil, List.map_cons, List.map_nil, List.length_cons, List.length_nil, decide_eq_false_iff_not, hu] at c5
      have u0 : u = 0 := by omega
      rw [u0, Int.add_zero, ← u0] at h5
      exact absurd h5 h3
    · simp only [E.den, B.den, SV.den, SV.dens, List.getD_cons_zero, List.getD_cons_succ, List.cons_append, List.nil_append, List.append_nil, List.map_cons, List.map_nil, List.length_cons, List.length_nil, decide_eq_false_iff_not] at c4
      exact absurd h5 c4
end Go.Proofs.Ythfagiihfkjamaa
