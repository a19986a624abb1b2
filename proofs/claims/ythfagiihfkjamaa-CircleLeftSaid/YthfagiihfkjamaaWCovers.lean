/- The walk of CircleCovers. -/
import Derived.Test.YthfagiihfkjamaaWGrows
set_option linter.unusedSimpArgs false
namespace Go.Proofs.Ythfagiihfkjamaa
open Go.ChangeShapes Go.WideShapes Go.ChangeAt Go.RowKit Sym
theorem here {x y l r p q s : Int} (h : l ≤ r) (k : s ≠ 0) : bestV x y l r p q 0 s = worstV x y l r p q 0 s := by
  unfold bestV worstV
  rw [close_ok h k, far_ok h k]
  have e1 : max 0 (max (p - x) (x - p) - 0) = max (p - x) (x - p) + 0 := by omega
  have e2 : max 0 (max (q - y) (y - q) - 0) = max (q - y) (y - q) + 0 := by omega
  rw [e1, e2]
theorem covers_worst {x y l r p q n s d d' : Int} (h : l ≤ r) (k : s ≠ 0) (h1 : -n ≤ d ∧ d ≤ n) (h2 : -n ≤ d' ∧ d' ≤ n) : worstV x y l r (p + d) (q + d') 0 s ≤ worstV x y l r p q n s := by
  unfold worstV
  rw [far_ok h k, far_ok h k]
  have a := sq_mono (a := max (p + d - x) (x - (p + d)) + 0) (b := max (p - x) (x - p) + n) (by omega) (by omega)
  have b := sq_mono (a := max (q + d' - y) (y - (q + d')) + 0) (b := max (q - y) (y - q) + n) (by omega) (by omega)
  have c := sq_pos (max (p + d - x) (x - (p + d)) + 0)
  have e := sq_pos (max (q + d' - y) (y - (q + d')) + 0)
  exact zone_mono (by omega) (by omega)
theorem covers_best {x y l r p q n s d d' : Int} (h : l ≤ r) (k : s ≠ 0) (h1 : -n ≤ d ∧ d ≤ n) (h2 : -n ≤ d' ∧ d' ≤ n) : bestV x y l r p q n s ≤ worstV x y l r (p + d) (q + d') 0 s := by
  unfold bestV worstV
  rw [far_ok h k, close_ok h k]
  have a := sq_mono (a := max 0 (max (p - x) (x - p) - n)) (b := max (p + d - x) (x - (p + d)) + 0) (by omega) (by omega)
  have b := sq_mono (a := max 0 (max (q - y) (y - q) - n)) (b := max (q + d' - y) (y - (q + d')) + 0) (by omega) (by omega)
  have c := sq_pos (max 0 (max (p - x) (x - p) - n))
  have e := sq_pos (max 0 (max (q - y) (y - q) - n))
  exact zone_mono (by omega) (by omega)
def cov_Z : Beg := ⟨[⟨16, false, .var 0, ⟨0, 0, 1, 0, [], [], [0]⟩⟩, ⟨35, true, .bool (.v 0), ⟨0, 1, 0, 0, [], [], []⟩⟩, ⟨44, true, .int .i64 (.v 0), ⟨1, 0, 0, 0, [some (1, 3)], [], []⟩⟩, ⟨46, true, .int .i64 (.v 0), ⟨1, 0, 0, 0, [some (1, 3)], [], []⟩⟩, ⟨36, false, .agg [.int .i64 (.v 0), .int .i64 (.v 1), .int .i64 (.v 2), .int .i64 (.v 3)], ⟨4, 0, 0, 0, [some (-1000, 1000), some (-1000, 1000), some (0, 5000), some (0, 5000)], [], []⟩⟩, ⟨51, false, .agg [.int .i64 (.v 0), .int .i64 (.v 1), .int .i64 (.v 2), .int .i64 (.v 3), .int .i64 (.v 4)], ⟨5, 0, 0, 0, [some (-5000, 5000), some (-5000, 5000), some (0, 900), none, some (1, 2)], [], []⟩⟩, ⟨52, true, .int .i64 (.v 0), ⟨1, 0, 0, 0, [some (0, 4611686018427387904)], [], []⟩⟩], [], [.var 0, .int .i64 (.v 1), .int .i64 (.v 2)], 3, 0, 1, [some (0, 9223372036854775807), some (-9223372036854775808, 9223372036854775807), some (-9223372036854775808, 9223372036854775807)], [(0, .v 0)], [0]⟩
def cov_T : T SV :=
  T.ite (B.lt (E.n 600) (E.v 0))
  (T.call true 35 [] [] (SV.bool (B.v 0)) { ni := 0, nb := 1, nv := 0, nj := 0, bd := [], sl := [], sk := [] }
    (T.ret (SV.bool (B.v 0))))
  (T.call false 16 [SV.var 0] [] (SV.var 1) { ni := 0, nb := 0, nv := 1, nj := 0, bd := [], sl := [], sk := [0] }
    (T.call false 36 [SV.var 1] []
      (SV.agg
        [SV.int IntKind.i64 (E.v 3), SV.int IntKind.i64 (E.v 4), SV.int IntKind.i64 (E.v 5),
          SV.int IntKind.i64 (E.v 6)])
      { ni := 4, nb := 0, nv := 0, nj := 0,
        bd :=
          [some ((-1000), 1000), some ((-1000), 1000),
            some (0, 5000), some (0, 5000)],
        sl := [], sk := [] }
      (T.call false 51 [SV.var 1] []
        (SV.agg
          [SV.int IntKind.i64 (E.v 7), SV.int IntKind.i64 (E.v 8), SV.int IntKind.i64 (E.v 9),
            SV.int IntKind.i64 (E.v 10), SV.int IntKind.i64 (E.v 11)])
        { ni := 5, nb := 0, nv := 0, nj := 0,
          bd :=
            [some ((-5000), 5000), some ((-5000), 5000),
              some (0, 900), none, some (1, 2)],
          sl := [], sk := [] }
        (T.call true 52
          [SV.int IntKind.i64 (E.v 1), SV.int IntKind.i64 (((E.n 2).mul (E.v 9)).add (E.n 1))]
          [{
              cells :=
                [SV.int IntKind.i64 (E.v 3), SV.int IntKind.i64 (E.v 4), SV.int IntKind.i64 (E.v 5),
                  SV.int IntKind.i64 (E.v 6)],
              wr := true },
            {
              cells :=
                [SV.int IntKind.i64 (E.v 7), SV.int IntKind.i64 (E.v 8), SV.int IntKind.i64 (E.v 9),
                  SV.int IntKind.i64 (E.v 10), SV.int IntKind.i64 (E.v 11)],
              wr := true },
            {
              cells :=
                [SV.int IntKind.i64 (E.v 7), SV.int IntKind.i64 (E.v 8), SV.int IntKind.i64 (E.n 0),
                  SV.int IntKind.i64 (E.v 10), SV.int IntKind.i64 (E.v 11)],
              wr := true }]
          (SV.int IntKind.i64 (E.v 12))
          { ni := 1, nb := 0, nv := 0, nj := 0, bd := [some (0, 4611686018427387904)], sl := [],
            sk := [] }
          (T.call true 52
            [SV.int IntKind.i64 (E.v 2), SV.int IntKind.i64 (((E.n 2).mul (E.v 9)).add (E.n 1))]
            [{
                cells :=
                  [SV.int IntKind.i64 (E.v 3), SV.int IntKind.i64 (E.v 4), SV.int IntKind.i64 (E.v 5),
                    SV.int IntKind.i64 (E.v 6)],
                wr := true },
              {
                cells :=
                  [SV.int IntKind.i64 (E.v 7), SV.int IntKind.i64 (E.v 8), SV.int IntKind.i64 (E.v 9),
                    SV.int IntKind.i64 (E.v 10), SV.int IntKind.i64 (E.v 11)],
                wr := true },
              {
                cells :=
                  [SV.int IntKind.i64 ((E.v 7).add ((E.v 12).sub (E.v 9))), SV.int IntKind.i64 (E.v 8),
                    SV.int IntKind.i64 (E.n 0), SV.int IntKind.i64 (E.v 10), SV.int IntKind.i64 (E.v 11)],
                wr := true }]
            (SV.int IntKind.i64 (E.v 13))
            { ni := 1, nb := 0, nv := 0, nj := 0, bd := [some (0, 4611686018427387904)], sl := [],
              sk := [] }
            (T.call true 44
              [SV.agg
                  [SV.int IntKind.i64 (E.v 3), SV.int IntKind.i64 (E.v 4), SV.int IntKind.i64 (E.v 5),
                    SV.int IntKind.i64 (E.v 6)],
                SV.agg
                  [SV.int IntKind.i64 ((E.v 7).add ((E.v 12).sub (E.v 9))),
                    SV.int IntKind.i64 ((E.v 8).add ((E.v 13).sub (E.v 9))), SV.int IntKind.i64 (E.n 0),
                    SV.int IntKind.i64 (E.v 10), SV.int IntKind.i64 (E.v 11)]]
              [{
                  cells :=
                    [SV.int IntKind.i64 (E.v 3), SV.int IntKind.i64 (E.v 4), SV.int IntKind.i64 (E.v 5),
                      SV.int IntKind.i64 (E.v 6)],
                  wr := true },
                {
                  cells :=
                    [SV.int IntKind.i64 (E.v 7), SV.int IntKind.i64 (E.v 8), SV.int IntKind.i64 (E.v 9),
                      SV.int IntKind.i64 (E.v 10), SV.int IntKind.i64 (E.v 11)],
                  wr := true },
                {
                  cells :=
                    [SV.int IntKind.i64 ((E.v 7).add ((E.v 12).sub (E.v 9))),
                      SV.int IntKind.i64 ((E.v 8).add ((E.v 13).sub (E.v 9))), SV.int IntKind.i64 (E.n 0),
                      SV.int IntKind.i64 (E.v 10), SV.int IntKind.i64 (E.v 11)],
                  wr := true }]
              (SV.int IntKind.i64 (E.v 14))
              { ni := 1, nb := 0, nv := 0, nj := 0, bd := [some (1, 3)], sl := [], sk := [] }
              (T.call true 46
                [SV.agg
                    [SV.int IntKind.i64 (E.v 3), SV.int IntKind.i64 (E.v 4), SV.int IntKind.i64 (E.v 5),
                      SV.int IntKind.i64 (E.v 6)],
                  SV.agg
                    [SV.int IntKind.i64 ((E.v 7).add ((E.v 12).sub (E.v 9))),
                      SV.int IntKind.i64 ((E.v 8).add ((E.v 13).sub (E.v 9))), SV.int IntKind.i64 (E.n 0),
                      SV.int IntKind.i64 (E.v 10), SV.int IntKind.i64 (E.v 11)]]
                [{
                    cells :=
                      [SV.int IntKind.i64 (E.v 3), SV.int IntKind.i64 (E.v 4), SV.int IntKind.i64 (E.v 5),
                        SV.int IntKind.i64 (E.v 6)],
                    wr := true },
                  {
                    cells :=
                      [SV.int IntKind.i64 (E.v 7), SV.int IntKind.i64 (E.v 8), SV.int IntKind.i64 (E.v 9),
                        SV.int IntKind.i64 (E.v 10), SV.int IntKind.i64 (E.v 11)],
                    wr := true },
                  {
                    cells :=
                      [SV.int IntKind.i64 ((E.v 7).add ((E.v 12).sub (E.v 9))),
                        SV.int IntKind.i64 ((E.v 8).add ((E.v 13).sub (E.v 9))), SV.int IntKind.i64 (E.n 0),
                        SV.int IntKind.i64 (E.v 10), SV.int IntKind.i64 (E.v 11)],
                    wr := true }]
                (SV.int IntKind.i64 (E.v 15))
                { ni := 1, nb := 0, nv := 0, nj := 0, bd := [some (1, 3)], sl := [], sk := [] }
                (T.ite (B.eq (E.v 14) (E.v 15))
                  (T.call true 46
                    [SV.agg
                        [SV.int IntKind.i64 (E.v 3), SV.int IntKind.i64 (E.v 4), SV.int IntKind.i64 (E.v 5),
                          SV.int IntKind.i64 (E.v 6)],
                      SV.agg
                        [SV.int IntKind.i64 (E.v 7), SV.int IntKind.i64 (E.v 8), SV.int IntKind.i64 (E.v 9),
                          SV.int IntKind.i64 (E.v 10), SV.int IntKind.i64 (E.v 11)]]
                    [{
                        cells :=
                          [SV.int IntKind.i64 (E.v 3), SV.int IntKind.i64 (E.v 4), SV.int IntKind.i64 (E.v 5),
                            SV.int IntKind.i64 (E.v 6)],
                        wr := true },
                      {
                        cells :=
                          [SV.int IntKind.i64 (E.v 7), SV.int IntKind.i64 (E.v 8), SV.int IntKind.i64 (E.v 9),
                            SV.int IntKind.i64 (E.v 10), SV.int IntKind.i64 (E.v 11)],
                        wr := true },
                      {
                        cells :=
                          [SV.int IntKind.i64 ((E.v 7).add ((E.v 12).sub (E.v 9))),
                            SV.int IntKind.i64 ((E.v 8).add ((E.v 13).sub (E.v 9))),
                            SV.int IntKind.i64 (E.n 0), SV.int IntKind.i64 (E.v 10),
                            SV.int IntKind.i64 (E.v 11)],
                        wr := true }]
                    (SV.int IntKind.i64 (E.v 16))
                    { ni := 1, nb := 0, nv := 0, nj := 0, bd := [some (1, 3)], sl := [], sk := [] }
                    (T.ite (B.lt (E.v 14) (E.v 16)) (T.ret (SV.bool (B.c false)))
                      (T.call true 44
                        [SV.agg
                            [SV.int IntKind.i64 (E.v 3), SV.int IntKind.i64 (E.v 4), SV.int IntKind.i64 (E.v 5),
                              SV.int IntKind.i64 (E.v 6)],
                          SV.agg
                            [SV.int IntKind.i64 (E.v 7), SV.int IntKind.i64 (E.v 8), SV.int IntKind.i64 (E.v 9),
                              SV.int IntKind.i64 (E.v 10), SV.int IntKind.i64 (E.v 11)]]
                        [{
                            cells :=
                              [SV.int IntKind.i64 (E.v 3), SV.int IntKind.i64 (E.v 4), SV.int IntKind.i64 (E.v 5),
                                SV.int IntKind.i64 (E.v 6)],
                            wr := true },
                          {
                            cells :=
                              [SV.int IntKind.i64 (E.v 7), SV.int IntKind.i64 (E.v 8), SV.int IntKind.i64 (E.v 9),
                                SV.int IntKind.i64 (E.v 10), SV.int IntKind.i64 (E.v 11)],
                            wr := true },
                          {
                            cells :=
                              [SV.int IntKind.i64 ((E.v 7).add ((E.v 12).sub (E.v 9))),
                                SV.int IntKind.i64 ((E.v 8).add ((E.v 13).sub (E.v 9))),
                                SV.int IntKind.i64 (E.n 0), SV.int IntKind.i64 (E.v 10),
                                SV.int IntKind.i64 (E.v 11)],
                            wr := true }]
                        (SV.int IntKind.i64 (E.v 17))
                        { ni := 1, nb := 0, nv := 0, nj := 0, bd := [some (1, 3)], sl := [],
                          sk := [] }
                        (T.ite (B.lt (E.v 17) (E.v 14)) (T.ret (SV.bool (B.c false)))
                          (T.call true 35 []
                            [{
                                cells :=
                                  [SV.int IntKind.i64 (E.v 3), SV.int IntKind.i64 (E.v 4), SV.int IntKind.i64 (E.v 5),
                                    SV.int IntKind.i64 (E.v 6)],
                                wr := true },
                              {
                                cells :=
                                  [SV.int IntKind.i64 (E.v 7), SV.int IntKind.i64 (E.v 8), SV.int IntKind.i64 (E.v 9),
                                    SV.int IntKind.i64 (E.v 10), SV.int IntKind.i64 (E.v 11)],
                                wr := true },
                              {
                                cells :=
                                  [SV.int IntKind.i64 ((E.v 7).add ((E.v 12).sub (E.v 9))),
                                    SV.int IntKind.i64 ((E.v 8).add ((E.v 13).sub (E.v 9))),
                                    SV.int IntKind.i64 (E.n 0), SV.int IntKind.i64 (E.v 10),
                                    SV.int IntKind.i64 (E.v 11)],
                                wr := true }]
                            (SV.bool (B.v 0)) { ni := 0, nb := 1, nv := 0, nj := 0, bd := [], sl := [], sk := [] }
                            (T.ret (SV.bool (B.v 0))))))))
                  (T.ret (SV.bool (B.c false)))))))))))
set_option maxRecDepth 100000 in
theorem cov_t : runS Go.Proofs.Try.prog cov_Z 10 = cov_T := by kernel_rfl
theorem wf64 {z : Int} (h : (Lit.int .i64 z).wf = true) : -9223372036854775808 ≤ z ∧ z ≤ 9223372036854775807 := by
  have e3 : IntKind.i64.min = -9223372036854775808 := rfl
  have e4 : IntKind.i64.max = 9223372036854775807 := rfl
  simp only [Lit.wf, e3, e4, Bool.and_eq_true, decide_eq_true_eq] at h
  exact h
section
variable {A : Inva} {ρ : Env} {Q : SV → Env → Sp → Prop} {hp : List Blk} {x : T SV}
theorem modNode {s : Sp} {n0 k : Nat} {args : List SV} {a n : Int} (hs : Keeps s) (hk : k = ρ.is.length) (h : n ≤ 4611686018427387904) (ha : ∀ β, SV.dens ρ β args = [.int .i64 a, .int .i64 n])
    (rest : x.holds Try.prog n0 s ⟨ρ.is ++ [mmod a n], ρ.bs ++ [], ρ.vs ++ []⟩ A Q) :
    (T.call true 52 args hp (.int .i64 (.v k)) ⟨1, 0, 0, 0, [some (0, 4611686018427387904)], [], []⟩ x).holds Try.prog n0 s ρ A Q :=
  fixInt hs hk _ (inN_bd h (mmod_in a n)) (fun u => by
    rw [ha]
    exact (mkMod_calls a n u h).mono fun _ _ ⟨h1, h2⟩ => ⟨h1, by rw [h2]; exact Below.refl _ _⟩) (fun β => by rw [ha, ha]) rest
end
theorem CircleCovers_walk (w : World) (v : Value) (zs : List Int) (h : IntsIn w w.heap.size v .i64 zs) (hz : ∀ z ∈ zs, (Lit.int .i64 z).wf = true) (a : Int) (wa : (Lit.int .i64 a).wf = true) (b : Int) (wb : (Lit.int .i64 b).wf = true) :
    Calls Try.prog 10 #[v, .int .i64 a, .int .i64 b] w fun e w' => e = .returned (.bool true) ∧ Below w.heap.size w w' := by
  refine fixed cov_t ⟨[(zs.length : Int), a, b], [], [v]⟩ rfl rfl rfl ⟨len_bd h, wf64 wa, wf64 wb, trivial⟩ (sl1 h) (skL h) w (.bool true) ?_
  unfold cov_T
  refine ⟨fun _ => saneNode keeps_below rfl rfl, fun _ => ?_⟩
  refine newNode rfl rfl h hz fun blk => ?_
  simp only [List.cons_append, List.nil_append, List.append_nil]
  refine circNode (Nat.le_refl _) ⟨rfl, rfl, rfl, rfl⟩ rfl (fun x y l r k => ⟨k.1, k.2.1, by have := k.2.2; omega, by have := k.2.2; omega, trivial⟩) fun x y l r hc => ?_
  refine knownNode (Nat.le_refl _) ⟨rfl, rfl, rfl, rfl, rfl⟩ rfl (fun x y l r k => ⟨k.1, k.2.1, k.2.2.1, k.2.2.2, trivial⟩) fun p q c s he => ?_
  simp only [List.cons_append, List.nil_append, List.append_nil]
  obtain ⟨cx, cy, cl, clr, cr⟩ := hc
  obtain ⟨ex, ey, ec, es⟩ := he
  have i1 := (mmod_in a (2 * c + 1)).1 (by omega)
  have i2 := (mmod_in b (2 * c + 1)).1 (by omega)
  refine modNode (a := a) (n := 2 * c + 1) keeps_src rfl (by omega) (fun _ => by simp only [E.den, B.den, SV.den, SV.dens, List.getD_cons_zero, List.getD_cons_succ, List.cons_append, List.nil_append, List.append_nil, List.map_cons, List.map_nil, List.length_cons, List.length_nil]) ?_
  simp only [List.cons_append, List.nil_append, List.append_nil]
  refine modNode (a := b) (n := 2 * c + 1) keeps_src rfl (by omega) (fun _ => by simp only [E.den, B.den, SV.den, SV.dens, List.getD_cons_zero, List.getD_cons_succ, List.cons_append, List.nil_append, List.append_nil, List.map_cons, List.map_nil, List.length_cons, List.length_nil]) ?_
  simp only [List.cons_append, List.nil_append, List.append_nil]
  generalize mmod a (2 * c + 1) = u at *
  generalize mmod b (2 * c + 1) = t at *
  have e : Small x y l r p q c := ⟨by omega, by omega, by omega, by omega, by omega, by omega, by omega⟩
  have f : Small x y l r (p + (u - c)) (q + (t - c)) 0 := ⟨by omega, by omega, by omega, by omega, by omega, by omega, by omega⟩
  refine worstNode keeps_src rfl f (fun _ => by simp only [E.den, B.den, SV.den, SV.dens, List.getD_cons_zero, List.getD_cons_succ, List.cons_append, List.nil_append, List.append_nil, List.map_cons, List.map_nil, List.length_cons, List.length_nil]; rfl) ?_
  simp only [List.cons_append, List.nil_append, List.append_nil]
  refine bestNode keeps_src rfl f (fun _ => by simp only [E.den, B.den, SV.den, SV.dens, List.getD_cons_zero, List.getD_cons_succ, List.cons_append, List.nil_append, List.append_nil, List.map_cons, List.map_nil, List.length_cons, List.length_nil]; rfl) ?_
  simp only [List.cons_append, List.nil_append, List.append_nil]
  have m0 := here (x := x) (y := y) (p := p + (u - c)) (q := q + (t - c)) (s := s) clr (by omega)
  refine ⟨fun _ => ?_, fun k => ?_⟩
  · refine bestNode keeps_src rfl e (fun _ => by simp only [E.den, B.den, SV.den, SV.dens, List.getD_cons_zero, List.getD_cons_succ, List.cons_append, List.nil_append, List.append_nil, List.map_cons, List.map_nil, List.length_cons, List.length_nil]; rfl) ?_
    simp only [List.cons_append, List.nil_append, List.append_nil]
    have m1 := covers_best (x := x) (y := y) (p := p) (q := q) (n := c) (s := s) (d := u - c) (d' := t - c) clr (by omega) (by omega) (by omega)
    refine ⟨fun k => ?_, fun _ => ?_⟩
    · simp only [E.den, B.den, SV.den, SV.dens, List.getD_cons_zero, List.getD_cons_succ, List.cons_append, List.nil_append, List.append_nil, List.map_cons, List.map_nil, List.length_cons, List.length_nil, decide_eq_true_eq] at k
      exact absurd m1 (Int.not_le.mpr k)
    refine worstNode keeps_src rfl e (fun _ => by simp only [E.den, B.den, SV.den, SV.dens, List.getD_cons_zero, List.getD_cons_succ, List.cons_append, List.nil_append, List.append_nil, List.map_cons, List.map_nil, List.length_cons, List.length_nil]; rfl) ?_
    simp only [List.cons_append, List.nil_append, List.append_nil]
    have m2 := covers_worst (x := x) (y := y) (p := p) (q := q) (n := c) (s := s) (d := u - c) (d' := t - c) clr (by omega) (by omega) (by omega)
    refine ⟨fun k => ?_, fun _ => ?_⟩
    · simp only [E.den, B.den, SV.den, SV.dens, List.getD_cons_zero, List.getD_cons_succ, List.cons_append, List.nil_append, List.append_nil, List.map_cons, List.map_nil, List.length_cons, List.length_nil, decide_eq_true_eq] at k
      exact absurd m2 (Int.not_le.mpr k)
    exact saneNode keeps_src rfl rfl
  · simp only [E.den, B.den, SV.den, SV.dens, List.getD_cons_zero, List.getD_cons_succ, List.cons_append, List.nil_append, List.append_nil, List.map_cons, List.map_nil, List.length_cons, List.length_nil, decide_eq_false_iff_not] at k
    exact absurd m0.symm k
end Go.Proofs.Ythfagiihfkjamaa
