/- The walk of CircleGrows. -/
import Derived.Test.YthfagiihfkjamaaCj
set_option linter.unusedSimpArgs false
namespace Go.Proofs.Ythfagiihfkjamaa
open Go.ChangeShapes Go.WideShapes Go.ChangeAt Go.RowKit Sym
theorem sq_mono {a b : Int} (h : 0 ≤ a) (k : a ≤ b) : a * a ≤ b * b := Int.mul_le_mul k k h (Int.le_trans h k)
theorem sq_pos (a : Int) : 0 ≤ a * a := by
  rcases Int.le_total 0 a with h | h
  · exact Int.mul_nonneg h h
  · exact Int.mul_nonneg_of_nonpos_of_nonpos h h
theorem zone_mono {l r z z' : Int} (h : 0 ≤ z) (k : z ≤ z') : zoneV l r z ≤ zoneV l r z' := by
  unfold zoneV
  repeat' split
  all_goals omega
theorem zone_more {l r l' r' z : Int} (h1 : 0 ≤ l) (h2 : l ≤ l') (h3 : 0 ≤ r) (h4 : r ≤ r') : zoneV l' r' z ≤ zoneV l r z := by
  have a := sq_mono h1 h2
  have b := sq_mono h3 h4
  unfold zoneV
  repeat' split
  all_goals omega
theorem far_ok {x y l r p q n s : Int} (h : l ≤ r) (k : s ≠ 0) : farV x y l r p q n s = (max (p - x) (x - p) + n) * (max (p - x) (x - p) + n) + (max (q - y) (y - q) + n) * (max (q - y) (y - q) + n) := by
  unfold farV
  rw [if_neg (by omega)]
theorem close_ok {x y l r p q n s : Int} (h : l ≤ r) (k : s ≠ 0) : closeV x y l r p q n s = max 0 (max (p - x) (x - p) - n) * max 0 (max (p - x) (x - p) - n) + max 0 (max (q - y) (y - q) - n) * max 0 (max (q - y) (y - q) - n) := by
  unfold closeV
  rw [if_neg (by omega)]
theorem worst_mono {x y l r p q n n' s : Int} (h : l ≤ r) (k : s ≠ 0) (h0 : 0 ≤ n) (h1 : n ≤ n') : worstV x y l r p q n s ≤ worstV x y l r p q n' s := by
  unfold worstV
  rw [far_ok h k, far_ok h k]
  have a := sq_mono (a := max (p - x) (x - p) + n) (b := max (p - x) (x - p) + n') (by omega) (by omega)
  have b := sq_mono (a := max (q - y) (y - q) + n) (b := max (q - y) (y - q) + n') (by omega) (by omega)
  have c := sq_pos (max (p - x) (x - p) + n)
  have d := sq_pos (max (q - y) (y - q) + n)
  exact zone_mono (by omega) (by omega)
theorem best_mono {x y l r p q n n' s : Int} (h : l ≤ r) (k : s ≠ 0) (h1 : n ≤ n') : bestV x y l r p q n' s ≤ bestV x y l r p q n s := by
  unfold bestV
  rw [close_ok h k, close_ok h k]
  have a := sq_mono (a := max 0 (max (p - x) (x - p) - n')) (b := max 0 (max (p - x) (x - p) - n)) (by omega) (by omega)
  have b := sq_mono (a := max 0 (max (q - y) (y - q) - n')) (b := max 0 (max (q - y) (y - q) - n)) (by omega) (by omega)
  have c := sq_pos (max 0 (max (p - x) (x - p) - n'))
  have d := sq_pos (max 0 (max (q - y) (y - q) - n'))
  exact zone_mono (by omega) (by omega)
theorem best_worst {x y l r p q n s : Int} (h : l ≤ r) (k : s ≠ 0) (h0 : 0 ≤ n) : bestV x y l r p q n s ≤ worstV x y l r p q n s := by
  unfold bestV worstV
  rw [close_ok h k, far_ok h k]
  have a := sq_mono (a := max 0 (max (p - x) (x - p) - n)) (b := max (p - x) (x - p) + n) (by omega) (by omega)
  have b := sq_mono (a := max 0 (max (q - y) (y - q) - n)) (b := max (q - y) (y - q) + n) (by omega) (by omega)
  have c := sq_pos (max 0 (max (p - x) (x - p) - n))
  have d := sq_pos (max 0 (max (q - y) (y - q) - n))
  exact zone_mono (by omega) (by omega)
theorem worst_more {x y l r l' r' p q n s : Int} (h : l ≤ r) (h' : l' ≤ r') (k : s ≠ 0) (h0 : 0 ≤ l) (h1 : l ≤ l') (h2 : r ≤ r') : worstV x y l' r' p q n s ≤ worstV x y l r p q n s := by
  unfold worstV
  rw [far_ok h k, far_ok h' k]
  exact zone_more h0 h1 (by omega) h2
def grow_Z : Beg := ⟨[⟨25, false, .int .i64 (.v 0), ⟨1, 0, 0, 0, [some (0, 4611686018427387904)], [], []⟩⟩, ⟨16, false, .var 0, ⟨0, 0, 1, 0, [], [], [0]⟩⟩, ⟨35, true, .bool (.v 0), ⟨0, 1, 0, 0, [], [], []⟩⟩, ⟨44, true, .int .i64 (.v 0), ⟨1, 0, 0, 0, [some (1, 3)], [], []⟩⟩, ⟨46, true, .int .i64 (.v 0), ⟨1, 0, 0, 0, [some (1, 3)], [], []⟩⟩, ⟨36, false, .agg [.int .i64 (.v 0), .int .i64 (.v 1), .int .i64 (.v 2), .int .i64 (.v 3)], ⟨4, 0, 0, 0, [some (-1000, 1000), some (-1000, 1000), some (0, 5000), some (0, 5000)], [], []⟩⟩, ⟨51, false, .agg [.int .i64 (.v 0), .int .i64 (.v 1), .int .i64 (.v 2), .int .i64 (.v 3), .int .i64 (.v 4)], ⟨5, 0, 0, 0, [some (-5000, 5000), some (-5000, 5000), some (0, 900), none, some (1, 2)], [], []⟩⟩], [], [.var 0, .int .u16 (.v 1)], 2, 0, 1, [some (0, 9223372036854775807), some (0, 65535)], [(0, .v 0)], [0]⟩
def grow_T : T SV :=
  T.ite (B.lt (E.n 600) (E.v 0))
  (T.call true 35 [] [] (SV.bool (B.v 0)) { ni := 0, nb := 1, nv := 0, nj := 0, bd := [], sl := [], sk := [] }
    (T.ret (SV.bool (B.v 0))))
  (T.call false 16 [SV.var 0] [] (SV.var 1) { ni := 0, nb := 0, nv := 1, nj := 0, bd := [], sl := [], sk := [0] }
    (T.call false 36 [SV.var 1] []
      (SV.agg
        [SV.int IntKind.i64 (E.v 2), SV.int IntKind.i64 (E.v 3), SV.int IntKind.i64 (E.v 4),
          SV.int IntKind.i64 (E.v 5)])
      { ni := 4, nb := 0, nv := 0, nj := 0,
        bd :=
          [some ((-1000), 1000), some ((-1000), 1000),
            some (0, 5000), some (0, 5000)],
        sl := [], sk := [] }
      (T.call false 51 [SV.var 1] []
        (SV.agg
          [SV.int IntKind.i64 (E.v 6), SV.int IntKind.i64 (E.v 7), SV.int IntKind.i64 (E.v 8),
            SV.int IntKind.i64 (E.v 9), SV.int IntKind.i64 (E.v 10)])
        { ni := 5, nb := 0, nv := 0, nj := 0,
          bd :=
            [some ((-5000), 5000), some ((-5000), 5000),
              some (0, 900), none, some (1, 2)],
          sl := [], sk := [] }
        (T.call false 25 [SV.var 1, SV.int IntKind.i64 (E.n 500)]
          [{
              cells :=
                [SV.int IntKind.i64 (E.v 2), SV.int IntKind.i64 (E.v 3), SV.int IntKind.i64 (E.v 4),
                  SV.int IntKind.i64 (E.v 5)],
              wr := true },
            {
              cells :=
                [SV.int IntKind.i64 (E.v 6), SV.int IntKind.i64 (E.v 7), SV.int IntKind.i64 (E.v 8),
                  SV.int IntKind.i64 (E.v 9), SV.int IntKind.i64 (E.v 10)],
              wr := true },
            {
              cells :=
                [SV.int IntKind.i64 (E.v 6), SV.int IntKind.i64 (E.v 7), SV.int IntKind.i64 ((E.v 8).add (E.v 1)),
                  SV.int IntKind.i64 (E.v 9), SV.int IntKind.i64 (E.v 10)],
              wr := true },
            {
              cells :=
                [SV.int IntKind.i64 (E.v 2), SV.int IntKind.i64 (E.v 3), SV.int IntKind.i64 (E.v 4),
                  SV.int IntKind.i64 (E.v 5)],
              wr := true }]
          (SV.int IntKind.i64 (E.v 11))
          { ni := 1, nb := 0, nv := 0, nj := 0, bd := [some (0, 4611686018427387904)], sl := [],
            sk := [] }
          (T.call false 25 [SV.var 1, SV.int IntKind.i64 (E.n 500)]
            [{
                cells :=
                  [SV.int IntKind.i64 (E.v 2), SV.int IntKind.i64 (E.v 3), SV.int IntKind.i64 (E.v 4),
                    SV.int IntKind.i64 (E.v 5)],
                wr := true },
              {
                cells :=
                  [SV.int IntKind.i64 (E.v 6), SV.int IntKind.i64 (E.v 7), SV.int IntKind.i64 (E.v 8),
                    SV.int IntKind.i64 (E.v 9), SV.int IntKind.i64 (E.v 10)],
                wr := true },
              {
                cells :=
                  [SV.int IntKind.i64 (E.v 6), SV.int IntKind.i64 (E.v 7), SV.int IntKind.i64 ((E.v 8).add (E.v 1)),
                    SV.int IntKind.i64 (E.v 9), SV.int IntKind.i64 (E.v 10)],
                wr := true },
              {
                cells :=
                  [SV.int IntKind.i64 (E.v 2), SV.int IntKind.i64 (E.v 3), SV.int IntKind.i64 (E.v 4),
                    SV.int IntKind.i64 ((E.v 5).add (E.v 11))],
                wr := true }]
            (SV.int IntKind.i64 (E.v 12))
            { ni := 1, nb := 0, nv := 0, nj := 0, bd := [some (0, 4611686018427387904)], sl := [],
              sk := [] }
            (T.call true 44
              [SV.agg
                  [SV.int IntKind.i64 (E.v 2), SV.int IntKind.i64 (E.v 3), SV.int IntKind.i64 (E.v 4),
                    SV.int IntKind.i64 (E.v 5)],
                SV.agg
                  [SV.int IntKind.i64 (E.v 6), SV.int IntKind.i64 (E.v 7), SV.int IntKind.i64 ((E.v 8).add (E.v 1)),
                    SV.int IntKind.i64 (E.v 9), SV.int IntKind.i64 (E.v 10)]]
              [{
                  cells :=
                    [SV.int IntKind.i64 (E.v 2), SV.int IntKind.i64 (E.v 3), SV.int IntKind.i64 (E.v 4),
                      SV.int IntKind.i64 (E.v 5)],
                  wr := true },
                {
                  cells :=
                    [SV.int IntKind.i64 (E.v 6), SV.int IntKind.i64 (E.v 7), SV.int IntKind.i64 (E.v 8),
                      SV.int IntKind.i64 (E.v 9), SV.int IntKind.i64 (E.v 10)],
                  wr := true },
                {
                  cells :=
                    [SV.int IntKind.i64 (E.v 6), SV.int IntKind.i64 (E.v 7), SV.int IntKind.i64 ((E.v 8).add (E.v 1)),
                      SV.int IntKind.i64 (E.v 9), SV.int IntKind.i64 (E.v 10)],
                  wr := true },
                {
                  cells :=
                    [SV.int IntKind.i64 (E.v 2), SV.int IntKind.i64 (E.v 3),
                      SV.int IntKind.i64 (((E.v 5).add (E.v 11)).mn ((E.v 4).add (E.v 12))),
                      SV.int IntKind.i64 ((E.v 5).add (E.v 11))],
                  wr := true }]
              (SV.int IntKind.i64 (E.v 13))
              { ni := 1, nb := 0, nv := 0, nj := 0, bd := [some (1, 3)], sl := [], sk := [] }
              (T.call true 44
                [SV.agg
                    [SV.int IntKind.i64 (E.v 2), SV.int IntKind.i64 (E.v 3), SV.int IntKind.i64 (E.v 4),
                      SV.int IntKind.i64 (E.v 5)],
                  SV.agg
                    [SV.int IntKind.i64 (E.v 6), SV.int IntKind.i64 (E.v 7), SV.int IntKind.i64 (E.v 8),
                      SV.int IntKind.i64 (E.v 9), SV.int IntKind.i64 (E.v 10)]]
                [{
                    cells :=
                      [SV.int IntKind.i64 (E.v 2), SV.int IntKind.i64 (E.v 3), SV.int IntKind.i64 (E.v 4),
                        SV.int IntKind.i64 (E.v 5)],
                    wr := true },
                  {
                    cells :=
                      [SV.int IntKind.i64 (E.v 6), SV.int IntKind.i64 (E.v 7), SV.int IntKind.i64 (E.v 8),
                        SV.int IntKind.i64 (E.v 9), SV.int IntKind.i64 (E.v 10)],
                    wr := true },
                  {
                    cells :=
                      [SV.int IntKind.i64 (E.v 6), SV.int IntKind.i64 (E.v 7), SV.int IntKind.i64 ((E.v 8).add (E.v 1)),
                        SV.int IntKind.i64 (E.v 9), SV.int IntKind.i64 (E.v 10)],
                    wr := true },
                  {
                    cells :=
                      [SV.int IntKind.i64 (E.v 2), SV.int IntKind.i64 (E.v 3),
                        SV.int IntKind.i64 (((E.v 5).add (E.v 11)).mn ((E.v 4).add (E.v 12))),
                        SV.int IntKind.i64 ((E.v 5).add (E.v 11))],
                    wr := true }]
                (SV.int IntKind.i64 (E.v 14))
                { ni := 1, nb := 0, nv := 0, nj := 0, bd := [some (1, 3)], sl := [], sk := [] }
                (T.ite (B.lt (E.v 13) (E.v 14)) (T.ret (SV.bool (B.c false)))
                  (T.call true 46
                    [SV.agg
                        [SV.int IntKind.i64 (E.v 2), SV.int IntKind.i64 (E.v 3), SV.int IntKind.i64 (E.v 4),
                          SV.int IntKind.i64 (E.v 5)],
                      SV.agg
                        [SV.int IntKind.i64 (E.v 6), SV.int IntKind.i64 (E.v 7),
                          SV.int IntKind.i64 ((E.v 8).add (E.v 1)), SV.int IntKind.i64 (E.v 9),
                          SV.int IntKind.i64 (E.v 10)]]
                    [{
                        cells :=
                          [SV.int IntKind.i64 (E.v 2), SV.int IntKind.i64 (E.v 3), SV.int IntKind.i64 (E.v 4),
                            SV.int IntKind.i64 (E.v 5)],
                        wr := true },
                      {
                        cells :=
                          [SV.int IntKind.i64 (E.v 6), SV.int IntKind.i64 (E.v 7), SV.int IntKind.i64 (E.v 8),
                            SV.int IntKind.i64 (E.v 9), SV.int IntKind.i64 (E.v 10)],
                        wr := true },
                      {
                        cells :=
                          [SV.int IntKind.i64 (E.v 6), SV.int IntKind.i64 (E.v 7),
                            SV.int IntKind.i64 ((E.v 8).add (E.v 1)), SV.int IntKind.i64 (E.v 9),
                            SV.int IntKind.i64 (E.v 10)],
                        wr := true },
                      {
                        cells :=
                          [SV.int IntKind.i64 (E.v 2), SV.int IntKind.i64 (E.v 3),
                            SV.int IntKind.i64 (((E.v 5).add (E.v 11)).mn ((E.v 4).add (E.v 12))),
                            SV.int IntKind.i64 ((E.v 5).add (E.v 11))],
                        wr := true }]
                    (SV.int IntKind.i64 (E.v 15))
                    { ni := 1, nb := 0, nv := 0, nj := 0, bd := [some (1, 3)], sl := [], sk := [] }
                    (T.call true 46
                      [SV.agg
                          [SV.int IntKind.i64 (E.v 2), SV.int IntKind.i64 (E.v 3), SV.int IntKind.i64 (E.v 4),
                            SV.int IntKind.i64 (E.v 5)],
                        SV.agg
                          [SV.int IntKind.i64 (E.v 6), SV.int IntKind.i64 (E.v 7), SV.int IntKind.i64 (E.v 8),
                            SV.int IntKind.i64 (E.v 9), SV.int IntKind.i64 (E.v 10)]]
                      [{
                          cells :=
                            [SV.int IntKind.i64 (E.v 2), SV.int IntKind.i64 (E.v 3), SV.int IntKind.i64 (E.v 4),
                              SV.int IntKind.i64 (E.v 5)],
                          wr := true },
                        {
                          cells :=
                            [SV.int IntKind.i64 (E.v 6), SV.int IntKind.i64 (E.v 7), SV.int IntKind.i64 (E.v 8),
                              SV.int IntKind.i64 (E.v 9), SV.int IntKind.i64 (E.v 10)],
                          wr := true },
                        {
                          cells :=
                            [SV.int IntKind.i64 (E.v 6), SV.int IntKind.i64 (E.v 7),
                              SV.int IntKind.i64 ((E.v 8).add (E.v 1)), SV.int IntKind.i64 (E.v 9),
                              SV.int IntKind.i64 (E.v 10)],
                          wr := true },
                        {
                          cells :=
                            [SV.int IntKind.i64 (E.v 2), SV.int IntKind.i64 (E.v 3),
                              SV.int IntKind.i64 (((E.v 5).add (E.v 11)).mn ((E.v 4).add (E.v 12))),
                              SV.int IntKind.i64 ((E.v 5).add (E.v 11))],
                          wr := true }]
                      (SV.int IntKind.i64 (E.v 16))
                      { ni := 1, nb := 0, nv := 0, nj := 0, bd := [some (1, 3)], sl := [],
                        sk := [] }
                      (T.ite (B.lt (E.v 16) (E.v 15)) (T.ret (SV.bool (B.c false)))
                        (T.call true 46
                          [SV.agg
                              [SV.int IntKind.i64 (E.v 2), SV.int IntKind.i64 (E.v 3), SV.int IntKind.i64 (E.v 4),
                                SV.int IntKind.i64 (E.v 5)],
                            SV.agg
                              [SV.int IntKind.i64 (E.v 6), SV.int IntKind.i64 (E.v 7), SV.int IntKind.i64 (E.v 8),
                                SV.int IntKind.i64 (E.v 9), SV.int IntKind.i64 (E.v 10)]]
                          [{
                              cells :=
                                [SV.int IntKind.i64 (E.v 2), SV.int IntKind.i64 (E.v 3), SV.int IntKind.i64 (E.v 4),
                                  SV.int IntKind.i64 (E.v 5)],
                              wr := true },
                            {
                              cells :=
                                [SV.int IntKind.i64 (E.v 6), SV.int IntKind.i64 (E.v 7), SV.int IntKind.i64 (E.v 8),
                                  SV.int IntKind.i64 (E.v 9), SV.int IntKind.i64 (E.v 10)],
                              wr := true },
                            {
                              cells :=
                                [SV.int IntKind.i64 (E.v 6), SV.int IntKind.i64 (E.v 7),
                                  SV.int IntKind.i64 ((E.v 8).add (E.v 1)), SV.int IntKind.i64 (E.v 9),
                                  SV.int IntKind.i64 (E.v 10)],
                              wr := true },
                            {
                              cells :=
                                [SV.int IntKind.i64 (E.v 2), SV.int IntKind.i64 (E.v 3),
                                  SV.int IntKind.i64 (((E.v 5).add (E.v 11)).mn ((E.v 4).add (E.v 12))),
                                  SV.int IntKind.i64 ((E.v 5).add (E.v 11))],
                              wr := true }]
                          (SV.int IntKind.i64 (E.v 17))
                          { ni := 1, nb := 0, nv := 0, nj := 0, bd := [some (1, 3)], sl := [],
                            sk := [] }
                          (T.call true 44
                            [SV.agg
                                [SV.int IntKind.i64 (E.v 2), SV.int IntKind.i64 (E.v 3), SV.int IntKind.i64 (E.v 4),
                                  SV.int IntKind.i64 (E.v 5)],
                              SV.agg
                                [SV.int IntKind.i64 (E.v 6), SV.int IntKind.i64 (E.v 7), SV.int IntKind.i64 (E.v 8),
                                  SV.int IntKind.i64 (E.v 9), SV.int IntKind.i64 (E.v 10)]]
                            [{
                                cells :=
                                  [SV.int IntKind.i64 (E.v 2), SV.int IntKind.i64 (E.v 3), SV.int IntKind.i64 (E.v 4),
                                    SV.int IntKind.i64 (E.v 5)],
                                wr := true },
                              {
                                cells :=
                                  [SV.int IntKind.i64 (E.v 6), SV.int IntKind.i64 (E.v 7), SV.int IntKind.i64 (E.v 8),
                                    SV.int IntKind.i64 (E.v 9), SV.int IntKind.i64 (E.v 10)],
                                wr := true },
                              {
                                cells :=
                                  [SV.int IntKind.i64 (E.v 6), SV.int IntKind.i64 (E.v 7),
                                    SV.int IntKind.i64 ((E.v 8).add (E.v 1)), SV.int IntKind.i64 (E.v 9),
                                    SV.int IntKind.i64 (E.v 10)],
                                wr := true },
                              {
                                cells :=
                                  [SV.int IntKind.i64 (E.v 2), SV.int IntKind.i64 (E.v 3),
                                    SV.int IntKind.i64 (((E.v 5).add (E.v 11)).mn ((E.v 4).add (E.v 12))),
                                    SV.int IntKind.i64 ((E.v 5).add (E.v 11))],
                                wr := true }]
                            (SV.int IntKind.i64 (E.v 18))
                            { ni := 1, nb := 0, nv := 0, nj := 0, bd := [some (1, 3)], sl := [],
                              sk := [] }
                            (T.ite (B.lt (E.v 18) (E.v 17)) (T.ret (SV.bool (B.c false)))
                              (T.call true 44
                                [SV.agg
                                    [SV.int IntKind.i64 (E.v 2), SV.int IntKind.i64 (E.v 3),
                                      SV.int IntKind.i64 (((E.v 5).add (E.v 11)).mn ((E.v 4).add (E.v 12))),
                                      SV.int IntKind.i64 ((E.v 5).add (E.v 11))],
                                  SV.agg
                                    [SV.int IntKind.i64 (E.v 6), SV.int IntKind.i64 (E.v 7), SV.int IntKind.i64 (E.v 8),
                                      SV.int IntKind.i64 (E.v 9), SV.int IntKind.i64 (E.v 10)]]
                                [{
                                    cells :=
                                      [SV.int IntKind.i64 (E.v 2), SV.int IntKind.i64 (E.v 3),
                                        SV.int IntKind.i64 (E.v 4), SV.int IntKind.i64 (E.v 5)],
                                    wr := true },
                                  {
                                    cells :=
                                      [SV.int IntKind.i64 (E.v 6), SV.int IntKind.i64 (E.v 7),
                                        SV.int IntKind.i64 (E.v 8), SV.int IntKind.i64 (E.v 9),
                                        SV.int IntKind.i64 (E.v 10)],
                                    wr := true },
                                  {
                                    cells :=
                                      [SV.int IntKind.i64 (E.v 6), SV.int IntKind.i64 (E.v 7),
                                        SV.int IntKind.i64 ((E.v 8).add (E.v 1)), SV.int IntKind.i64 (E.v 9),
                                        SV.int IntKind.i64 (E.v 10)],
                                    wr := true },
                                  {
                                    cells :=
                                      [SV.int IntKind.i64 (E.v 2), SV.int IntKind.i64 (E.v 3),
                                        SV.int IntKind.i64 (((E.v 5).add (E.v 11)).mn ((E.v 4).add (E.v 12))),
                                        SV.int IntKind.i64 ((E.v 5).add (E.v 11))],
                                    wr := true }]
                                (SV.int IntKind.i64 (E.v 19))
                                { ni := 1, nb := 0, nv := 0, nj := 0, bd := [some (1, 3)], sl := [],
                                  sk := [] }
                                (T.call true 44
                                  [SV.agg
                                      [SV.int IntKind.i64 (E.v 2), SV.int IntKind.i64 (E.v 3),
                                        SV.int IntKind.i64 (E.v 4), SV.int IntKind.i64 (E.v 5)],
                                    SV.agg
                                      [SV.int IntKind.i64 (E.v 6), SV.int IntKind.i64 (E.v 7),
                                        SV.int IntKind.i64 (E.v 8), SV.int IntKind.i64 (E.v 9),
                                        SV.int IntKind.i64 (E.v 10)]]
                                  [{
                                      cells :=
                                        [SV.int IntKind.i64 (E.v 2), SV.int IntKind.i64 (E.v 3),
                                          SV.int IntKind.i64 (E.v 4), SV.int IntKind.i64 (E.v 5)],
                                      wr := true },
                                    {
                                      cells :=
                                        [SV.int IntKind.i64 (E.v 6), SV.int IntKind.i64 (E.v 7),
                                          SV.int IntKind.i64 (E.v 8), SV.int IntKind.i64 (E.v 9),
                                          SV.int IntKind.i64 (E.v 10)],
                                      wr := true },
                                    {
                                      cells :=
                                        [SV.int IntKind.i64 (E.v 6), SV.int IntKind.i64 (E.v 7),
                                          SV.int IntKind.i64 ((E.v 8).add (E.v 1)), SV.int IntKind.i64 (E.v 9),
                                          SV.int IntKind.i64 (E.v 10)],
                                      wr := true },
                                    {
                                      cells :=
                                        [SV.int IntKind.i64 (E.v 2), SV.int IntKind.i64 (E.v 3),
                                          SV.int IntKind.i64 (((E.v 5).add (E.v 11)).mn ((E.v 4).add (E.v 12))),
                                          SV.int IntKind.i64 ((E.v 5).add (E.v 11))],
                                      wr := true }]
                                  (SV.int IntKind.i64 (E.v 20))
                                  { ni := 1, nb := 0, nv := 0, nj := 0, bd := [some (1, 3)],
                                    sl := [], sk := [] }
                                  (T.ite (B.lt (E.v 20) (E.v 19)) (T.ret (SV.bool (B.c false)))
                                    (T.call true 35 []
                                      [{
                                          cells :=
                                            [SV.int IntKind.i64 (E.v 2), SV.int IntKind.i64 (E.v 3),
                                              SV.int IntKind.i64 (E.v 4), SV.int IntKind.i64 (E.v 5)],
                                          wr := true },
                                        {
                                          cells :=
                                            [SV.int IntKind.i64 (E.v 6), SV.int IntKind.i64 (E.v 7),
                                              SV.int IntKind.i64 (E.v 8), SV.int IntKind.i64 (E.v 9),
                                              SV.int IntKind.i64 (E.v 10)],
                                          wr := true },
                                        {
                                          cells :=
                                            [SV.int IntKind.i64 (E.v 6), SV.int IntKind.i64 (E.v 7),
                                              SV.int IntKind.i64 ((E.v 8).add (E.v 1)), SV.int IntKind.i64 (E.v 9),
                                              SV.int IntKind.i64 (E.v 10)],
                                          wr := true },
                                        {
                                          cells :=
                                            [SV.int IntKind.i64 (E.v 2), SV.int IntKind.i64 (E.v 3),
                                              SV.int IntKind.i64 (((E.v 5).add (E.v 11)).mn ((E.v 4).add (E.v 12))),
                                              SV.int IntKind.i64 ((E.v 5).add (E.v 11))],
                                          wr := true }]
                                      (SV.bool (B.v 0))
                                      { ni := 0, nb := 1, nv := 0, nj := 0, bd := [], sl := [], sk := [] }
                                      (T.ret (SV.bool (B.v 0)))))))))))))))))))))
set_option maxRecDepth 100000 in
theorem grow_t : runS Go.Proofs.Try.prog grow_Z 11 = grow_T := by kernel_rfl
theorem zone_bd (l r z : Int) : BdL [zoneV l r z] [some (1, 3)] := ⟨zone_rng l r z, trivial⟩
theorem CircleGrows_walk (w : World) (v : Value) (zs : List Int) (h : IntsIn w w.heap.size v .i64 zs) (hz : ∀ z ∈ zs, (Lit.int .i64 z).wf = true) (n : Int) (hn : (Lit.int .u16 n).wf = true) :
    Calls Try.prog 11 #[v, .int .u16 n] w fun e w' => e = .returned (.bool true) ∧ Below w.heap.size w w' := by
  have hn' : 0 ≤ n ∧ n ≤ 65535 := by
    simp [Lit.wf, IntKind.min, IntKind.max, IntKind.bits, IntKind.signed] at hn
    omega
  refine fixed grow_t ⟨[(zs.length : Int), n], [], [v]⟩ rfl rfl rfl ⟨len_bd h, hn', trivial⟩ (sl1 h) (skL h) w (.bool true) ?_
  unfold grow_T
  refine ⟨fun _ => saneNode keeps_below rfl rfl, fun _ => ?_⟩
  refine newNode rfl rfl h hz fun b => ?_
  simp only [List.cons_append, List.nil_append, List.append_nil]
  refine circNode (Nat.le_refl _) ⟨rfl, rfl, rfl, rfl⟩ rfl (fun x y l r k => ⟨k.1, k.2.1, by have := k.2.2; omega, by have := k.2.2; omega, trivial⟩) fun x y l r hc => ?_
  refine knownNode (Nat.le_refl _) ⟨rfl, rfl, rfl, rfl, rfl⟩ rfl (fun x y l r k => ⟨k.1, k.2.1, k.2.2.1, k.2.2.2, trivial⟩) fun p q c s he => ?_
  refine nNode (Nat.le_refl _) rfl rfl (by simp only [E.den, B.den, SV.den, SV.dens, List.getD_cons_zero, List.getD_cons_succ, List.cons_append, List.nil_append, List.append_nil, List.map_cons, List.map_nil, List.length_cons, List.length_nil]; omega) (fun z hz => inN_bd (by simp only [E.den, B.den, SV.den, SV.dens, List.getD_cons_zero, List.getD_cons_succ, List.cons_append, List.nil_append, List.append_nil, List.map_cons, List.map_nil, List.length_cons, List.length_nil]; omega) hz) fun a ha => ?_
  refine nNode (Nat.le_refl _) rfl rfl (by simp only [E.den, B.den, SV.den, SV.dens, List.getD_cons_zero, List.getD_cons_succ, List.cons_append, List.nil_append, List.append_nil, List.map_cons, List.map_nil, List.length_cons, List.length_nil]; omega) (fun z hz => inN_bd (by simp only [E.den, B.den, SV.den, SV.dens, List.getD_cons_zero, List.getD_cons_succ, List.cons_append, List.nil_append, List.append_nil, List.map_cons, List.map_nil, List.length_cons, List.length_nil]; omega) hz) fun d hd => ?_
  simp only [E.den, B.den, SV.den, SV.dens, List.getD_cons_zero, List.getD_cons_succ, List.cons_append, List.nil_append, List.append_nil, List.map_cons, List.map_nil, List.length_cons, List.length_nil] at ha hd
  simp only [List.cons_append, List.nil_append, List.append_nil]
  obtain ⟨cx, cy, cl, clr, cr⟩ := hc
  obtain ⟨ex, ey, ec, es⟩ := he
  have a1 := ha.1 (by omega)
  have d1 := hd.1 (by omega)
  have e : Small x y l r p q c := ⟨by omega, by omega, by omega, by omega, by omega, by omega, by omega⟩
  have f : Small x y l r p q (c + n) := ⟨by omega, by omega, by omega, by omega, by omega, by omega, by omega⟩
  have g : Small x y (min (r + a) (l + d)) (r + a) p q c := ⟨by omega, by omega, by omega, by omega, by omega, by omega, by omega⟩
  refine worstNode keeps_src rfl f (fun _ => by simp only [E.den, B.den, SV.den, SV.dens, List.getD_cons_zero, List.getD_cons_succ, List.cons_append, List.nil_append, List.append_nil, List.map_cons, List.map_nil, List.length_cons, List.length_nil]; rfl) ?_
  simp only [List.cons_append, List.nil_append, List.append_nil]
  refine worstNode keeps_src rfl e (fun _ => by simp only [E.den, B.den, SV.den, SV.dens, List.getD_cons_zero, List.getD_cons_succ, List.cons_append, List.nil_append, List.append_nil, List.map_cons, List.map_nil, List.length_cons, List.length_nil]; rfl) ?_
  simp only [List.cons_append, List.nil_append, List.append_nil]
  have m1 := worst_mono (x := x) (y := y) (p := p) (q := q) (n := c) (n' := c + n) (s := s) clr (by omega) (by omega) (by omega)
  refine ⟨fun k => ?_, fun _ => ?_⟩
  · simp only [E.den, B.den, SV.den, SV.dens, List.getD_cons_zero, List.getD_cons_succ, List.cons_append, List.nil_append, List.append_nil, List.map_cons, List.map_nil, List.length_cons, List.length_nil, decide_eq_true_eq] at k
    exact absurd m1 (Int.not_le.mpr k)
  refine bestNode keeps_src rfl f (fun _ => by simp only [E.den, B.den, SV.den, SV.dens, List.getD_cons_zero, List.getD_cons_succ, List.cons_append, List.nil_append, List.append_nil, List.map_cons, List.map_nil, List.length_cons, List.length_nil]; rfl) ?_
  simp only [List.cons_append, List.nil_append, List.append_nil]
  refine bestNode keeps_src rfl e (fun _ => by simp only [E.den, B.den, SV.den, SV.dens, List.getD_cons_zero, List.getD_cons_succ, List.cons_append, List.nil_append, List.append_nil, List.map_cons, List.map_nil, List.length_cons, List.length_nil]; rfl) ?_
  simp only [List.cons_append, List.nil_append, List.append_nil]
  have m2 := best_mono (x := x) (y := y) (p := p) (q := q) (n := c) (n' := c + n) (s := s) clr (by omega) (by omega)
  refine ⟨fun k => ?_, fun _ => ?_⟩
  · simp only [E.den, B.den, SV.den, SV.dens, List.getD_cons_zero, List.getD_cons_succ, List.cons_append, List.nil_append, List.append_nil, List.map_cons, List.map_nil, List.length_cons, List.length_nil, decide_eq_true_eq] at k
    exact absurd m2 (Int.not_le.mpr k)
  refine bestNode keeps_src rfl e (fun _ => by simp only [E.den, B.den, SV.den, SV.dens, List.getD_cons_zero, List.getD_cons_succ, List.cons_append, List.nil_append, List.append_nil, List.map_cons, List.map_nil, List.length_cons, List.length_nil]; rfl) ?_
  simp only [List.cons_append, List.nil_append, List.append_nil]
  refine worstNode keeps_src rfl e (fun _ => by simp only [E.den, B.den, SV.den, SV.dens, List.getD_cons_zero, List.getD_cons_succ, List.cons_append, List.nil_append, List.append_nil, List.map_cons, List.map_nil, List.length_cons, List.length_nil]; rfl) ?_
  simp only [List.cons_append, List.nil_append, List.append_nil]
  have m3 := best_worst (x := x) (y := y) (p := p) (q := q) (n := c) (s := s) clr (by omega) (by omega)
  refine ⟨fun k => ?_, fun _ => ?_⟩
  · simp only [E.den, B.den, SV.den, SV.dens, List.getD_cons_zero, List.getD_cons_succ, List.cons_append, List.nil_append, List.append_nil, List.map_cons, List.map_nil, List.length_cons, List.length_nil, decide_eq_true_eq] at k
    exact absurd m3 (Int.not_le.mpr k)
  refine worstNode keeps_src rfl g (fun _ => by simp only [E.den, B.den, SV.den, SV.dens, List.getD_cons_zero, List.getD_cons_succ, List.cons_append, List.nil_append, List.append_nil, List.map_cons, List.map_nil, List.length_cons, List.length_nil]; rfl) ?_
  simp only [List.cons_append, List.nil_append, List.append_nil]
  refine worstNode keeps_src rfl e (fun _ => by simp only [E.den, B.den, SV.den, SV.dens, List.getD_cons_zero, List.getD_cons_succ, List.cons_append, List.nil_append, List.append_nil, List.map_cons, List.map_nil, List.length_cons, List.length_nil]; rfl) ?_
  simp only [List.cons_append, List.nil_append, List.append_nil]
  have m4 := worst_more (x := x) (y := y) (l := l) (r := r) (l' := min (r + a) (l + d)) (r' := r + a) (p := p) (q := q) (n := c) (s := s) clr (by omega) (by omega) (by omega) (by omega) (by omega)
  refine ⟨fun k => ?_, fun _ => ?_⟩
  · simp only [E.den, B.den, SV.den, SV.dens, List.getD_cons_zero, List.getD_cons_succ, List.cons_append, List.nil_append, List.append_nil, List.map_cons, List.map_nil, List.length_cons, List.length_nil, decide_eq_true_eq] at k
    exact absurd m4 (Int.not_le.mpr k)
  exact saneNode keeps_src rfl rfl
end Go.Proofs.Ythfagiihfkjamaa
