/- The walk of CircleNowhere. -/
import Derived.Test.YthfagiihfkjamaaCi
set_option linter.unusedSimpArgs false
namespace Go.Proofs.Ythfagiihfkjamaa
open Go.ChangeShapes Go.WideShapes Go.ChangeAt Go.RowKit Sym
def now_Z : Beg := ⟨[⟨25, false, .int .i64 (.v 0), ⟨1, 0, 0, 0, [some (0, 4611686018427387904)], [], []⟩⟩, ⟨16, false, .var 0, ⟨0, 0, 1, 0, [], [], [0]⟩⟩, ⟨35, true, .bool (.v 0), ⟨0, 1, 0, 0, [], [], []⟩⟩, ⟨36, false, .agg [.int .i64 (.v 0), .int .i64 (.v 1), .int .i64 (.v 2), .int .i64 (.v 3)], ⟨4, 0, 0, 0, [some (-1000, 1000), some (-1000, 1000), some (0, 5000), some (0, 5000)], [], []⟩⟩, ⟨39, false, .agg [.int .i64 (.v 0), .int .i64 (.v 1), .int .i64 (.v 2), .int .i64 (.v 3), .int .i64 (.v 4)], ⟨5, 0, 0, 0, [some (-5000, 5000), some (-5000, 5000), some (0, 900), none, some (0, 2)], [], []⟩⟩], [], [.var 0], 1, 0, 1, [some (0, 9223372036854775807)], [(0, .v 0)], [0]⟩
def now_T : T SV :=
  T.ite (B.lt (E.n 600) (E.v 0))
  (T.call true 35 [] [] (SV.bool (B.v 0)) { ni := 0, nb := 1, nv := 0, nj := 0, bd := [], sl := [], sk := [] }
    (T.ret (SV.bool (B.v 0))))
  (T.call false 16 [SV.var 0] [] (SV.var 1) { ni := 0, nb := 0, nv := 1, nj := 0, bd := [], sl := [], sk := [0] }
    (T.call false 36 [SV.var 1] []
      (SV.agg
        [SV.int IntKind.i64 (E.v 1), SV.int IntKind.i64 (E.v 2), SV.int IntKind.i64 (E.v 3),
          SV.int IntKind.i64 (E.v 4)])
      { ni := 4, nb := 0, nv := 0, nj := 0,
        bd :=
          [some ((-1000), 1000), some ((-1000), 1000),
            some (0, 5000), some (0, 5000)],
        sl := [], sk := [] }
      (T.call false 39 [SV.var 1, SV.int IntKind.i64 (E.n 0)] []
        (SV.agg
          [SV.int IntKind.i64 (E.v 5), SV.int IntKind.i64 (E.v 6), SV.int IntKind.i64 (E.v 7),
            SV.int IntKind.i64 (E.v 8), SV.int IntKind.i64 (E.v 9)])
        { ni := 5, nb := 0, nv := 0, nj := 0,
          bd :=
            [some ((-5000), 5000), some ((-5000), 5000),
              some (0, 900), none, some (0, 2)],
          sl := [], sk := [] }
        (T.ite (B.lt (E.v 4) (E.v 3))
          (T.call false 25 [SV.var 1, SV.int IntKind.i64 (E.n 100)]
            [{
                cells :=
                  [SV.int IntKind.i64 (E.v 1), SV.int IntKind.i64 (E.v 2), SV.int IntKind.i64 (E.v 3),
                    SV.int IntKind.i64 (E.v 4)],
                wr := true },
              {
                cells :=
                  [SV.int IntKind.i64 (E.v 5), SV.int IntKind.i64 (E.v 6), SV.int IntKind.i64 (E.v 7),
                    SV.int IntKind.i64 (E.v 8), SV.int IntKind.i64 (E.n 0)],
                wr := true },
              {
                cells :=
                  [SV.int IntKind.i64 (E.v 1), SV.int IntKind.i64 (E.v 2), SV.int IntKind.i64 (E.v 3),
                    SV.int IntKind.i64 (E.v 4)],
                wr := true },
              {
                cells :=
                  [SV.int IntKind.i64 (E.v 5), SV.int IntKind.i64 (E.v 6), SV.int IntKind.i64 (E.v 7),
                    SV.int IntKind.i64 (E.v 8), SV.int IntKind.i64 (E.n 0)],
                wr := true },
              {
                cells :=
                  [SV.int IntKind.i64 (E.v 1), SV.int IntKind.i64 (E.v 2), SV.int IntKind.i64 (E.v 3),
                    SV.int IntKind.i64 (E.v 4)],
                wr := true },
              {
                cells :=
                  [SV.int IntKind.i64 (E.v 5), SV.int IntKind.i64 (E.v 6), SV.int IntKind.i64 (E.v 7),
                    SV.int IntKind.i64 (E.v 8), SV.int IntKind.i64 (E.n 0)],
                wr := true },
              {
                cells :=
                  [SV.int IntKind.i64 (E.v 1), SV.int IntKind.i64 (E.v 2), SV.int IntKind.i64 (E.v 3),
                    SV.int IntKind.i64 (E.v 4)],
                wr := true },
              {
                cells :=
                  [SV.int IntKind.i64 (E.v 5), SV.int IntKind.i64 (E.v 6), SV.int IntKind.i64 (E.v 7),
                    SV.int IntKind.i64 (E.v 8), SV.int IntKind.i64 (E.n 0)],
                wr := true },
              {
                cells :=
                  [SV.int IntKind.i64 (E.v 1), SV.int IntKind.i64 (E.v 2), SV.int IntKind.i64 (E.v 3),
                    SV.int IntKind.i64 (E.v 4)],
                wr := true },
              { cells := [SV.int IntKind.i64 (E.v 1), SV.int IntKind.i64 (E.v 2)], wr := true },
              { cells := [SV.int IntKind.i64 (E.v 1), SV.int IntKind.i64 (E.v 2)], wr := true },
              {
                cells :=
                  [SV.int IntKind.i64 (E.v 1), SV.int IntKind.i64 (E.v 2), SV.int IntKind.i64 (E.v 3),
                    SV.int IntKind.i64 (E.v 4)],
                wr := true },
              {
                cells :=
                  [SV.int IntKind.i64 (E.v 1), SV.int IntKind.i64 (E.v 2), SV.int IntKind.i64 (E.v 3),
                    SV.int IntKind.i64 (E.v 4)],
                wr := true },
              {
                cells :=
                  [SV.int IntKind.i64 (E.v 5), SV.int IntKind.i64 (E.v 6), SV.int IntKind.i64 (E.v 7),
                    SV.int IntKind.i64 (E.v 8), SV.int IntKind.i64 (E.n 0)],
                wr := true },
              {
                cells :=
                  [SV.int IntKind.i64 (E.v 1), SV.int IntKind.i64 (E.v 2), SV.int IntKind.i64 (E.v 3),
                    SV.int IntKind.i64 (E.v 4)],
                wr := true },
              {
                cells :=
                  [SV.int IntKind.i64 (E.v 5), SV.int IntKind.i64 (E.v 6), SV.int IntKind.i64 (E.v 7),
                    SV.int IntKind.i64 (E.v 8), SV.int IntKind.i64 (E.n 0)],
                wr := true },
              {
                cells :=
                  [SV.int IntKind.i64 (E.v 1), SV.int IntKind.i64 (E.v 2), SV.int IntKind.i64 (E.v 3),
                    SV.int IntKind.i64 (E.v 4)],
                wr := true },
              {
                cells :=
                  [SV.int IntKind.i64 (E.v 5), SV.int IntKind.i64 (E.v 6), SV.int IntKind.i64 (E.v 7),
                    SV.int IntKind.i64 (E.v 8), SV.int IntKind.i64 (E.n 0)],
                wr := true },
              {
                cells :=
                  [SV.int IntKind.i64 (E.v 1), SV.int IntKind.i64 (E.v 2), SV.int IntKind.i64 (E.v 3),
                    SV.int IntKind.i64 (E.v 4)],
                wr := true },
              { cells := [SV.int IntKind.i64 (E.v 1), SV.int IntKind.i64 (E.v 2)], wr := true },
              { cells := [SV.int IntKind.i64 (E.v 1), SV.int IntKind.i64 (E.v 2)], wr := true },
              {
                cells :=
                  [SV.int IntKind.i64 (E.v 1), SV.int IntKind.i64 (E.v 2), SV.int IntKind.i64 (E.v 3),
                    SV.int IntKind.i64 (E.v 4)],
                wr := true },
              {
                cells :=
                  [SV.int IntKind.i64 (E.v 1), SV.int IntKind.i64 (E.v 2), SV.int IntKind.i64 (E.v 3),
                    SV.int IntKind.i64 (E.v 4)],
                wr := true },
              {
                cells :=
                  [SV.int IntKind.i64 (E.v 5), SV.int IntKind.i64 (E.v 6), SV.int IntKind.i64 (E.v 7),
                    SV.int IntKind.i64 (E.v 8), SV.int IntKind.i64 (E.n 0)],
                wr := true },
              {
                cells :=
                  [SV.int IntKind.i64 (E.v 1), SV.int IntKind.i64 (E.v 2), SV.int IntKind.i64 (E.v 3),
                    SV.int IntKind.i64 (E.v 4)],
                wr := true },
              {
                cells :=
                  [SV.int IntKind.i64 (E.v 5), SV.int IntKind.i64 (E.v 6), SV.int IntKind.i64 (E.v 7),
                    SV.int IntKind.i64 (E.v 8), SV.int IntKind.i64 (E.n 0)],
                wr := true },
              {
                cells :=
                  [SV.int IntKind.i64 (E.v 1), SV.int IntKind.i64 (E.v 2), SV.int IntKind.i64 (E.v 3),
                    SV.int IntKind.i64 (E.v 4)],
                wr := true },
              { cells := [SV.int IntKind.i64 (E.v 1), SV.int IntKind.i64 (E.v 2)], wr := true },
              { cells := [SV.int IntKind.i64 (E.v 1), SV.int IntKind.i64 (E.v 2)], wr := true }]
            (SV.int IntKind.i64 (E.v 10))
            { ni := 1, nb := 0, nv := 0, nj := 0, bd := [some (0, 4611686018427387904)], sl := [],
              sk := [] }
            (T.ite (B.lt (E.n 1000) (E.v 10))
              (T.call true 35 []
                [{
                    cells :=
                      [SV.int IntKind.i64 (E.v 1), SV.int IntKind.i64 (E.v 2), SV.int IntKind.i64 (E.v 3),
                        SV.int IntKind.i64 (E.v 4)],
                    wr := true },
                  {
                    cells :=
                      [SV.int IntKind.i64 (E.v 5), SV.int IntKind.i64 (E.v 6), SV.int IntKind.i64 (E.v 7),
                        SV.int IntKind.i64 (E.v 8), SV.int IntKind.i64 (E.n 0)],
                    wr := true },
                  {
                    cells :=
                      [SV.int IntKind.i64 (E.v 1), SV.int IntKind.i64 (E.v 2), SV.int IntKind.i64 (E.v 3),
                        SV.int IntKind.i64 (E.v 4)],
                    wr := true },
                  {
                    cells :=
                      [SV.int IntKind.i64 (E.v 5), SV.int IntKind.i64 (E.v 6), SV.int IntKind.i64 (E.v 7),
                        SV.int IntKind.i64 (E.v 8), SV.int IntKind.i64 (E.n 0)],
                    wr := true },
                  {
                    cells :=
                      [SV.int IntKind.i64 (E.v 1), SV.int IntKind.i64 (E.v 2), SV.int IntKind.i64 (E.v 3),
                        SV.int IntKind.i64 (E.v 4)],
                    wr := true },
                  {
                    cells :=
                      [SV.int IntKind.i64 (E.v 5), SV.int IntKind.i64 (E.v 6), SV.int IntKind.i64 (E.v 7),
                        SV.int IntKind.i64 (E.v 8), SV.int IntKind.i64 (E.n 0)],
                    wr := true },
                  {
                    cells :=
                      [SV.int IntKind.i64 (E.v 1), SV.int IntKind.i64 (E.v 2), SV.int IntKind.i64 (E.v 3),
                        SV.int IntKind.i64 (E.v 4)],
                    wr := true },
                  {
                    cells :=
                      [SV.int IntKind.i64 (E.v 5), SV.int IntKind.i64 (E.v 6), SV.int IntKind.i64 (E.v 7),
                        SV.int IntKind.i64 (E.v 8), SV.int IntKind.i64 (E.n 0)],
                    wr := true },
                  {
                    cells :=
                      [SV.int IntKind.i64 (E.v 1), SV.int IntKind.i64 (E.v 2), SV.int IntKind.i64 (E.v 3),
                        SV.int IntKind.i64 (E.v 4)],
                    wr := true },
                  { cells := [SV.int IntKind.i64 (E.v 1), SV.int IntKind.i64 (E.v 2)], wr := true },
                  { cells := [SV.int IntKind.i64 (E.v 1), SV.int IntKind.i64 (E.v 2)], wr := true },
                  {
                    cells :=
                      [SV.int IntKind.i64 (E.v 1), SV.int IntKind.i64 (E.v 2), SV.int IntKind.i64 (E.v 3),
                        SV.int IntKind.i64 (E.v 4)],
                    wr := true },
                  {
                    cells :=
                      [SV.int IntKind.i64 (E.v 1), SV.int IntKind.i64 (E.v 2), SV.int IntKind.i64 (E.v 3),
                        SV.int IntKind.i64 (E.v 4)],
                    wr := true },
                  {
                    cells :=
                      [SV.int IntKind.i64 (E.v 5), SV.int IntKind.i64 (E.v 6), SV.int IntKind.i64 (E.v 7),
                        SV.int IntKind.i64 (E.v 8), SV.int IntKind.i64 (E.n 0)],
                    wr := true },
                  {
                    cells :=
                      [SV.int IntKind.i64 (E.v 1), SV.int IntKind.i64 (E.v 2), SV.int IntKind.i64 (E.v 3),
                        SV.int IntKind.i64 (E.v 4)],
                    wr := true },
                  {
                    cells :=
                      [SV.int IntKind.i64 (E.v 5), SV.int IntKind.i64 (E.v 6), SV.int IntKind.i64 (E.v 7),
                        SV.int IntKind.i64 (E.v 8), SV.int IntKind.i64 (E.n 0)],
                    wr := true },
                  {
                    cells :=
                      [SV.int IntKind.i64 (E.v 1), SV.int IntKind.i64 (E.v 2), SV.int IntKind.i64 (E.v 3),
                        SV.int IntKind.i64 (E.v 4)],
                    wr := true },
                  {
                    cells :=
                      [SV.int IntKind.i64 (E.v 5), SV.int IntKind.i64 (E.v 6), SV.int IntKind.i64 (E.v 7),
                        SV.int IntKind.i64 (E.v 8), SV.int IntKind.i64 (E.n 0)],
                    wr := true },
                  {
                    cells :=
                      [SV.int IntKind.i64 (E.v 1), SV.int IntKind.i64 (E.v 2), SV.int IntKind.i64 (E.v 3),
                        SV.int IntKind.i64 (E.v 4)],
                    wr := true },
                  { cells := [SV.int IntKind.i64 (E.v 1), SV.int IntKind.i64 (E.v 2)], wr := true },
                  { cells := [SV.int IntKind.i64 (E.v 1), SV.int IntKind.i64 (E.v 2)], wr := true },
                  {
                    cells :=
                      [SV.int IntKind.i64 (E.v 1), SV.int IntKind.i64 (E.v 2), SV.int IntKind.i64 (E.v 3),
                        SV.int IntKind.i64 (E.v 4)],
                    wr := true },
                  {
                    cells :=
                      [SV.int IntKind.i64 (E.v 1), SV.int IntKind.i64 (E.v 2), SV.int IntKind.i64 (E.v 3),
                        SV.int IntKind.i64 (E.v 4)],
                    wr := true },
                  {
                    cells :=
                      [SV.int IntKind.i64 (E.v 5), SV.int IntKind.i64 (E.v 6), SV.int IntKind.i64 (E.v 7),
                        SV.int IntKind.i64 (E.v 8), SV.int IntKind.i64 (E.n 0)],
                    wr := true },
                  {
                    cells :=
                      [SV.int IntKind.i64 (E.v 1), SV.int IntKind.i64 (E.v 2), SV.int IntKind.i64 (E.v 3),
                        SV.int IntKind.i64 (E.v 4)],
                    wr := true },
                  {
                    cells :=
                      [SV.int IntKind.i64 (E.v 5), SV.int IntKind.i64 (E.v 6), SV.int IntKind.i64 (E.v 7),
                        SV.int IntKind.i64 (E.v 8), SV.int IntKind.i64 (E.n 0)],
                    wr := true },
                  {
                    cells :=
                      [SV.int IntKind.i64 (E.v 1), SV.int IntKind.i64 (E.v 2), SV.int IntKind.i64 (E.v 3),
                        SV.int IntKind.i64 (E.v 4)],
                    wr := true },
                  { cells := [SV.int IntKind.i64 (E.v 1), SV.int IntKind.i64 (E.v 2)], wr := true },
                  { cells := [SV.int IntKind.i64 (E.v 1), SV.int IntKind.i64 (E.v 2)], wr := true },
                  {
                    cells :=
                      [SV.int IntKind.i64 (E.v 1), SV.int IntKind.i64 (E.v 2), SV.int IntKind.i64 (E.v 3),
                        SV.int IntKind.i64 (E.v 4)],
                    wr := true },
                  {
                    cells :=
                      [SV.int IntKind.i64 (E.v 5), SV.int IntKind.i64 (E.v 6), SV.int IntKind.i64 (E.v 7),
                        SV.int IntKind.i64 (E.v 8), SV.int IntKind.i64 (E.n 0)],
                    wr := true },
                  { cells := [SV.int IntKind.i64 (E.v 10)], wr := true }]
                (SV.bool (B.v 0)) { ni := 0, nb := 1, nv := 0, nj := 0, bd := [], sl := [], sk := [] }
                (T.ret (SV.bool (B.v 0))))
              (T.call true 35 []
                [{
                    cells :=
                      [SV.int IntKind.i64 (E.v 1), SV.int IntKind.i64 (E.v 2), SV.int IntKind.i64 (E.v 3),
                        SV.int IntKind.i64 (E.v 4)],
                    wr := true },
                  {
                    cells :=
                      [SV.int IntKind.i64 (E.v 5), SV.int IntKind.i64 (E.v 6), SV.int IntKind.i64 (E.v 7),
                        SV.int IntKind.i64 (E.v 8), SV.int IntKind.i64 (E.n 0)],
                    wr := true },
                  {
                    cells :=
                      [SV.int IntKind.i64 (E.v 1), SV.int IntKind.i64 (E.v 2), SV.int IntKind.i64 (E.v 3),
                        SV.int IntKind.i64 (E.v 4)],
                    wr := true },
                  {
                    cells :=
                      [SV.int IntKind.i64 (E.v 5), SV.int IntKind.i64 (E.v 6), SV.int IntKind.i64 (E.v 7),
                        SV.int IntKind.i64 (E.v 8), SV.int IntKind.i64 (E.n 0)],
                    wr := true },
                  {
                    cells :=
                      [SV.int IntKind.i64 (E.v 1), SV.int IntKind.i64 (E.v 2), SV.int IntKind.i64 (E.v 3),
                        SV.int IntKind.i64 (E.v 4)],
                    wr := true },
                  {
                    cells :=
                      [SV.int IntKind.i64 (E.v 5), SV.int IntKind.i64 (E.v 6), SV.int IntKind.i64 (E.v 7),
                        SV.int IntKind.i64 (E.v 8), SV.int IntKind.i64 (E.n 0)],
                    wr := true },
                  {
                    cells :=
                      [SV.int IntKind.i64 (E.v 1), SV.int IntKind.i64 (E.v 2), SV.int IntKind.i64 (E.v 3),
                        SV.int IntKind.i64 (E.v 4)],
                    wr := true },
                  {
                    cells :=
                      [SV.int IntKind.i64 (E.v 5), SV.int IntKind.i64 (E.v 6), SV.int IntKind.i64 (E.v 7),
                        SV.int IntKind.i64 (E.v 8), SV.int IntKind.i64 (E.n 0)],
                    wr := true },
                  {
                    cells :=
                      [SV.int IntKind.i64 (E.v 1), SV.int IntKind.i64 (E.v 2), SV.int IntKind.i64 (E.v 3),
                        SV.int IntKind.i64 (E.v 4)],
                    wr := true },
                  { cells := [SV.int IntKind.i64 (E.v 1), SV.int IntKind.i64 (E.v 2)], wr := true },
                  { cells := [SV.int IntKind.i64 (E.v 1), SV.int IntKind.i64 (E.v 2)], wr := true },
                  {
                    cells :=
                      [SV.int IntKind.i64 (E.v 1), SV.int IntKind.i64 (E.v 2), SV.int IntKind.i64 (E.v 3),
                        SV.int IntKind.i64 (E.v 4)],
                    wr := true },
                  {
                    cells :=
                      [SV.int IntKind.i64 (E.v 1), SV.int IntKind.i64 (E.v 2), SV.int IntKind.i64 (E.v 3),
                        SV.int IntKind.i64 (E.v 4)],
                    wr := true },
                  {
                    cells :=
                      [SV.int IntKind.i64 (E.v 5), SV.int IntKind.i64 (E.v 6), SV.int IntKind.i64 (E.v 7),
                        SV.int IntKind.i64 (E.v 8), SV.int IntKind.i64 (E.n 0)],
                    wr := true },
                  {
                    cells :=
                      [SV.int IntKind.i64 (E.v 1), SV.int IntKind.i64 (E.v 2), SV.int IntKind.i64 (E.v 3),
                        SV.int IntKind.i64 (E.v 4)],
                    wr := true },
                  {
                    cells :=
                      [SV.int IntKind.i64 (E.v 5), SV.int IntKind.i64 (E.v 6), SV.int IntKind.i64 (E.v 7),
                        SV.int IntKind.i64 (E.v 8), SV.int IntKind.i64 (E.n 0)],
                    wr := true },
                  {
                    cells :=
                      [SV.int IntKind.i64 (E.v 1), SV.int IntKind.i64 (E.v 2), SV.int IntKind.i64 (E.v 3),
                        SV.int IntKind.i64 (E.v 4)],
                    wr := true },
                  {
                    cells :=
                      [SV.int IntKind.i64 (E.v 5), SV.int IntKind.i64 (E.v 6), SV.int IntKind.i64 (E.v 7),
                        SV.int IntKind.i64 (E.v 8), SV.int IntKind.i64 (E.n 0)],
                    wr := true },
                  {
                    cells :=
                      [SV.int IntKind.i64 (E.v 1), SV.int IntKind.i64 (E.v 2), SV.int IntKind.i64 (E.v 3),
                        SV.int IntKind.i64 (E.v 4)],
                    wr := true },
                  { cells := [SV.int IntKind.i64 (E.v 1), SV.int IntKind.i64 (E.v 2)], wr := true },
                  { cells := [SV.int IntKind.i64 (E.v 1), SV.int IntKind.i64 (E.v 2)], wr := true },
                  {
                    cells :=
                      [SV.int IntKind.i64 (E.v 1), SV.int IntKind.i64 (E.v 2), SV.int IntKind.i64 (E.v 3),
                        SV.int IntKind.i64 (E.v 4)],
                    wr := true },
                  {
                    cells :=
                      [SV.int IntKind.i64 (E.v 1), SV.int IntKind.i64 (E.v 2), SV.int IntKind.i64 (E.v 3),
                        SV.int IntKind.i64 (E.v 4)],
                    wr := true },
                  {
                    cells :=
                      [SV.int IntKind.i64 (E.v 5), SV.int IntKind.i64 (E.v 6), SV.int IntKind.i64 (E.v 7),
                        SV.int IntKind.i64 (E.v 8), SV.int IntKind.i64 (E.n 0)],
                    wr := true },
                  {
                    cells :=
                      [SV.int IntKind.i64 (E.v 1), SV.int IntKind.i64 (E.v 2), SV.int IntKind.i64 (E.v 3),
                        SV.int IntKind.i64 (E.v 4)],
                    wr := true },
                  {
                    cells :=
                      [SV.int IntKind.i64 (E.v 5), SV.int IntKind.i64 (E.v 6), SV.int IntKind.i64 (E.v 7),
                        SV.int IntKind.i64 (E.v 8), SV.int IntKind.i64 (E.n 0)],
                    wr := true },
                  {
                    cells :=
                      [SV.int IntKind.i64 (E.v 1), SV.int IntKind.i64 (E.v 2), SV.int IntKind.i64 (E.v 3),
                        SV.int IntKind.i64 (E.v 4)],
                    wr := true },
                  { cells := [SV.int IntKind.i64 (E.v 1), SV.int IntKind.i64 (E.v 2)], wr := true },
                  { cells := [SV.int IntKind.i64 (E.v 1), SV.int IntKind.i64 (E.v 2)], wr := true },
                  {
                    cells :=
                      [SV.int IntKind.i64 (E.v 1), SV.int IntKind.i64 (E.v 2), SV.int IntKind.i64 (E.v 3),
                        SV.int IntKind.i64 (E.v 4)],
                    wr := true },
                  {
                    cells :=
                      [SV.int IntKind.i64 (E.v 5), SV.int IntKind.i64 (E.v 6), SV.int IntKind.i64 (E.v 7),
                        SV.int IntKind.i64 (E.v 8), SV.int IntKind.i64 (E.n 0)],
                    wr := true },
                  { cells := [SV.int IntKind.i64 (E.v 10)], wr := true },
                  {
                    cells :=
                      [SV.int IntKind.i64 (E.v 1), SV.int IntKind.i64 (E.v 2), SV.int IntKind.i64 (E.v 3),
                        SV.int IntKind.i64 (E.v 4)],
                    wr := true },
                  {
                    cells :=
                      [SV.int IntKind.i64 (E.v 5), SV.int IntKind.i64 (E.v 6), SV.int IntKind.i64 (E.v 7),
                        SV.int IntKind.i64 (E.v 8), SV.int IntKind.i64 (E.n 0)],
                    wr := true },
                  {
                    cells :=
                      [SV.int IntKind.i64 (E.v 1), SV.int IntKind.i64 (E.v 2), SV.int IntKind.i64 (E.v 3),
                        SV.int IntKind.i64 (E.v 4)],
                    wr := true },
                  {
                    cells :=
                      [SV.int IntKind.i64 (E.v 5), SV.int IntKind.i64 (E.v 6), SV.int IntKind.i64 (E.v 7),
                        SV.int IntKind.i64 (E.v 8), SV.int IntKind.i64 (E.n 0)],
                    wr := true },
                  {
                    cells :=
                      [SV.int IntKind.i64 (E.v 1), SV.int IntKind.i64 (E.v 2), SV.int IntKind.i64 (E.v 3),
                        SV.int IntKind.i64 (E.v 4)],
                    wr := true },
                  {
                    cells :=
                      [SV.int IntKind.i64 (E.v 5), SV.int IntKind.i64 (E.v 6), SV.int IntKind.i64 (E.v 7),
                        SV.int IntKind.i64 (E.v 8), SV.int IntKind.i64 (E.n 0)],
                    wr := true },
                  {
                    cells :=
                      [SV.int IntKind.i64 (E.v 1), SV.int IntKind.i64 (E.v 2), SV.int IntKind.i64 (E.v 3),
                        SV.int IntKind.i64 (E.v 4)],
                    wr := true },
                  { cells := [SV.int IntKind.i64 (E.v 1), SV.int IntKind.i64 (E.v 2)], wr := true },
                  { cells := [SV.int IntKind.i64 (E.v 1), SV.int IntKind.i64 (E.v 2)], wr := true },
                  {
                    cells :=
                      [SV.int IntKind.i64 (E.v 1), SV.int IntKind.i64 (E.v 2), SV.int IntKind.i64 (E.v 3),
                        SV.int IntKind.i64 (E.v 4)],
                    wr := true }]
                (SV.bool (B.v 0)) { ni := 0, nb := 1, nv := 0, nj := 0, bd := [], sl := [], sk := [] }
                (T.ret (SV.bool (B.v 0))))))
          (T.call false 25 [SV.var 1, SV.int IntKind.i64 (E.n 100)]
            [{
                cells :=
                  [SV.int IntKind.i64 (E.v 1), SV.int IntKind.i64 (E.v 2), SV.int IntKind.i64 (E.v 3),
                    SV.int IntKind.i64 (E.v 4)],
                wr := true },
              {
                cells :=
                  [SV.int IntKind.i64 (E.v 5), SV.int IntKind.i64 (E.v 6), SV.int IntKind.i64 (E.v 7),
                    SV.int IntKind.i64 (E.v 8), SV.int IntKind.i64 (E.n 0)],
                wr := true },
              {
                cells :=
                  [SV.int IntKind.i64 (E.v 1), SV.int IntKind.i64 (E.v 2), SV.int IntKind.i64 (E.v 3),
                    SV.int IntKind.i64 (E.v 4)],
                wr := true },
              {
                cells :=
                  [SV.int IntKind.i64 (E.v 5), SV.int IntKind.i64 (E.v 6), SV.int IntKind.i64 (E.v 7),
                    SV.int IntKind.i64 (E.v 8), SV.int IntKind.i64 (E.n 0)],
                wr := true },
              {
                cells :=
                  [SV.int IntKind.i64 (E.v 1), SV.int IntKind.i64 (E.v 2), SV.int IntKind.i64 (E.v 3),
                    SV.int IntKind.i64 (E.v 4)],
                wr := true },
              {
                cells :=
                  [SV.int IntKind.i64 (E.v 5), SV.int IntKind.i64 (E.v 6), SV.int IntKind.i64 (E.v 7),
                    SV.int IntKind.i64 (E.v 8), SV.int IntKind.i64 (E.n 0)],
                wr := true },
              {
                cells :=
                  [SV.int IntKind.i64 (E.v 1), SV.int IntKind.i64 (E.v 2), SV.int IntKind.i64 (E.v 3),
                    SV.int IntKind.i64 (E.v 4)],
                wr := true },
              {
                cells :=
                  [SV.int IntKind.i64 (E.v 5), SV.int IntKind.i64 (E.v 6), SV.int IntKind.i64 (E.v 7),
                    SV.int IntKind.i64 (E.v 8), SV.int IntKind.i64 (E.n 0)],
                wr := true },
              {
                cells :=
                  [SV.int IntKind.i64 (E.v 1), SV.int IntKind.i64 (E.v 2), SV.int IntKind.i64 (E.v 3),
                    SV.int IntKind.i64 (E.v 4)],
                wr := true },
              { cells := [SV.int IntKind.i64 (E.v 1), SV.int IntKind.i64 (E.v 2)], wr := true },
              { cells := [SV.int IntKind.i64 (E.v 1), SV.int IntKind.i64 (E.v 2)], wr := true },
              {
                cells :=
                  [SV.int IntKind.i64 (E.v 1), SV.int IntKind.i64 (E.v 2), SV.int IntKind.i64 (E.v 3),
                    SV.int IntKind.i64 (E.v 4)],
                wr := true },
              {
                cells :=
                  [SV.int IntKind.i64 (E.v 1), SV.int IntKind.i64 (E.v 2), SV.int IntKind.i64 (E.v 3),
                    SV.int IntKind.i64 (E.v 4)],
                wr := true },
              {
                cells :=
                  [SV.int IntKind.i64 (E.v 5), SV.int IntKind.i64 (E.v 6), SV.int IntKind.i64 (E.v 7),
                    SV.int IntKind.i64 (E.v 8), SV.int IntKind.i64 (E.n 0)],
                wr := true },
              {
                cells :=
                  [SV.int IntKind.i64 (E.v 1), SV.int IntKind.i64 (E.v 2), SV.int IntKind.i64 (E.v 3),
                    SV.int IntKind.i64 (E.v 4)],
                wr := true },
              {
                cells :=
                  [SV.int IntKind.i64 (E.v 5), SV.int IntKind.i64 (E.v 6), SV.int IntKind.i64 (E.v 7),
                    SV.int IntKind.i64 (E.v 8), SV.int IntKind.i64 (E.n 0)],
                wr := true },
              {
                cells :=
                  [SV.int IntKind.i64 (E.v 1), SV.int IntKind.i64 (E.v 2), SV.int IntKind.i64 (E.v 3),
                    SV.int IntKind.i64 (E.v 4)],
                wr := true },
              {
                cells :=
                  [SV.int IntKind.i64 (E.v 5), SV.int IntKind.i64 (E.v 6), SV.int IntKind.i64 (E.v 7),
                    SV.int IntKind.i64 (E.v 8), SV.int IntKind.i64 (E.n 0)],
                wr := true },
              {
                cells :=
                  [SV.int IntKind.i64 (E.v 1), SV.int IntKind.i64 (E.v 2), SV.int IntKind.i64 (E.v 3),
                    SV.int IntKind.i64 (E.v 4)],
                wr := true },
              { cells := [SV.int IntKind.i64 (E.v 1), SV.int IntKind.i64 (E.v 2)], wr := true },
              { cells := [SV.int IntKind.i64 (E.v 1), SV.int IntKind.i64 (E.v 2)], wr := true },
              {
                cells :=
                  [SV.int IntKind.i64 (E.v 1), SV.int IntKind.i64 (E.v 2), SV.int IntKind.i64 (E.v 3),
                    SV.int IntKind.i64 (E.v 4)],
                wr := true },
              {
                cells :=
                  [SV.int IntKind.i64 (E.v 1), SV.int IntKind.i64 (E.v 2), SV.int IntKind.i64 (E.v 3),
                    SV.int IntKind.i64 (E.v 4)],
                wr := true },
              {
                cells :=
                  [SV.int IntKind.i64 (E.v 5), SV.int IntKind.i64 (E.v 6), SV.int IntKind.i64 (E.v 7),
                    SV.int IntKind.i64 (E.v 8), SV.int IntKind.i64 (E.n 0)],
                wr := true },
              {
                cells :=
                  [SV.int IntKind.i64 (E.v 1), SV.int IntKind.i64 (E.v 2), SV.int IntKind.i64 (E.v 3),
                    SV.int IntKind.i64 (E.v 4)],
                wr := true },
              {
                cells :=
                  [SV.int IntKind.i64 (E.v 5), SV.int IntKind.i64 (E.v 6), SV.int IntKind.i64 (E.v 7),
                    SV.int IntKind.i64 (E.v 8), SV.int IntKind.i64 (E.n 0)],
                wr := true },
              {
                cells :=
                  [SV.int IntKind.i64 (E.v 1), SV.int IntKind.i64 (E.v 2), SV.int IntKind.i64 (E.v 3),
                    SV.int IntKind.i64 (E.v 4)],
                wr := true },
              { cells := [SV.int IntKind.i64 (E.v 1), SV.int IntKind.i64 (E.v 2)], wr := true },
              { cells := [SV.int IntKind.i64 (E.v 1), SV.int IntKind.i64 (E.v 2)], wr := true }]
            (SV.int IntKind.i64 (E.v 10))
            { ni := 1, nb := 0, nv := 0, nj := 0, bd := [some (0, 4611686018427387904)], sl := [],
              sk := [] }
            (T.ite (B.lt (E.n 1000) (E.v 10))
              (T.call true 35 []
                [{
                    cells :=
                      [SV.int IntKind.i64 (E.v 1), SV.int IntKind.i64 (E.v 2), SV.int IntKind.i64 (E.v 3),
                        SV.int IntKind.i64 (E.v 4)],
                    wr := true },
                  {
                    cells :=
                      [SV.int IntKind.i64 (E.v 5), SV.int IntKind.i64 (E.v 6), SV.int IntKind.i64 (E.v 7),
                        SV.int IntKind.i64 (E.v 8), SV.int IntKind.i64 (E.n 0)],
                    wr := true },
                  {
                    cells :=
                      [SV.int IntKind.i64 (E.v 1), SV.int IntKind.i64 (E.v 2), SV.int IntKind.i64 (E.v 3),
                        SV.int IntKind.i64 (E.v 4)],
                    wr := true },
                  {
                    cells :=
                      [SV.int IntKind.i64 (E.v 5), SV.int IntKind.i64 (E.v 6), SV.int IntKind.i64 (E.v 7),
                        SV.int IntKind.i64 (E.v 8), SV.int IntKind.i64 (E.n 0)],
                    wr := true },
                  {
                    cells :=
                      [SV.int IntKind.i64 (E.v 1), SV.int IntKind.i64 (E.v 2), SV.int IntKind.i64 (E.v 3),
                        SV.int IntKind.i64 (E.v 4)],
                    wr := true },
                  {
                    cells :=
                      [SV.int IntKind.i64 (E.v 5), SV.int IntKind.i64 (E.v 6), SV.int IntKind.i64 (E.v 7),
                        SV.int IntKind.i64 (E.v 8), SV.int IntKind.i64 (E.n 0)],
                    wr := true },
                  {
                    cells :=
                      [SV.int IntKind.i64 (E.v 1), SV.int IntKind.i64 (E.v 2), SV.int IntKind.i64 (E.v 3),
                        SV.int IntKind.i64 (E.v 4)],
                    wr := true },
                  {
                    cells :=
                      [SV.int IntKind.i64 (E.v 5), SV.int IntKind.i64 (E.v 6), SV.int IntKind.i64 (E.v 7),
                        SV.int IntKind.i64 (E.v 8), SV.int IntKind.i64 (E.n 0)],
                    wr := true },
                  {
                    cells :=
                      [SV.int IntKind.i64 (E.v 1), SV.int IntKind.i64 (E.v 2), SV.int IntKind.i64 (E.v 3),
                        SV.int IntKind.i64 (E.v 4)],
                    wr := true },
                  { cells := [SV.int IntKind.i64 (E.v 1), SV.int IntKind.i64 (E.v 2)], wr := true },
                  { cells := [SV.int IntKind.i64 (E.v 1), SV.int IntKind.i64 (E.v 2)], wr := true },
                  {
                    cells :=
                      [SV.int IntKind.i64 (E.v 1), SV.int IntKind.i64 (E.v 2), SV.int IntKind.i64 (E.v 3),
                        SV.int IntKind.i64 (E.v 4)],
                    wr := true },
                  {
                    cells :=
                      [SV.int IntKind.i64 (E.v 1), SV.int IntKind.i64 (E.v 2), SV.int IntKind.i64 (E.v 3),
                        SV.int IntKind.i64 (E.v 4)],
                    wr := true },
                  {
                    cells :=
                      [SV.int IntKind.i64 (E.v 5), SV.int IntKind.i64 (E.v 6), SV.int IntKind.i64 (E.v 7),
                        SV.int IntKind.i64 (E.v 8), SV.int IntKind.i64 (E.n 0)],
                    wr := true },
                  {
                    cells :=
                      [SV.int IntKind.i64 (E.v 1), SV.int IntKind.i64 (E.v 2), SV.int IntKind.i64 (E.v 3),
                        SV.int IntKind.i64 (E.v 4)],
                    wr := true },
                  {
                    cells :=
                      [SV.int IntKind.i64 (E.v 5), SV.int IntKind.i64 (E.v 6), SV.int IntKind.i64 (E.v 7),
                        SV.int IntKind.i64 (E.v 8), SV.int IntKind.i64 (E.n 0)],
                    wr := true },
                  {
                    cells :=
                      [SV.int IntKind.i64 (E.v 1), SV.int IntKind.i64 (E.v 2), SV.int IntKind.i64 (E.v 3),
                        SV.int IntKind.i64 (E.v 4)],
                    wr := true },
                  {
                    cells :=
                      [SV.int IntKind.i64 (E.v 5), SV.int IntKind.i64 (E.v 6), SV.int IntKind.i64 (E.v 7),
                        SV.int IntKind.i64 (E.v 8), SV.int IntKind.i64 (E.n 0)],
                    wr := true },
                  {
                    cells :=
                      [SV.int IntKind.i64 (E.v 1), SV.int IntKind.i64 (E.v 2), SV.int IntKind.i64 (E.v 3),
                        SV.int IntKind.i64 (E.v 4)],
                    wr := true },
                  { cells := [SV.int IntKind.i64 (E.v 1), SV.int IntKind.i64 (E.v 2)], wr := true },
                  { cells := [SV.int IntKind.i64 (E.v 1), SV.int IntKind.i64 (E.v 2)], wr := true },
                  {
                    cells :=
                      [SV.int IntKind.i64 (E.v 1), SV.int IntKind.i64 (E.v 2), SV.int IntKind.i64 (E.v 3),
                        SV.int IntKind.i64 (E.v 4)],
                    wr := true },
                  {
                    cells :=
                      [SV.int IntKind.i64 (E.v 1), SV.int IntKind.i64 (E.v 2), SV.int IntKind.i64 (E.v 3),
                        SV.int IntKind.i64 (E.v 4)],
                    wr := true },
                  {
                    cells :=
                      [SV.int IntKind.i64 (E.v 5), SV.int IntKind.i64 (E.v 6), SV.int IntKind.i64 (E.v 7),
                        SV.int IntKind.i64 (E.v 8), SV.int IntKind.i64 (E.n 0)],
                    wr := true },
                  {
                    cells :=
                      [SV.int IntKind.i64 (E.v 1), SV.int IntKind.i64 (E.v 2), SV.int IntKind.i64 (E.v 3),
                        SV.int IntKind.i64 (E.v 4)],
                    wr := true },
                  {
                    cells :=
                      [SV.int IntKind.i64 (E.v 5), SV.int IntKind.i64 (E.v 6), SV.int IntKind.i64 (E.v 7),
                        SV.int IntKind.i64 (E.v 8), SV.int IntKind.i64 (E.n 0)],
                    wr := true },
                  {
                    cells :=
                      [SV.int IntKind.i64 (E.v 1), SV.int IntKind.i64 (E.v 2), SV.int IntKind.i64 (E.v 3),
                        SV.int IntKind.i64 (E.v 4)],
                    wr := true },
                  { cells := [SV.int IntKind.i64 (E.v 1), SV.int IntKind.i64 (E.v 2)], wr := true },
                  { cells := [SV.int IntKind.i64 (E.v 1), SV.int IntKind.i64 (E.v 2)], wr := true },
                  {
                    cells :=
                      [SV.int IntKind.i64 (E.v 1), SV.int IntKind.i64 (E.v 2), SV.int IntKind.i64 (E.v 3),
                        SV.int IntKind.i64 (E.v 4)],
                    wr := true },
                  {
                    cells :=
                      [SV.int IntKind.i64 (E.v 5), SV.int IntKind.i64 (E.v 6), SV.int IntKind.i64 (E.v 7),
                        SV.int IntKind.i64 (E.v 8), SV.int IntKind.i64 (E.n 0)],
                    wr := true },
                  { cells := [SV.int IntKind.i64 (E.v 10)], wr := true }]
                (SV.bool (B.v 0)) { ni := 0, nb := 1, nv := 0, nj := 0, bd := [], sl := [], sk := [] }
                (T.ret (SV.bool (B.v 0))))
              (T.call true 35 []
                [{
                    cells :=
                      [SV.int IntKind.i64 (E.v 1), SV.int IntKind.i64 (E.v 2), SV.int IntKind.i64 (E.v 3),
                        SV.int IntKind.i64 (E.v 4)],
                    wr := true },
                  {
                    cells :=
                      [SV.int IntKind.i64 (E.v 5), SV.int IntKind.i64 (E.v 6), SV.int IntKind.i64 (E.v 7),
                        SV.int IntKind.i64 (E.v 8), SV.int IntKind.i64 (E.n 0)],
                    wr := true },
                  {
                    cells :=
                      [SV.int IntKind.i64 (E.v 1), SV.int IntKind.i64 (E.v 2), SV.int IntKind.i64 (E.v 3),
                        SV.int IntKind.i64 (E.v 4)],
                    wr := true },
                  {
                    cells :=
                      [SV.int IntKind.i64 (E.v 5), SV.int IntKind.i64 (E.v 6), SV.int IntKind.i64 (E.v 7),
                        SV.int IntKind.i64 (E.v 8), SV.int IntKind.i64 (E.n 0)],
                    wr := true },
                  {
                    cells :=
                      [SV.int IntKind.i64 (E.v 1), SV.int IntKind.i64 (E.v 2), SV.int IntKind.i64 (E.v 3),
                        SV.int IntKind.i64 (E.v 4)],
                    wr := true },
                  {
                    cells :=
                      [SV.int IntKind.i64 (E.v 5), SV.int IntKind.i64 (E.v 6), SV.int IntKind.i64 (E.v 7),
                        SV.int IntKind.i64 (E.v 8), SV.int IntKind.i64 (E.n 0)],
                    wr := true },
                  {
                    cells :=
                      [SV.int IntKind.i64 (E.v 1), SV.int IntKind.i64 (E.v 2), SV.int IntKind.i64 (E.v 3),
                        SV.int IntKind.i64 (E.v 4)],
                    wr := true },
                  {
                    cells :=
                      [SV.int IntKind.i64 (E.v 5), SV.int IntKind.i64 (E.v 6), SV.int IntKind.i64 (E.v 7),
                        SV.int IntKind.i64 (E.v 8), SV.int IntKind.i64 (E.n 0)],
                    wr := true },
                  {
                    cells :=
                      [SV.int IntKind.i64 (E.v 1), SV.int IntKind.i64 (E.v 2), SV.int IntKind.i64 (E.v 3),
                        SV.int IntKind.i64 (E.v 4)],
                    wr := true },
                  { cells := [SV.int IntKind.i64 (E.v 1), SV.int IntKind.i64 (E.v 2)], wr := true },
                  { cells := [SV.int IntKind.i64 (E.v 1), SV.int IntKind.i64 (E.v 2)], wr := true },
                  {
                    cells :=
                      [SV.int IntKind.i64 (E.v 1), SV.int IntKind.i64 (E.v 2), SV.int IntKind.i64 (E.v 3),
                        SV.int IntKind.i64 (E.v 4)],
                    wr := true },
                  {
                    cells :=
                      [SV.int IntKind.i64 (E.v 1), SV.int IntKind.i64 (E.v 2), SV.int IntKind.i64 (E.v 3),
                        SV.int IntKind.i64 (E.v 4)],
                    wr := true },
                  {
                    cells :=
                      [SV.int IntKind.i64 (E.v 5), SV.int IntKind.i64 (E.v 6), SV.int IntKind.i64 (E.v 7),
                        SV.int IntKind.i64 (E.v 8), SV.int IntKind.i64 (E.n 0)],
                    wr := true },
                  {
                    cells :=
                      [SV.int IntKind.i64 (E.v 1), SV.int IntKind.i64 (E.v 2), SV.int IntKind.i64 (E.v 3),
                        SV.int IntKind.i64 (E.v 4)],
                    wr := true },
                  {
                    cells :=
                      [SV.int IntKind.i64 (E.v 5), SV.int IntKind.i64 (E.v 6), SV.int IntKind.i64 (E.v 7),
                        SV.int IntKind.i64 (E.v 8), SV.int IntKind.i64 (E.n 0)],
                    wr := true },
                  {
                    cells :=
                      [SV.int IntKind.i64 (E.v 1), SV.int IntKind.i64 (E.v 2), SV.int IntKind.i64 (E.v 3),
                        SV.int IntKind.i64 (E.v 4)],
                    wr := true },
                  {
                    cells :=
                      [SV.int IntKind.i64 (E.v 5), SV.int IntKind.i64 (E.v 6), SV.int IntKind.i64 (E.v 7),
                        SV.int IntKind.i64 (E.v 8), SV.int IntKind.i64 (E.n 0)],
                    wr := true },
                  {
                    cells :=
                      [SV.int IntKind.i64 (E.v 1), SV.int IntKind.i64 (E.v 2), SV.int IntKind.i64 (E.v 3),
                        SV.int IntKind.i64 (E.v 4)],
                    wr := true },
                  { cells := [SV.int IntKind.i64 (E.v 1), SV.int IntKind.i64 (E.v 2)], wr := true },
                  { cells := [SV.int IntKind.i64 (E.v 1), SV.int IntKind.i64 (E.v 2)], wr := true },
                  {
                    cells :=
                      [SV.int IntKind.i64 (E.v 1), SV.int IntKind.i64 (E.v 2), SV.int IntKind.i64 (E.v 3),
                        SV.int IntKind.i64 (E.v 4)],
                    wr := true },
                  {
                    cells :=
                      [SV.int IntKind.i64 (E.v 1), SV.int IntKind.i64 (E.v 2), SV.int IntKind.i64 (E.v 3),
                        SV.int IntKind.i64 (E.v 4)],
                    wr := true },
                  {
                    cells :=
                      [SV.int IntKind.i64 (E.v 5), SV.int IntKind.i64 (E.v 6), SV.int IntKind.i64 (E.v 7),
                        SV.int IntKind.i64 (E.v 8), SV.int IntKind.i64 (E.n 0)],
                    wr := true },
                  {
                    cells :=
                      [SV.int IntKind.i64 (E.v 1), SV.int IntKind.i64 (E.v 2), SV.int IntKind.i64 (E.v 3),
                        SV.int IntKind.i64 (E.v 4)],
                    wr := true },
                  {
                    cells :=
                      [SV.int IntKind.i64 (E.v 5), SV.int IntKind.i64 (E.v 6), SV.int IntKind.i64 (E.v 7),
                        SV.int IntKind.i64 (E.v 8), SV.int IntKind.i64 (E.n 0)],
                    wr := true },
                  {
                    cells :=
                      [SV.int IntKind.i64 (E.v 1), SV.int IntKind.i64 (E.v 2), SV.int IntKind.i64 (E.v 3),
                        SV.int IntKind.i64 (E.v 4)],
                    wr := true },
                  { cells := [SV.int IntKind.i64 (E.v 1), SV.int IntKind.i64 (E.v 2)], wr := true },
                  { cells := [SV.int IntKind.i64 (E.v 1), SV.int IntKind.i64 (E.v 2)], wr := true },
                  {
                    cells :=
                      [SV.int IntKind.i64 (E.v 1), SV.int IntKind.i64 (E.v 2), SV.int IntKind.i64 (E.v 3),
                        SV.int IntKind.i64 (E.v 4)],
                    wr := true },
                  {
                    cells :=
                      [SV.int IntKind.i64 (E.v 5), SV.int IntKind.i64 (E.v 6), SV.int IntKind.i64 (E.v 7),
                        SV.int IntKind.i64 (E.v 8), SV.int IntKind.i64 (E.n 0)],
                    wr := true },
                  { cells := [SV.int IntKind.i64 (E.v 10)], wr := true },
                  {
                    cells :=
                      [SV.int IntKind.i64 (E.v 1), SV.int IntKind.i64 (E.v 2), SV.int IntKind.i64 (E.v 3),
                        SV.int IntKind.i64 (E.v 4)],
                    wr := true },
                  {
                    cells :=
                      [SV.int IntKind.i64 (E.v 5), SV.int IntKind.i64 (E.v 6), SV.int IntKind.i64 (E.v 7),
                        SV.int IntKind.i64 (E.v 8), SV.int IntKind.i64 (E.n 0)],
                    wr := true },
                  {
                    cells :=
                      [SV.int IntKind.i64 (E.v 1), SV.int IntKind.i64 (E.v 2), SV.int IntKind.i64 (E.v 3),
                        SV.int IntKind.i64 (E.v 4)],
                    wr := true },
                  {
                    cells :=
                      [SV.int IntKind.i64 (E.v 5), SV.int IntKind.i64 (E.v 6), SV.int IntKind.i64 (E.v 7),
                        SV.int IntKind.i64 (E.v 8), SV.int IntKind.i64 (E.n 0)],
                    wr := true },
                  {
                    cells :=
                      [SV.int IntKind.i64 (E.v 1), SV.int IntKind.i64 (E.v 2), SV.int IntKind.i64 (E.v 3),
                        SV.int IntKind.i64 (E.v 4)],
                    wr := true },
                  {
                    cells :=
                      [SV.int IntKind.i64 (E.v 5), SV.int IntKind.i64 (E.v 6), SV.int IntKind.i64 (E.v 7),
                        SV.int IntKind.i64 (E.v 8), SV.int IntKind.i64 (E.n 0)],
                    wr := true },
                  {
                    cells :=
                      [SV.int IntKind.i64 (E.v 1), SV.int IntKind.i64 (E.v 2), SV.int IntKind.i64 (E.v 3),
                        SV.int IntKind.i64 (E.v 4)],
                    wr := true },
                  { cells := [SV.int IntKind.i64 (E.v 1), SV.int IntKind.i64 (E.v 2)], wr := true },
                  { cells := [SV.int IntKind.i64 (E.v 1), SV.int IntKind.i64 (E.v 2)], wr := true },
                  {
                    cells :=
                      [SV.int IntKind.i64 (E.v 1), SV.int IntKind.i64 (E.v 2), SV.int IntKind.i64 (E.v 3),
                        SV.int IntKind.i64 (E.v 4)],
                    wr := true }]
                (SV.bool (B.v 0)) { ni := 0, nb := 1, nv := 0, nj := 0, bd := [], sl := [], sk := [] }
                (T.ret (SV.bool (B.v 0))))))))))
set_option maxRecDepth 100000 in
theorem now_t : runS Go.Proofs.Try.prog now_Z 14 = now_T := by kernel_rfl
theorem CircleNowhere_walk (v : Value) (zs : List Int) (w : World) (h : IntsIn w w.heap.size v .i64 zs) (hz : ∀ z ∈ zs, (Lit.int .i64 z).wf = true) :
    Calls Try.prog 14 #[v] w fun e w' => e = .returned (.bool true) ∧ Below w.heap.size w w' :=
  fixed now_t ⟨[(zs.length : Int)], [], [v]⟩ rfl rfl rfl ⟨len_bd h, trivial⟩ (sl1 h) (skL h) w (.bool true) (by
    unfold now_T
    refine ⟨fun _ => saneNode keeps_below rfl rfl, fun _ => ?_⟩
    refine newNode rfl rfl h hz fun b => ?_
    refine circNode (Nat.le_refl _) ⟨rfl, rfl, rfl, rfl⟩ rfl (fun x y l r k => ⟨k.1, k.2.1, by have := k.2.2; omega, by have := k.2.2; omega, trivial⟩) fun c0 c1 c2 c3 hc => ?_
    refine estiNode (Nat.le_refl _) ⟨rfl, rfl, rfl, rfl, rfl⟩ rfl (fun x y l r k => ⟨k.1, k.2.1, k.2.2.1, k.2.2.2, trivial⟩) fun e0 e1 e2 e3 he => ?_
    refine ⟨fun _ => ?_, fun _ => ?_⟩
    all_goals
      refine nNode (Nat.le_refl _) rfl rfl (by simp only [E.den, B.den, SV.den, SV.dens, List.getD_cons_zero, List.getD_cons_succ, List.cons_append, List.nil_append, List.append_nil, List.map_cons, List.map_nil, List.length_cons, List.length_nil]; omega) (fun z hz => inN_bd (by simp only [E.den, B.den, SV.den, SV.dens, List.getD_cons_zero, List.getD_cons_succ, List.cons_append, List.nil_append, List.append_nil, List.map_cons, List.map_nil, List.length_cons, List.length_nil]; omega) hz) fun z hz => ?_
      exact ⟨fun _ => saneNode keeps_src rfl rfl, fun _ => saneNode keeps_src rfl rfl⟩)
end Go.Proofs.Ythfagiihfkjamaa
