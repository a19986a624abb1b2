/- ShareExact. -/
import Derived.Test.YtlhnhidoljfnnaaShrY
set_option linter.unusedVariables false
set_option linter.unusedSimpArgs false
namespace Go.Proofs.Ytlhnhidoljfnnaa
open Go.RowKit Fx Sh
def shExa_H : List Hint := [
  ⟨2147479793, 8, [.t [.int .i64, .int .i64, .int .i64] 5], ⟨[.ptr 0 0, .und, .und, .und, .con (.slice none 0 0), .var 6, .int .i64 (.V 11), .und, .und, .und, .und, .und, .und, .und, .und, .und, .und, .und, .und, .und, .und, .und, .und, .und, .und, .und, .und, .und, .und, .und, .und], [.fix [.var 7, .int .i64 (.V 10)] true, .rows [.int .i64, .int .i64, .int .i64] (.V 8) 6], 12, 8, [none, none, none, none, none, none, none, none, none, none, none, none], [], [⟨0, [.int .i64], (.V 0)⟩, ⟨1, [.int .i64, .int .i64, .int .i64], (.V 1)⟩, ⟨2, [.int .i64], (.V 3)⟩, ⟨3, [.int .i64], (.take (.V 0) (.mn (.len (.V 0)) (.N 600)))⟩, ⟨4, [.int .i64], (.V 6)⟩, ⟨7, [.int .i64], (.V 9)⟩]⟩⟩,
  ⟨2147479793, 14, [.t [.int .i64, .int .i64, .int .i64] 5], ⟨[.ptr 0 0, .und, .und, .und, .con (.slice none 0 0), .var 10, .int .i64 (.V 17), .und, .und, .und, .und, .und, .und, .und, .und, .und, .und, .und, .und, .und, .und, .und, .und, .und, .und, .und, .und, .und, .und, .und, .und], [.fix [.var 11, .int .i64 (.V 16)] true, .rows [.int .i64, .int .i64, .int .i64] (.V 8) 6, .rows [.int .i64, .int .i64, .int .i64] (.V 14) 10], 18, 12, [none, none, none, none, none, none, none, none, none, none, none, none, none, none, none, none, none, none], [], [⟨0, [.int .i64], (.V 0)⟩, ⟨1, [.int .i64, .int .i64, .int .i64], (.V 1)⟩, ⟨2, [.int .i64], (.V 3)⟩, ⟨3, [.int .i64], (.take (.V 0) (.mn (.len (.V 0)) (.N 600)))⟩, ⟨4, [.int .i64], (.V 6)⟩, ⟨7, [.int .i64], (.V 9)⟩, ⟨8, [.int .i64], (.V 12)⟩, ⟨11, [.int .i64], (.V 15)⟩]⟩⟩,
  ⟨2198485328404, 26, [], ⟨[.und, .und, .int .i64 (.V 2), .var 2, .und, .und, .und, .und, .bool (.B false), .ptr 0 0, .und, .und, .und, .und, .und, .und, .und, .und, .und, .und, .und, .und, .und, .und, .und, .und, .und, .und, .und, .und, .und, .und, .und, .und, .und, .und, .und, .und, .und, .und, .und, .und, .und, .und, .und, .und, .und, .und, .und, .und, .und, .und, .und, .und, .und, .und, .und, .und, .und, .und, .und, .und, .und, .und, .und, .und, .und, .und, .agg [.var 6, .var 1, .var 16], .int .i64 (.V 28), .und, .und, .und, .und, .und, .und, .und, .und, .und, .und, .und, .und, .und, .und, .und, .und, .und, .und, .und, .und, .und, .und, .und, .und, .und, .und, .und, .und, .und, .und, .und, .und, .und, .und, .und, .und, .und, .und, .und, .und, .und, .und, .und, .und, .und, .und, .und, .und, .und, .und, .und, .und, .und, .und, .und, .und, .und, .und, .und, .und, .und, .und, .und, .und, .und, .und, .und, .und, .und, .und, .und, .und, .und, .und, .und, .und, .und, .und, .und, .und, .und, .und, .und, .und, .und, .und, .und, .und, .und, .und, .und, .und, .und, .und, .und, .und, .und, .und, .und, .und, .und, .und, .und, .und, .und, .und, .und, .und, .und, .und, .und, .und, .und, .und, .und, .und, .und, .und, .und, .und, .und, .und, .und, .und, .und, .und, .und, .und, .und, .und, .und, .und, .und, .und, .und, .und, .und, .und, .und, .und, .und, .und, .und, .und, .und, .und, .und, .und, .und, .und, .und, .und, .und, .und, .und, .und, .und, .und, .und, .und, .und, .und, .und, .und, .und, .und, .und, .und, .und, .und, .und, .und, .und], [.fix [.var 17, .int .i64 (.V 27)] true, .none, .none, .rows [.int .i64, .int .i64, .int .i64] (.rows [[(.wr .i64 (.add (.N (-9)) (.V 17))), (.wr .i64 (.add (.N (-9)) (.V 20))), (.wr .i64 (.add (.N (-1)) (.V 23)))]]) 15], 29, 18, [none, none, none, none, none, none, none, none, none, none, none, none, none, none, none, none, none, none, none, none, none, none, none, none, none, none, none, none, some (0, 4611686018427387904)], [], [⟨0, [.int .i64], (.V 0)⟩, ⟨1, [.int .i64, .int .i64, .int .i64], (.V 1)⟩, ⟨2, [.int .i64], (.V 3)⟩, ⟨3, [.int .i64], (.take (.V 0) (.mn (.len (.V 0)) (.N 600)))⟩, ⟨4, [.int .i64], (.V 6)⟩, ⟨7, [.int .i64], (.V 9)⟩, ⟨8, [.int .i64], (.V 12)⟩, ⟨11, [.int .i64], (.V 15)⟩, ⟨12, [.int .i64], (.V 18)⟩, ⟨13, [.int .i64], (.V 21)⟩, ⟨14, [.int .i64], (.V 24)⟩, ⟨6, [.int .i64, .int .i64, .int .i64], (.V 8)⟩, ⟨16, [.int .i64, .int .i64, .int .i64], (.app (.V 14) (.rows [[(.wr .i64 (.add (.N (-9)) (.V 17))), (.wr .i64 (.add (.N (-9)) (.V 20))), (.wr .i64 (.add (.N (-1)) (.V 23)))]]))⟩, ⟨17, [.int .i64], (.V 26)⟩]⟩⟩,
  ⟨2198485328404, 53, [], ⟨[.und, .und, .int .i64 (.V 2), .var 2, .und, .und, .und, .und, .bool (.B false), .ptr 0 0, .und, .und, .und, .var 18, .int .i64 (.V 31), .int .i64 (.V 32), .int .i64 (.V 33), .int .i64 (.V 34), .int .i64 (.V 35), .int .i64 (.V 36), .und, .und, .und, .und, .und, .und, .und, .und, .und, .und, .und, .und, .und, .und, .und, .und, .und, .und, .und, .und, .und, .und, .und, .und, .und, .und, .und, .und, .und, .und, .und, .und, .und, .und, .und, .und, .und, .und, .und, .und, .und, .und, .und, .und, .und, .und, .und, .und, .agg [.var 6, .var 1, .var 16], .int .i64 (.V 28), .bool (.lt (.V 28) (.N 3)), .var 19, .tuple [.int .i64 (.V 31), .int .i64 (.V 32), .int .i64 (.V 33)], .var 18, .tuple [.int .i64 (.V 31), .int .i64 (.V 32), .int .i64 (.V 33)], .int .i64 (.V 31), .int .i64 (.V 32), .int .i64 (.V 33), .tuple [.int .i64 (.V 34), .int .i64 (.V 35), .int .i64 (.V 36)], .var 18, .tuple [.int .i64 (.V 34), .int .i64 (.V 35), .int .i64 (.V 36)], .int .i64 (.V 34), .int .i64 (.V 35), .int .i64 (.V 36), .var 18, .int .i64 (.V 37), .var 18, .int .i64 (.V 38), .bool (.V 39), .bool (.V 40), .und, .und, .und, .bool (.V 41), .bool (.V 42), .und, .und, .und, .bool (.V 43), .bool (.V 44), .und, .und, .und, .bool (.V 45), .int .i64 (.V 36), .bool (.eq (.V 36) (.N 0)), .bool (.eq (.V 36) (.N 0)), .und, .und, .und, .und, .bool (.V 46), .int .i64 (.V 2), .ptr 0 0, .int .i64 (.wr .i64 (.add (.N (-40)) (.V 47))), .ptr 0 0, .int .i64 (.at (.rows [[(.N (-1))], [(.N 0)], [(.N 1)], [(.N 4611686018427387904)], [(.N (-4611686018427387904))], [(.N 9223372036854775807)], [(.N (-9223372036854775808))], [(.N 1000000000)], [(.N 1000000001)], [(.N (-1000000001))], [(.N 3600)], [(.N 1800)], [(.N 100000000)], [(.N 100000001)], [(.N 5001)]]) (.V 50) 0), .agg [.int .i64 (.V 2), .int .i64 (.wr .i64 (.add (.N (-40)) (.V 47))), .int .i64 (.at (.rows [[(.N (-1))], [(.N 0)], [(.N 1)], [(.N 4611686018427387904)], [(.N (-4611686018427387904))], [(.N 9223372036854775807)], [(.N (-9223372036854775808))], [(.N 1000000000)], [(.N 1000000001)], [(.N (-1000000001))], [(.N 3600)], [(.N 1800)], [(.N 100000000)], [(.N 100000001)], [(.N 5001)]]) (.V 50) 0)], .int .i64 (.V 55), .und, .und, .und, .und, .und, .und, .und, .und, .und, .und, .und, .und, .und, .und, .und, .und, .und, .und, .und, .und, .und, .und, .und, .und, .und, .und, .und, .und, .und, .und, .und, .und, .und, .und, .und, .und, .und, .und, .und, .und, .und, .und, .und, .und, .und, .und, .und, .und, .und, .und, .und, .und, .und, .und, .und, .und, .und, .und, .und, .und, .und, .und, .und, .und, .und, .und, .und, .und, .und, .und, .und, .und, .und, .und, .und, .und, .und, .und, .und, .und, .und, .und, .und, .und, .und, .und, .und, .und, .und, .und, .und, .und, .und, .und, .und, .und, .und, .und, .und, .und, .und, .und, .und, .und, .und, .und, .und, .und, .und, .und, .und, .und, .und, .und, .und, .und, .und, .und, .und, .und, .und, .und, .und, .und], [.fix [.var 23, .int .i64 (.V 54)] true, .none, .none, .rows [.int .i64, .int .i64, .int .i64] (.rows [[(.wr .i64 (.add (.N (-9)) (.V 17))), (.wr .i64 (.add (.N (-9)) (.V 20))), (.wr .i64 (.add (.N (-1)) (.V 23)))]]) 15, .rows [.int .i64] (.rows [[(.N (-1))], [(.N 0)], [(.N 1)], [(.N 4611686018427387904)], [(.N (-4611686018427387904))], [(.N 9223372036854775807)], [(.N (-9223372036854775808))], [(.N 1000000000)], [(.N 1000000001)], [(.N (-1000000001))], [(.N 3600)], [(.N 1800)], [(.N 100000000)], [(.N 100000001)], [(.N 5001)]]) 21], 56, 24, [none, none, none, none, none, none, none, none, none, none, none, none, none, none, none, none, none, none, none, none, none, none, none, none, none, none, none, none, some (0, 2), none, none, none, none, none, none, none, none, none, none, none, none, none, none, none, none, none, none, none, none, none, none, none, none, none, none, some (0, 4611686018427387904)], [], [⟨0, [.int .i64], (.V 0)⟩, ⟨1, [.int .i64, .int .i64, .int .i64], (.V 1)⟩, ⟨2, [.int .i64], (.V 3)⟩, ⟨3, [.int .i64], (.take (.V 0) (.mn (.len (.V 0)) (.N 600)))⟩, ⟨4, [.int .i64], (.V 6)⟩, ⟨7, [.int .i64], (.V 9)⟩, ⟨8, [.int .i64], (.V 12)⟩, ⟨11, [.int .i64], (.V 15)⟩, ⟨12, [.int .i64], (.V 18)⟩, ⟨13, [.int .i64], (.V 21)⟩, ⟨14, [.int .i64], (.V 24)⟩, ⟨6, [.int .i64, .int .i64, .int .i64], (.V 8)⟩, ⟨16, [.int .i64, .int .i64, .int .i64], (.app (.V 14) (.rows [[(.wr .i64 (.add (.N (-9)) (.V 17))), (.wr .i64 (.add (.N (-9)) (.V 20))), (.wr .i64 (.add (.N (-1)) (.V 23)))]]))⟩, ⟨17, [.int .i64], (.V 26)⟩, ⟨18, [.int .i64, .int .i64, .int .i64], (.V 29)⟩, ⟨19, [.int .i64, .int .i64, .int .i64], (.V 30)⟩, ⟨20, [.int .i64], (.V 48)⟩, ⟨22, [.int .i64], (.V 51)⟩, ⟨23, [.int .i64], (.V 53)⟩]⟩⟩,
  ⟨2198485328404, 73, [], ⟨[.und, .und, .int .i64 (.V 2), .var 2, .und, .und, .und, .und, .bool (.B false), .ptr 0 0, .und, .und, .und, .var 18, .int .i64 (.V 31), .int .i64 (.V 32), .int .i64 (.V 33), .int .i64 (.V 34), .int .i64 (.V 35), .int .i64 (.V 36), .und, .int .i64 (.V 56), .var 24, .int .i64 (.V 59), .int .i64 (.V 60), .var 25, .int .i64 (.V 62), .int .i64 (.V 63), .var 26, .und, .und, .und, .und, .und, .und, .und, .und, .und, .und, .und, .und, .und, .und, .und, .und, .und, .und, .und, .und, .und, .und, .und, .und, .und, .und, .und, .und, .und, .und, .und, .und, .und, .und, .und, .und, .und, .und, .und, .agg [.var 6, .var 1, .var 16], .int .i64 (.V 28), .bool (.lt (.V 28) (.N 3)), .var 19, .tuple [.int .i64 (.V 31), .int .i64 (.V 32), .int .i64 (.V 33)], .var 18, .tuple [.int .i64 (.V 31), .int .i64 (.V 32), .int .i64 (.V 33)], .int .i64 (.V 31), .int .i64 (.V 32), .int .i64 (.V 33), .tuple [.int .i64 (.V 34), .int .i64 (.V 35), .int .i64 (.V 36)], .var 18, .tuple [.int .i64 (.V 34), .int .i64 (.V 35), .int .i64 (.V 36)], .int .i64 (.V 34), .int .i64 (.V 35), .int .i64 (.V 36), .var 18, .int .i64 (.V 37), .var 18, .int .i64 (.V 38), .bool (.V 39), .bool (.V 40), .und, .und, .und, .bool (.V 41), .bool (.V 42), .und, .und, .und, .bool (.V 43), .bool (.V 44), .und, .und, .und, .bool (.V 45), .int .i64 (.V 36), .bool (.eq (.V 36) (.N 0)), .bool (.eq (.V 36) (.N 0)), .und, .und, .und, .und, .bool (.V 46), .int .i64 (.V 2), .ptr 0 0, .int .i64 (.wr .i64 (.add (.N (-40)) (.V 47))), .ptr 0 0, .int .i64 (.at (.rows [[(.N (-1))], [(.N 0)], [(.N 1)], [(.N 4611686018427387904)], [(.N (-4611686018427387904))], [(.N 9223372036854775807)], [(.N (-9223372036854775808))], [(.N 1000000000)], [(.N 1000000001)], [(.N (-1000000001))], [(.N 3600)], [(.N 1800)], [(.N 100000000)], [(.N 100000001)], [(.N 5001)]]) (.V 50) 0), .agg [.int .i64 (.V 2), .int .i64 (.wr .i64 (.add (.N (-40)) (.V 47))), .int .i64 (.at (.rows [[(.N (-1))], [(.N 0)], [(.N 1)], [(.N 4611686018427387904)], [(.N (-4611686018427387904))], [(.N 9223372036854775807)], [(.N (-9223372036854775808))], [(.N 1000000000)], [(.N 1000000001)], [(.N (-1000000001))], [(.N 3600)], [(.N 1800)], [(.N 100000000)], [(.N 100000001)], [(.N 5001)]]) (.V 50) 0)], .int .i64 (.V 55), .bool (.lt (.V 55) (.N 3)), .int .i64 (.V 57), .tuple [.var 24, .int .i64 (.V 59), .int .i64 (.V 60)], .var 18, .int .i64 (.V 56), .tuple [.var 24, .int .i64 (.V 59), .int .i64 (.V 60)], .var 24, .int .i64 (.V 59), .int .i64 (.V 60), .tuple [.var 25, .int .i64 (.V 62), .int .i64 (.V 63)], .var 18, .int .i64 (.V 56), .tuple [.var 25, .int .i64 (.V 62), .int .i64 (.V 63)], .var 25, .int .i64 (.V 62), .int .i64 (.V 63), .var 24, .var 25, .bool (.V 64), .bool (.V 65), .bool (.V 66), .und, .und, .und, .bool (.V 67), .bool (.V 68), .und, .und, .und, .bool (.V 69), .var 25, .var 26, .var 26, .int .i64 (.len (.V 61)), .bool (.lt (.N 1) (.len (.V 61))), .und, .und, .und, .und, .und, .und, .und, .und, .und, .und, .und, .und, .und, .und, .und, .und, .und, .und, .var 25, .var 26, .var 2, .agg [.var 25, .var 26, .var 2], .int .i64 (.V 73), .und, .und, .und, .und, .und, .und, .und, .und, .und, .und, .und, .und, .und, .und, .und, .und, .und, .und, .und, .und, .und, .und, .und, .und, .und, .und, .und, .und, .und, .und, .und, .und, .und, .und, .und, .und, .und, .und, .und, .und, .und, .und, .und, .und, .und, .und, .und, .und, .und, .und, .und, .und, .und, .und, .und, .und, .und, .und, .und, .und, .und, .und, .und, .und, .und, .und], [.fix [.var 27, .int .i64 (.V 72)] true, .none, .none, .rows [.int .i64, .int .i64, .int .i64] (.rows [[(.wr .i64 (.add (.N (-9)) (.V 17))), (.wr .i64 (.add (.N (-9)) (.V 20))), (.wr .i64 (.add (.N (-1)) (.V 23)))]]) 15, .rows [.int .i64] (.rows [[(.N (-1))], [(.N 0)], [(.N 1)], [(.N 4611686018427387904)], [(.N (-4611686018427387904))], [(.N 9223372036854775807)], [(.N (-9223372036854775808))], [(.N 1000000000)], [(.N 1000000001)], [(.N (-1000000001))], [(.N 3600)], [(.N 1800)], [(.N 100000000)], [(.N 100000001)], [(.N 5001)]]) 21, .none], 74, 28, [none, none, none, none, none, none, none, none, none, none, none, none, none, none, none, none, none, none, none, none, none, none, none, none, none, none, none, none, some (0, 2), none, none, none, none, none, none, none, none, none, none, none, none, none, none, none, none, none, none, none, none, none, none, none, none, none, none, some (0, 2), none, none, none, none, none, none, none, none, none, none, none, none, none, none, none, none, none, some (0, 4611686018427387904)], [], [⟨0, [.int .i64], (.V 0)⟩, ⟨1, [.int .i64, .int .i64, .int .i64], (.V 1)⟩, ⟨2, [.int .i64], (.V 3)⟩, ⟨3, [.int .i64], (.take (.V 0) (.mn (.len (.V 0)) (.N 600)))⟩, ⟨4, [.int .i64], (.V 6)⟩, ⟨7, [.int .i64], (.V 9)⟩, ⟨8, [.int .i64], (.V 12)⟩, ⟨11, [.int .i64], (.V 15)⟩, ⟨12, [.int .i64], (.V 18)⟩, ⟨13, [.int .i64], (.V 21)⟩, ⟨14, [.int .i64], (.V 24)⟩, ⟨6, [.int .i64, .int .i64, .int .i64], (.V 8)⟩, ⟨16, [.int .i64, .int .i64, .int .i64], (.app (.V 14) (.rows [[(.wr .i64 (.add (.N (-9)) (.V 17))), (.wr .i64 (.add (.N (-9)) (.V 20))), (.wr .i64 (.add (.N (-1)) (.V 23)))]]))⟩, ⟨17, [.int .i64], (.V 26)⟩, ⟨18, [.int .i64, .int .i64, .int .i64], (.V 29)⟩, ⟨19, [.int .i64, .int .i64, .int .i64], (.V 30)⟩, ⟨20, [.int .i64], (.V 48)⟩, ⟨22, [.int .i64], (.V 51)⟩, ⟨23, [.int .i64], (.V 53)⟩, ⟨24, [.int .i64], (.V 58)⟩, ⟨25, [.int .i64], (.V 61)⟩, ⟨27, [.int .i64], (.V 71)⟩, ⟨26, [.int .i64], (.V 70)⟩]⟩⟩]
def shExa_K : Con := ⟨3, [.val false [.sl [.int .i64]], .val false [.sl [.int .i64, .int .i64, .int .i64]], .val false [.int .i64], .val false [.sl [.int .i64]]], [.val false [.bool]], []⟩
def shExa_T : T (List X) :=
  (.sub (.ite (.lt (.N 10) (.len (.V 1)))
   (.ret [(.B true)])
   (.ret [(.lt (.N 12) (.len (.V 3)))])) 1
  (.ite (.V 4)
   (.call 14 [] 1
    (.ret [(.V 5)]))
   (.need (.not (.lt (.len (.V 0)) (.mn (.len (.V 0)) (.N 600))))
    (.call 26 [(.take (.V 0) (.mn (.len (.V 0)) (.N 600))), (.N 0), (.N 6)] 3
     (.loop [(.rows []), (.V 6), (.V 7), (.V 5)]
      (.ite (.lt (.N 0) (.V 11))
       (.call 26 [(.V 9), (.V 10), (.N 15)] 3
        (.call 26 [(.V 13), (.V 14), (.N 12)] 3
         (.call 26 [(.V 16), (.V 17), (.N 6)] 3
          (.need (.and (.not (.lt (.V 18) (.N 0))) (.lt (.V 18) (.N 6)))
           (.need (.not (.lt (.N 5864062014805) (.add (.len (.V 8)) (.N 1))))
            (.ret (true, [(.app (.V 8) (.rows [[(.wr .i64 (.add (.N (-9)) (.V 12))), (.wr .i64 (.add (.wr .i64 (.add (.N (-9)) (.V 12))) (.V 15))), (.at (.rows [[(.N 1)], [(.N 1)], [(.N 2)], [(.N 3)], [(.N 7)], [(.N 100)]]) (.V 18) 0)]])), (.V 19), (.V 20), (.wr .i64 (.sub (.V 11) (.N 1)))])))))))
       (.ret (false, [(.V 8), (.V 9), (.V 10)]))) 3
      (.call 26 [(.V 9), (.V 10), (.N 4)] 3
       (.loop [(.rows []), (.V 12), (.V 13), (.V 11)]
        (.ite (.lt (.N 0) (.V 17))
         (.call 26 [(.V 15), (.V 16), (.N 15)] 3
          (.call 26 [(.V 19), (.V 20), (.N 12)] 3
           (.call 26 [(.V 22), (.V 23), (.N 6)] 3
            (.need (.and (.not (.lt (.V 24) (.N 0))) (.lt (.V 24) (.N 6)))
             (.need (.not (.lt (.N 5864062014805) (.add (.len (.V 14)) (.N 1))))
              (.ret (true, [(.app (.V 14) (.rows [[(.wr .i64 (.add (.N (-9)) (.V 18))), (.wr .i64 (.add (.wr .i64 (.add (.N (-9)) (.V 18))) (.V 21))), (.at (.rows [[(.N 1)], [(.N 1)], [(.N 2)], [(.N 3)], [(.N 7)], [(.N 100)]]) (.V 24) 0)]])), (.V 25), (.V 26), (.wr .i64 (.sub (.V 17) (.N 1)))])))))))
         (.ret (false, [(.V 14), (.V 15), (.V 16)]))) 3
        (.call 26 [(.V 15), (.V 16), (.N 19)] 3
         (.call 26 [(.V 18), (.V 19), (.N 19)] 3
          (.call 26 [(.V 21), (.V 22), (.N 103)] 3
           (.need (.not (.lt (.N 5864062014805) (.add (.len (.V 14)) (.N 1))))
            (.loop [(.V 24), (.V 25), (.N 0)]
             (.ite (.lt (.V 28) (.N 3))
              (.sub (.sub (.ite (.eq (.V 28) (.N 0))
                 (.ret [(.V 8), (.V 8)])
                 (.ite (.eq (.V 28) (.N 1))
                  (.ret [(.V 1), (.V 1)])
                  (.ret [(.app (.V 14) (.rows [[(.wr .i64 (.add (.N (-9)) (.V 17))), (.wr .i64 (.add (.N (-9)) (.V 20))), (.wr .i64 (.add (.N (-1)) (.V 23)))]])), (.app (.V 14) (.rows [[(.wr .i64 (.add (.N (-9)) (.V 17))), (.wr .i64 (.add (.N (-9)) (.V 20))), (.wr .i64 (.add (.N (-1)) (.V 23)))]]))]))) 2
                (.call 18 [(.V 29)] 3
                 (.call 19 [(.V 29)] 3
                  (.sub (.call 20 [(.V 29)] 1
                    (.call 21 [(.V 29)] 1
                     (.ite (.eq (.V 37) (.V 38))
                      (.ite (.eq (.V 31) (.V 34))
                       (.ite (.eq (.V 32) (.V 35))
                        (.ret [(.V 37), (.V 38), (.not (.eq (.V 37) (.V 38))), (.not (.eq (.V 37) (.V 38))), (.not (.eq (.V 31) (.V 34))), (.not (.eq (.V 31) (.V 34))), (.not (.eq (.V 32) (.V 35))), (.not (.eq (.V 32) (.V 35))), (.not (.eq (.V 33) (.V 36)))])
                        (.ret [(.V 37), (.V 38), (.not (.eq (.V 37) (.V 38))), (.not (.eq (.V 37) (.V 38))), (.not (.eq (.V 31) (.V 34))), (.not (.eq (.V 31) (.V 34))), (.not (.eq (.V 32) (.V 35))), (.not (.eq (.V 32) (.V 35))), (.B true)]))
                       (.ret [(.V 37), (.V 38), (.not (.eq (.V 37) (.V 38))), (.not (.eq (.V 37) (.V 38))), (.not (.eq (.V 31) (.V 34))), (.not (.eq (.V 31) (.V 34))), (.B true), (.B true), (.B true)]))
                      (.ret [(.V 37), (.V 38), (.not (.eq (.V 37) (.V 38))), (.not (.eq (.V 37) (.V 38))), (.B true), (.B true), (.B true), (.B true), (.B true)])))) 9
                   (.ite (.V 45)
                    (.ret [(.N 0), (.V 26), (.V 27), (.V 29), (.V 31), (.V 32), (.V 33), (.V 34), (.V 35), (.V 36), (.V 30), (.V 31), (.V 32), (.V 33), (.V 29), (.V 31), (.V 32), (.V 33), (.V 31), (.V 32), (.V 33), (.V 34), (.V 35), (.V 36), (.V 29), (.V 34), (.V 35), (.V 36), (.V 34), (.V 35), (.V 36), (.V 29), (.V 37), (.V 29), (.V 38), (.V 39), (.V 40), (.V 41), (.V 42), (.V 43), (.V 44), (.V 45), (.N 0), (.N 0), (.N 0), (.N 0)])
                    (.sub (.ite (.eq (.V 36) (.N 0))
                      (.ret [(.lt (.N 30000) (.wr .i64 (.sub (.V 35) (.V 34))))])
                      (.ret [(.B false)])) 1
                     (.ite (.V 46)
                      (.ret [(.N 1), (.V 26), (.V 27), (.V 29), (.V 31), (.V 32), (.V 33), (.V 34), (.V 35), (.V 36), (.V 30), (.V 31), (.V 32), (.V 33), (.V 29), (.V 31), (.V 32), (.V 33), (.V 31), (.V 32), (.V 33), (.V 34), (.V 35), (.V 36), (.V 29), (.V 34), (.V 35), (.V 36), (.V 34), (.V 35), (.V 36), (.V 29), (.V 37), (.V 29), (.V 38), (.V 39), (.V 40), (.V 41), (.V 42), (.V 43), (.V 44), (.V 45), (.V 36), (.eq (.V 36) (.N 0)), (.eq (.V 36) (.N 0)), (.V 46)])
                      (.call 26 [(.V 26), (.V 27), (.N 101)] 3
                       (.call 26 [(.V 48), (.V 49), (.N 15)] 3
                        (.need (.and (.not (.lt (.V 50) (.N 0))) (.lt (.V 50) (.N 15)))
                         (.loop [(.V 51), (.V 52), (.N 0)]
                          (.ite (.lt (.V 55) (.N 3))
                           (.sub (.sub (.ite (.eq (.V 55) (.N 0))
                              (.ret [(.V 2), (.V 2)])
                              (.ite (.eq (.V 55) (.N 1))
                               (.ret [(.wr .i64 (.add (.N (-40)) (.V 47))), (.wr .i64 (.add (.N (-40)) (.V 47)))])
                               (.ret [(.at (.rows [[(.N (-1))], [(.N 0)], [(.N 1)], [(.N 4611686018427387904)], [(.N (-4611686018427387904))], [(.N 9223372036854775807)], [(.N (-9223372036854775808))], [(.N 1000000000)], [(.N 1000000001)], [(.N (-1000000001))], [(.N 3600)], [(.N 1800)], [(.N 100000000)], [(.N 100000001)], [(.N 5001)]]) (.V 50) 0), (.at (.rows [[(.N (-1))], [(.N 0)], [(.N 1)], [(.N 4611686018427387904)], [(.N (-4611686018427387904))], [(.N 9223372036854775807)], [(.N (-9223372036854775808))], [(.N 1000000000)], [(.N 1000000001)], [(.N (-1000000001))], [(.N 3600)], [(.N 1800)], [(.N 100000000)], [(.N 100000001)], [(.N 5001)]]) (.V 50) 0)]))) 2
                             (.call 23 [(.V 29), (.V 56)] 3
                              (.call 24 [(.V 29), (.V 56)] 3
                               (.sub (.call 25 [(.V 58), (.V 61)] 1
                                 (.ite (.V 64)
                                  (.ite (.eq (.V 59) (.V 62))
                                   (.ret [(.V 64), (.not (.V 64)), (.not (.V 64)), (.not (.eq (.V 59) (.V 62))), (.not (.eq (.V 59) (.V 62))), (.not (.eq (.V 60) (.V 63)))])
                                   (.ret [(.V 64), (.not (.V 64)), (.not (.V 64)), (.not (.eq (.V 59) (.V 62))), (.not (.eq (.V 59) (.V 62))), (.B true)]))
                                  (.ret [(.V 64), (.not (.V 64)), (.not (.V 64)), (.B true), (.B true), (.B true)]))) 6
                                (.ite (.V 69)
                                 (.ret [(.N 0), (.V 53), (.V 54), (.V 56), (.V 58), (.V 59), (.V 60), (.V 61), (.V 62), (.V 63), (.V 57), (.V 58), (.V 59), (.V 60), (.V 56), (.V 58), (.V 59), (.V 60), (.V 58), (.V 59), (.V 60), (.V 61), (.V 62), (.V 63), (.V 56), (.V 61), (.V 62), (.V 63), (.V 61), (.V 62), (.V 63), (.V 58), (.V 61), (.V 64), (.V 65), (.V 66), (.V 67), (.V 68), (.V 69), (.N 0), (.N 0), (.N 0), (.N 0), (.N 0), (.N 0), (.N 0), (.N 0), (.N 0), (.N 0), (.N 0), (.N 0)])
                                 (.need (.not (.lt (.N 17592186044416) (.len (.V 61))))
                                  (.sub (.ite (.lt (.N 1) (.len (.V 61)))
                                    (.call 26 [(.V 53), (.V 54), (.len (.V 61))] 3
                                     (.need (.and (.not (.lt (.V 70) (.N 0))) (.lt (.V 70) (.len (.V 61))))
                                      (.call 26 [(.V 71), (.V 72), (.len (.V 61))] 3
                                       (.need (.and (.not (.lt (.V 73) (.N 0))) (.lt (.V 73) (.len (.V 61))))
                                        (.ret [(.put (.put (.V 61) (.V 70) 0 (.wr .i64 (.add (.at (.V 61) (.V 70) 0) (.N 1)))) (.V 73) 0 (.wr .i64 (.sub (.at (.put (.V 61) (.V 70) 0 (.wr .i64 (.add (.at (.V 61) (.V 70) 0) (.N 1)))) (.V 73) 0) (.N 1)))), (.V 74), (.V 75)])))))
                                    (.ret [(.V 61), (.V 53), (.V 54)])) 3
                                   (.loop [(.N 0)]
                                    (.ite (.lt (.V 73) (.N 3))
                                     (.sub (.ite (.eq (.V 73) (.N 0))
                                       (.ret [(.V 61), (.V 61)])
                                       (.ite (.eq (.V 73) (.N 1))
                                        (.ret [(.V 70), (.V 70)])
                                        (.ret [(.V 3), (.V 3)]))) 2
                                      (.call 27 [(.V 29), (.V 74)] 2
                                       (.call 28 [(.V 29), (.V 74)] 2
                                        (.call 29 [(.V 29), (.V 74)] 3
                                         (.call 30 [(.V 29), (.V 74)] 3
                                          (.sub (.ite (.eq (.V 76) (.V 78))
                                            (.ite (.eq (.V 77) (.V 79))
                                             (.ite (.eq (.V 80) (.V 83))
                                              (.ite (.eq (.V 81) (.V 84))
                                               (.ite (.beq (.V 82) (.V 85))
                                                (.call 31 [(.V 29), (.V 56), (.V 74)] 1
                                                 (.call 32 [(.V 29), (.V 56), (.V 74)] 1
                                                  (.ret [(.not (.eq (.V 77) (.V 79))), (.not (.eq (.V 77) (.V 79))), (.not (.eq (.V 80) (.V 83))), (.not (.eq (.V 80) (.V 83))), (.not (.eq (.V 81) (.V 84))), (.not (.eq (.V 81) (.V 84))), (.not (.beq (.V 82) (.V 85))), (.not (.beq (.V 82) (.V 85))), (.not (.beq (.V 86) (.V 87)))])))
                                                (.ret [(.not (.eq (.V 77) (.V 79))), (.not (.eq (.V 77) (.V 79))), (.not (.eq (.V 80) (.V 83))), (.not (.eq (.V 80) (.V 83))), (.not (.eq (.V 81) (.V 84))), (.not (.eq (.V 81) (.V 84))), (.not (.beq (.V 82) (.V 85))), (.not (.beq (.V 82) (.V 85))), (.B true)]))
                                               (.ret [(.not (.eq (.V 77) (.V 79))), (.not (.eq (.V 77) (.V 79))), (.not (.eq (.V 80) (.V 83))), (.not (.eq (.V 80) (.V 83))), (.not (.eq (.V 81) (.V 84))), (.not (.eq (.V 81) (.V 84))), (.B true), (.B true), (.B true)]))
                                              (.ret [(.not (.eq (.V 77) (.V 79))), (.not (.eq (.V 77) (.V 79))), (.not (.eq (.V 80) (.V 83))), (.not (.eq (.V 80) (.V 83))), (.B true), (.B true), (.B true), (.B true), (.B true)]))
                                             (.ret [(.not (.eq (.V 77) (.V 79))), (.not (.eq (.V 77) (.V 79))), (.B true), (.B true), (.B true), (.B true), (.B true), (.B true), (.B true)]))
                                            (.ret [(.B true), (.B true), (.B true), (.B true), (.B true), (.B true), (.B true), (.B true), (.B true)])) 9
                                           (.ite (.V 94)
                                            (.ret (false, [(.N 0), (.V 74), (.V 76), (.V 77), (.V 78), (.V 79), (.V 80), (.V 81), (.V 82), (.V 83), (.V 84), (.V 85), (.V 73), (.lt (.V 73) (.N 3)), (.V 75), (.V 76), (.V 77), (.V 74), (.V 76), (.V 77), (.V 76), (.V 77), (.V 78), (.V 79), (.V 74), (.V 78), (.V 79), (.V 78), (.V 79), (.V 80), (.V 81), (.V 82), (.V 74), (.V 80), (.V 81), (.V 82), (.V 80), (.V 81), (.V 82), (.V 83), (.V 84), (.V 85), (.V 74), (.V 83), (.V 84), (.V 85), (.V 83), (.V 84), (.V 85), (.V 76), (.V 78), (.not (.eq (.V 76) (.V 78))), (.not (.eq (.V 76) (.V 78))), (.V 86), (.V 87), (.V 88), (.V 89), (.V 90), (.V 91), (.V 92), (.V 93), (.V 94)]))
                                            (.ret (true, [(.add (.V 73) (.N 1))])))))))))
                                     (.ret (false, [(.N 1), (.V 73), (.lt (.V 73) (.N 3)), (.N 0), (.N 0), (.N 0), (.N 0), (.N 0), (.N 0), (.N 0), (.N 0), (.N 0), (.N 0), (.N 0), (.N 0), (.N 0), (.N 0), (.N 0), (.N 0), (.N 0), (.N 0), (.N 0), (.N 0), (.N 0), (.N 0), (.N 0), (.N 0), (.N 0), (.N 0), (.N 0), (.N 0), (.N 0), (.N 0), (.N 0), (.N 0), (.N 0), (.N 0), (.N 0), (.N 0), (.N 0), (.N 0), (.N 0), (.N 0), (.N 0), (.N 0), (.N 0), (.N 0), (.N 0), (.N 0), (.N 0), (.N 0), (.N 0), (.N 0), (.N 0), (.N 0), (.N 0), (.N 0), (.N 0), (.N 0), (.N 0), (.N 0), (.N 0)]))) 62
                                    (.ite (.eq (.V 73) (.N 0))
                                     (.ret [(.N 0), (.V 71), (.V 72), (.V 56), (.V 58), (.V 59), (.V 60), (.V 61), (.V 62), (.V 63), (.V 57), (.V 58), (.V 59), (.V 60), (.V 56), (.V 58), (.V 59), (.V 60), (.V 58), (.V 59), (.V 60), (.V 61), (.V 62), (.V 63), (.V 56), (.V 61), (.V 62), (.V 63), (.V 61), (.V 62), (.V 63), (.V 58), (.V 61), (.V 64), (.V 65), (.V 66), (.V 67), (.V 68), (.V 69), (.N 0), (.N 0), (.N 0), (.N 0), (.N 0), (.N 0), (.N 0), (.N 0), (.N 0), (.N 0), (.N 0), (.N 0)])
                                     (.ret [(.N 1), (.V 71), (.V 72), (.V 56), (.V 58), (.V 59), (.V 60), (.V 61), (.V 62), (.V 63), (.V 70), (.V 57), (.V 58), (.V 59), (.V 60), (.V 56), (.V 58), (.V 59), (.V 60), (.V 58), (.V 59), (.V 60), (.V 61), (.V 62), (.V 63), (.V 56), (.V 61), (.V 62), (.V 63), (.V 61), (.V 62), (.V 63), (.V 58), (.V 61), (.V 64), (.V 65), (.V 66), (.V 67), (.V 68), (.V 69), (.V 61), (.V 70), (.V 70), (.len (.V 61)), (.lt (.N 1) (.len (.V 61))), (.V 61), (.V 70), (.V 61), (.V 70), (.V 74), (.V 75)])))))))))) 51
                            (.ite (.eq (.V 56) (.N 0))
                             (.ret (false, [(.N 0), (.V 57), (.V 58), (.V 59), (.V 60), (.V 61), (.V 62), (.V 63), (.V 64), (.V 65), (.V 55), (.lt (.V 55) (.N 3)), (.V 66), (.V 67), (.V 68), (.V 69), (.V 70), (.V 71), (.V 72), (.V 73), (.V 74), (.V 75), (.V 76), (.V 77), (.V 78), (.V 79), (.V 80), (.V 81), (.V 82), (.V 83), (.V 84), (.V 85), (.V 86), (.V 87), (.V 88), (.V 89), (.V 90), (.V 91), (.V 92), (.V 93), (.V 94)]))
                             (.ret (true, [(.V 57), (.V 58), (.add (.V 55) (.N 1))]))))
                           (.ret (false, [(.N 1), (.V 53), (.V 54), (.V 55), (.lt (.V 55) (.N 3)), (.N 0), (.N 0), (.N 0), (.N 0), (.N 0), (.N 0), (.N 0), (.N 0), (.N 0), (.N 0), (.N 0), (.N 0), (.N 0), (.N 0), (.N 0), (.N 0), (.N 0), (.N 0), (.N 0), (.N 0), (.N 0), (.N 0), (.N 0), (.N 0), (.N 0), (.N 0), (.N 0), (.N 0), (.N 0), (.N 0), (.N 0), (.N 0), (.N 0), (.N 0), (.N 0), (.N 0)]))) 41
                          (.ite (.eq (.V 53) (.N 0))
                           (.ret [(.N 0), (.V 54), (.V 55), (.V 29), (.V 31), (.V 32), (.V 33), (.V 34), (.V 35), (.V 36), (.V 30), (.V 31), (.V 32), (.V 33), (.V 29), (.V 31), (.V 32), (.V 33), (.V 31), (.V 32), (.V 33), (.V 34), (.V 35), (.V 36), (.V 29), (.V 34), (.V 35), (.V 36), (.V 34), (.V 35), (.V 36), (.V 29), (.V 37), (.V 29), (.V 38), (.V 39), (.V 40), (.V 41), (.V 42), (.V 43), (.V 44), (.V 45), (.N 0), (.N 0), (.N 0), (.N 0)])
                           (.ret [(.N 1), (.V 54), (.V 55), (.V 29), (.V 31), (.V 32), (.V 33), (.V 34), (.V 35), (.V 36), (.V 30), (.V 31), (.V 32), (.V 33), (.V 29), (.V 31), (.V 32), (.V 33), (.V 31), (.V 32), (.V 33), (.V 34), (.V 35), (.V 36), (.V 29), (.V 34), (.V 35), (.V 36), (.V 34), (.V 35), (.V 36), (.V 29), (.V 37), (.V 29), (.V 38), (.V 39), (.V 40), (.V 41), (.V 42), (.V 43), (.V 44), (.V 45), (.V 36), (.eq (.V 36) (.N 0)), (.eq (.V 36) (.N 0)), (.V 46)]))))))))))))) 46
               (.ite (.eq (.V 29) (.N 0))
                (.ret (false, [(.N 0), (.V 30), (.V 31)]))
                (.ret (true, [(.V 30), (.V 31), (.add (.V 28) (.N 1))]))))
              (.ret (false, [(.N 1), (.V 26), (.V 27)]))) 3
             (.ite (.eq (.V 26) (.N 0))
              (.ret [(.B false)])
              (.call 14 [] 1
               (.ret [(.V 29)])))))))))))))))
set_option maxRecDepth 100000 in
theorem shExa_t : runS Try.prog [srcN_K.to [], shReach_K.to [], shValid_K.to [], shDivide_K.to [], shPrice_K.to [], shSum_K.to [], shCheck_K.to [], rRea13_K.to [], rVal13_K.to [], rDiv13_K.to [], rPri13_K.to [], rSum13_K.to [], rChk13_K.to [], rInts_K.to [], sane13_K.to []] [(3, shExa_H), (16, shExa_H)] shExa_K = shExa_T := by kernel_rfl
/-- what a division gives -/
def Spec (l : List (List D)) (t : Int) (x : List (List D)) (m e : Int) : Prop :=
  (vd l ≠ 0 ∧ x = [] ∧ m = 0 ∧ e = vd l) ∨ (vd l = 0 ∧ (t < -500000 ∨ 500000 < t) ∧ x = [] ∧ m = 0 ∧ e = 1) ∨ (vd l = 0 ∧ -500000 ≤ t ∧ t ≤ 500000 ∧ m = t - goal l t ∧ e = 0 ∧ DivOk l (goal l t) x)
theorem divide_spec {l : List (List D)} {t : Int} : ∃ o, shDivide_T.run dvM 30 [.l l, .i t] = some o ∧ ∃ x m e, o = [.l x, .i m, .i e] ∧ Spec l t x m e := by
  by_cases h : vd l = 0
  · by_cases ht : t < -500000 ∨ 500000 < t
    · obtain ⟨o, h1, h2⟩ := divide_far h ht
      exact ⟨o, h1, _, _, _, h2, .inr (.inl ⟨h, ht, rfl, rfl, rfl⟩)⟩
    · obtain ⟨o, h1, x, h2, h3⟩ := divide_gen (t := t) h (by omega) (by omega)
      exact ⟨o, h1, x, _, _, h2, .inr (.inr ⟨h, by omega, by omega, rfl, rfl, h3⟩)⟩
  · obtain ⟨o, h1, h2⟩ := divide_bad (t := t) h
    exact ⟨o, h1, _, _, _, h2, .inl ⟨h, rfl, rfl, rfl⟩⟩
theorem rdivide_spec {l : List (List D)} {t : Int} : ∃ o, rDiv13_T.run rdvM 100000 [.l l, .i t] = some o ∧ ∃ x m e, o = [.l x, .i m, .i e] ∧ Spec l t x m e := by
  by_cases h : vd l = 0
  · by_cases ht : t < -500000 ∨ 500000 < t
    · obtain ⟨o, h1, h2⟩ := rdivide_far h ht
      exact ⟨o, h1, _, _, _, h2, .inr (.inl ⟨h, ht, rfl, rfl, rfl⟩)⟩
    · obtain ⟨o, h1, x, h2, h3⟩ := rdivide_gen (t := t) h (by omega) (by omega)
      exact ⟨o, h1, x, _, _, h2, .inr (.inr ⟨h, by omega, by omega, rfl, rfl, h3⟩)⟩
  · obtain ⟨o, h1, h2⟩ := rdivide_bad (t := t) h
    exact ⟨o, h1, _, _, _, h2, .inl ⟨h, rfl, rfl, rfl⟩⟩
theorem spec_len {l : List (List D)} {t : Int} {x : List (List D)} {m e : Int} (h : Spec l t x m e) : x.length ≤ 8 := by
  rcases h with ⟨_, h, _⟩ | ⟨_, _, h, _⟩ | ⟨h0, _, _, _, _, h⟩
  · subst h; simp
  · subst h; simp
  · have := (vd_zero h0).1; have := h.2.1; omega
theorem spec_same {l : List (List D)} {t : Int} {x y : List (List D)} {m e n f : Int} (h : Spec l t x m e) (k : Spec l t y n f) : m = n ∧ e = f ∧ sameN x y = true := by
  rcases h with ⟨h0, h1, h2, h3⟩ | ⟨h0, hf, h1, h2, h3⟩ | ⟨h0, a, b, h1, h2, hx⟩ <;> rcases k with ⟨k0, k1, k2, k3⟩ | ⟨k0, kf, k1, k2, k3⟩ | ⟨k0, c, d, k1, k2, hy⟩ <;> try (exfalso; omega)
  · subst h1 k1; exact ⟨by omega, by omega, sameN_true.2 ⟨rfl, fun i _ _ => rfl⟩⟩
  · subst h1 k1; exact ⟨by omega, by omega, sameN_true.2 ⟨rfl, fun i _ _ => rfl⟩⟩
  · refine ⟨by omega, by omega, sameN_true.2 ⟨by rw [hx.2.1, hy.2.1], fun i i0 i1 => ?_⟩⟩
    exact lex_unique (fun i a b => by have := (vd_zero h0).2 i a b; simp only [okS] at this; omega) hx.2.2.1 hy.2.2.1 hx.2.2.2.2 hy.2.2.2.2 (by rw [hx.2.2.2.1, hy.2.2.2.1]) i i0 (by rw [hx.2.1] at i1; exact i1)
noncomputable def pa (l x : List (List D)) : Int := ((prS l x).getD 0 (.i 0)).int
noncomputable def pb (l x : List (List D)) : Int := ((prS l x).getD 1 (.i 0)).int
noncomputable def pc (l x : List (List D)) : Bool := ((prS l x).getD 2 (.i 0)).boo
theorem prS_eq {l x : List (List D)} : prS l x = [.i (pa l x), .i (pb l x), .b (pc l x)] := by
  unfold pa pb pc
  have : ∃ a b c, prS l x = [.i a, .i b, .b c] := by
    unfold prS
    split
    · split
      · split
        · exact ⟨_, _, _, rfl⟩
        · split
          · exact ⟨_, _, _, rfl⟩
          · exact ⟨_, _, _, rfl⟩
      · exact ⟨_, _, _, rfl⟩
    · exact ⟨_, _, _, rfl⟩
  obtain ⟨a, b, c, e⟩ := this
  rw [e]
  rfl
theorem price_full {l x : List (List D)} : ∃ o, shPrice_T.run suM 30 [.l l, .l x] = some o ∧ o = [.i (pa l x), .i (pb l x), .b (pc l x)] := by
  obtain ⟨o, h1, h2⟩ := price_gen (l := l) (x := x)
  exact ⟨o, h1, by rw [h2, prS_eq]⟩
theorem rprice_full {l x : List (List D)} : ∃ o, rPri13_T.run rsuM 30 [.l l, .l x] = some o ∧ o = [.i (pa l x), .i (pb l x), .b (pc l x)] := by
  obtain ⟨o, h1, h2⟩ := rprice_gen (l := l) (x := x)
  exact ⟨o, h1, by rw [h2, prS_eq]⟩
noncomputable def shxM : Models := Models.on srcN_K.f (srcN_T.run noM 0) (Models.on shReach_K.f (shReach_T.run reM 30) (Models.on shValid_K.f (shValid_T.run noM 30) (Models.on shDivide_K.f (shDivide_T.run dvM 30) (Models.on shPrice_K.f (shPrice_T.run suM 30) (Models.on shSum_K.f (shSum_T.run suM 30) (Models.on shCheck_K.f (shCheck_T.run ckM 30)
  (Models.on rRea13_K.f (rRea13_T.run rreM 30) (Models.on rVal13_K.f (rVal13_T.run noM 30) (Models.on rDiv13_K.f (rDiv13_T.run rdvM 100000) (Models.on rPri13_K.f (rPri13_T.run rsuM 30) (Models.on rSum13_K.f (rSum13_T.run rsuM 30) (Models.on rChk13_K.f (rChk13_T.run rckM 30) (Models.on rInts_K.f (rInts_T.run noM 30) (Models.on sane13_K.f (fun _ => some [.b true]) noM))))))))))))))
def shxR : List D → Option (List D) := fun ds => match ds with
  | [.l _, .l _, .i _, .l _] => some [.b true]
  | _ => none
theorem odd_pick {r : Int} (h0 : 0 ≤ r) (h1 : r < 15) : ∃ z : Int, (D.l [[.i (-1)], [.i 0], [.i 1], [.i 4611686018427387904], [.i (-4611686018427387904)], [.i 9223372036854775807], [.i (-9223372036854775808)], [.i 1000000000], [.i 1000000001], [.i (-1000000001)], [.i 3600], [.i 1800], [.i 100000000], [.i 100000001], [.i 5001]]).cell r 0 = .i z := by
  obtain ⟨a, ha, ea⟩ := pick_cell (zs := [-1, 0, 1, 4611686018427387904, -4611686018427387904, 9223372036854775807, -9223372036854775808, 1000000000, 1000000001, -1000000001, 3600, 1800, 100000000, 100000001, 5001]) h0 h1
  exact ⟨a, ea⟩
theorem ShareExact_ok : ConOk Try.prog shExa_K shxR :=
  con_of follows (M := shxM) (one_con (srcN_ok.to _) (one_con (shReach_ok.to _) (one_con (shValid_ok.to _) (one_con (shDivide_ok.to _) (one_con (shPrice_ok.to _) (one_con (shSum_ok.to _) (one_con (shCheck_ok.to _) (one_con (rRea13_ok.to _) (one_con (rVal13_ok.to _) (one_con (rDiv13_ok.to _) (one_con (rPri13_ok.to _) (one_con (rSum13_ok.to _) (one_con (rChk13_ok.to _) (one_con (rInts_ok.to _) (one_con (sane13_ok.to _) no_cons))))))))))))))) shExa_t fun ds outs hl h => by
    unfold shxR at h
    split at h
    · rename_i rows raw total xs
      injection h with h
      subst h
      refine ⟨fun i l h k => by simp [shExa_K] at k, 30, ?_⟩
      unfold shExa_T
      refine To.joinK (fun o => ∃ b, o = [.b b] ∧ (b = false → raw.length ≤ 10 ∧ xs.length ≤ 12)) ?_ ?_
      · refine To.ite (fun c => ?_) (fun c => ?_) <;> simp only [X.den, X.dens, X.denss, D.int_i, D.boo_b, D.str_s, D.rows_l, List.getD_cons_zero, List.getD_cons_succ, List.cons_append, List.nil_append, List.append_nil, List.length_cons, List.length_nil, decide_eq_true_eq, decide_eq_false_iff_not, Bool.not_eq_true', Bool.not_eq_false', Bool.and_eq_true, Bool.and_eq_false_iff, Bool.true_eq_false, Bool.false_eq_true, Bool.not_true, Bool.not_false, eq_self, D.len_l] at c
        · exact To.ret ⟨rfl, true, by simp only [X.den, X.dens, X.denss, D.int_i, D.boo_b, D.str_s, D.rows_l, List.getD_cons_zero, List.getD_cons_succ, List.cons_append, List.nil_append, List.append_nil, List.length_cons, List.length_nil], fun q => by cases q⟩
        · refine To.ret ⟨rfl, decide (12 < min (xs.length : Int) 9223372036854775807), by simp only [X.den, X.dens, X.denss, D.int_i, D.boo_b, D.str_s, D.rows_l, List.getD_cons_zero, List.getD_cons_succ, List.cons_append, List.nil_append, List.append_nil, List.length_cons, List.length_nil, D.len_l], fun q => ?_⟩
          rw [decide_eq_false_iff_not] at q
          omega
      rintro o ρ2 ⟨b, rfl, hb⟩ eρ
      simp only [List.cons_append, List.nil_append] at eρ
      subst eρ
      refine To.ite (fun c => ?_) (fun c => ?_) <;> simp only [X.den, X.dens, X.denss, D.int_i, D.boo_b, D.str_s, D.rows_l, List.getD_cons_zero, List.getD_cons_succ, List.cons_append, List.nil_append, List.append_nil, List.length_cons, List.length_nil] at c
      · refine To.callK (l := [.b true]) rfl rfl _ (by simp only [List.cons_append, List.nil_append]; first | done | rfl) ?_
        exact To.ret (by simp only [X.den, X.dens, X.denss, D.int_i, D.boo_b, D.str_s, D.rows_l, List.getD_cons_zero, List.getD_cons_succ, List.cons_append, List.nil_append, List.append_nil, List.length_cons, List.length_nil])
      obtain ⟨r10, x12⟩ := hb c
      refine To.need (by simp only [X.den, X.dens, X.denss, D.int_i, D.boo_b, D.str_s, D.rows_l, List.getD_cons_zero, List.getD_cons_succ, List.cons_append, List.nil_append, List.append_nil, List.length_cons, List.length_nil, decide_eq_true_eq, decide_eq_false_iff_not, Bool.not_eq_true', Bool.not_eq_false', Bool.and_eq_true, Bool.and_eq_false_iff, Bool.true_eq_false, Bool.false_eq_true, Bool.not_true, Bool.not_false, eq_self, D.len_l]; omega) ?_
      refine To.viaK (by (try simp (disch := omega) only [X.den, X.dens, X.denss, D.int_i, D.boo_b, D.str_s, D.rows_l, List.getD_cons_zero, List.getD_cons_succ, List.cons_append, List.nil_append, List.append_nil, List.length_cons, List.length_nil, decide_eq_true_eq, decide_eq_false_iff_not, Bool.not_eq_true', Bool.not_eq_false', Bool.and_eq_true, Bool.and_eq_false_iff, Bool.true_eq_false, Bool.false_eq_true, Bool.not_true, Bool.not_false, eq_self, D.len_l, wr64, not_true_eq_false, not_false_eq_true]); exact srcN_to src_take13 (by omega) (by omega)) ?_
      rintro _ ρ2 ⟨n0, t1, rfl, p1, q1, h1⟩ eρ
      refine ⟨rfl, ?_⟩
      simp only [List.cons_append, List.nil_append] at eρ
      subst eρ
      generalize List.take (min (min (rows.length : Int) 9223372036854775807) 600).toNat rows = src at *
      refine To.loopK (fun m o => ∃ l at_ k, o = [.l l, .l src, .i at_, .i k] ∧ SrcOk src at_ ∧ k = m ∧ k + l.length ≤ 5) (fun o => ∃ l at_, o = [.l l, .l src, .i at_] ∧ SrcOk src at_ ∧ (l.length : Int) ≤ 5) n0.toNat (by omega) ?_ ?_ ?_
      · exact ⟨[], t1, n0, by simp only [X.den, X.dens, X.denss, D.int_i, D.boo_b, D.str_s, D.rows_l, List.getD_cons_zero, List.getD_cons_succ, List.cons_append, List.nil_append, List.append_nil, List.length_cons, List.length_nil, X.denss], h1, by omega, by simp; omega⟩
      · rintro m o ρ2 ⟨l, a, k, rfl, hs, hk, hn⟩ eρ
        simp only [List.cons_append, List.nil_append] at eρ
        subst eρ
        refine To.ite (fun c => ?_) (fun c => ?_) <;> simp only [X.den, X.dens, X.denss, D.int_i, D.boo_b, D.str_s, D.rows_l, List.getD_cons_zero, List.getD_cons_succ, List.cons_append, List.nil_append, List.append_nil, List.length_cons, List.length_nil, decide_eq_true_eq, decide_eq_false_iff_not, Bool.not_eq_true', Bool.not_eq_false', Bool.and_eq_true, Bool.and_eq_false_iff, Bool.true_eq_false, Bool.false_eq_true, Bool.not_true, Bool.not_false, eq_self] at c
        · refine To.viaK (by (try simp (disch := omega) only [X.den, X.dens, X.denss, D.int_i, D.boo_b, D.str_s, D.rows_l, List.getD_cons_zero, List.getD_cons_succ, List.cons_append, List.nil_append, List.append_nil, List.length_cons, List.length_nil, decide_eq_true_eq, decide_eq_false_iff_not, Bool.not_eq_true', Bool.not_eq_false', Bool.and_eq_true, Bool.and_eq_false_iff, Bool.true_eq_false, Bool.false_eq_true, Bool.not_true, Bool.not_false, eq_self, D.len_l, wr64, not_true_eq_false, not_false_eq_true]); exact srcN_to hs (by omega) (by omega)) ?_
          rintro _ ρ2 ⟨r1, t1, rfl, p1, q1, h1⟩ eρ
          refine ⟨rfl, ?_⟩
          simp only [List.cons_append, List.nil_append] at eρ
          subst eρ
          refine To.viaK (by (try simp (disch := omega) only [X.den, X.dens, X.denss, D.int_i, D.boo_b, D.str_s, D.rows_l, List.getD_cons_zero, List.getD_cons_succ, List.cons_append, List.nil_append, List.append_nil, List.length_cons, List.length_nil, decide_eq_true_eq, decide_eq_false_iff_not, Bool.not_eq_true', Bool.not_eq_false', Bool.and_eq_true, Bool.and_eq_false_iff, Bool.true_eq_false, Bool.false_eq_true, Bool.not_true, Bool.not_false, eq_self, D.len_l, wr64, not_true_eq_false, not_false_eq_true]); exact srcN_to h1 (by omega) (by omega)) ?_
          rintro _ ρ2 ⟨r2, t2, rfl, p2, q2, h2⟩ eρ
          refine ⟨rfl, ?_⟩
          simp only [List.cons_append, List.nil_append] at eρ
          subst eρ
          refine To.viaK (by (try simp (disch := omega) only [X.den, X.dens, X.denss, D.int_i, D.boo_b, D.str_s, D.rows_l, List.getD_cons_zero, List.getD_cons_succ, List.cons_append, List.nil_append, List.append_nil, List.length_cons, List.length_nil, decide_eq_true_eq, decide_eq_false_iff_not, Bool.not_eq_true', Bool.not_eq_false', Bool.and_eq_true, Bool.and_eq_false_iff, Bool.true_eq_false, Bool.false_eq_true, Bool.not_true, Bool.not_false, eq_self, D.len_l, wr64, not_true_eq_false, not_false_eq_true]); exact srcN_to h2 (by omega) (by omega)) ?_
          rintro _ ρ2 ⟨r3, t3, rfl, p3, q3, h3⟩ eρ
          refine ⟨rfl, ?_⟩
          simp only [List.cons_append, List.nil_append] at eρ
          subst eρ
          refine To.need (by simp only [X.den, X.dens, X.denss, D.int_i, D.boo_b, D.str_s, D.rows_l, List.getD_cons_zero, List.getD_cons_succ, List.cons_append, List.nil_append, List.append_nil, List.length_cons, List.length_nil, decide_eq_true_eq, decide_eq_false_iff_not, Bool.not_eq_true', Bool.not_eq_false', Bool.and_eq_true, Bool.and_eq_false_iff, Bool.true_eq_false, Bool.false_eq_true, Bool.not_true, Bool.not_false, eq_self]; omega) ?_
          refine To.need (by simp only [X.den, X.dens, X.denss, D.int_i, D.boo_b, D.str_s, D.rows_l, List.getD_cons_zero, List.getD_cons_succ, List.cons_append, List.nil_append, List.append_nil, List.length_cons, List.length_nil, decide_eq_true_eq, decide_eq_false_iff_not, Bool.not_eq_true', Bool.not_eq_false', Bool.and_eq_true, Bool.and_eq_false_iff, Bool.true_eq_false, Bool.false_eq_true, Bool.not_true, Bool.not_false, eq_self, D.len_l]; omega) ?_
          refine To.ret (.inl ⟨rfl, m - 1, by omega, ?_⟩)
          simp (disch := omega) only [X.den, X.dens, X.denss, D.int_i, D.boo_b, D.str_s, D.rows_l, List.getD_cons_zero, List.getD_cons_succ, List.cons_append, List.nil_append, List.append_nil, List.length_cons, List.length_nil, X.denss, wr64]
          exact ⟨_, _, _, rfl, h3, by omega, by rw [List.length_append]; simp only [List.length_cons, List.length_nil]; omega⟩
        · exact To.ret (.inr ⟨rfl, l, a, by simp only [X.den, X.dens, X.denss, D.int_i, D.boo_b, D.str_s, D.rows_l, List.getD_cons_zero, List.getD_cons_succ, List.cons_append, List.nil_append, List.append_nil, List.length_cons, List.length_nil], hs, by omega⟩)
      rintro o ρ2 ⟨l, t2, rfl, h2, hn⟩ eρ
      simp only [List.cons_append, List.nil_append] at eρ
      subst eρ
      refine ⟨rfl, ?_⟩
      refine To.viaK (by (try simp (disch := omega) only [X.den, X.dens, X.denss, D.int_i, D.boo_b, D.str_s, D.rows_l, List.getD_cons_zero, List.getD_cons_succ, List.cons_append, List.nil_append, List.append_nil, List.length_cons, List.length_nil, decide_eq_true_eq, decide_eq_false_iff_not, Bool.not_eq_true', Bool.not_eq_false', Bool.and_eq_true, Bool.and_eq_false_iff, Bool.true_eq_false, Bool.false_eq_true, Bool.not_true, Bool.not_false, eq_self, D.len_l, wr64, not_true_eq_false, not_false_eq_true]); exact srcN_to h2 (by omega) (by omega)) ?_
      rintro _ ρ2 ⟨n1, t3, rfl, p3, q3, h3⟩ eρ
      refine ⟨rfl, ?_⟩
      simp only [List.cons_append, List.nil_append] at eρ
      subst eρ
      refine To.loopK (fun m o => ∃ l at_ k, o = [.l l, .l src, .i at_, .i k] ∧ SrcOk src at_ ∧ k = m ∧ k + l.length ≤ 3) (fun o => ∃ l at_, o = [.l l, .l src, .i at_] ∧ SrcOk src at_ ∧ (l.length : Int) ≤ 3) n1.toNat (by omega) ?_ ?_ ?_
      · exact ⟨[], t3, n1, by simp only [X.den, X.dens, X.denss, D.int_i, D.boo_b, D.str_s, D.rows_l, List.getD_cons_zero, List.getD_cons_succ, List.cons_append, List.nil_append, List.append_nil, List.length_cons, List.length_nil, X.denss], h3, by omega, by simp; omega⟩
      · rintro m o ρ2 ⟨l, a, k, rfl, hs, hk, hn⟩ eρ
        simp only [List.cons_append, List.nil_append] at eρ
        subst eρ
        refine To.ite (fun c => ?_) (fun c => ?_) <;> simp only [X.den, X.dens, X.denss, D.int_i, D.boo_b, D.str_s, D.rows_l, List.getD_cons_zero, List.getD_cons_succ, List.cons_append, List.nil_append, List.append_nil, List.length_cons, List.length_nil, decide_eq_true_eq, decide_eq_false_iff_not, Bool.not_eq_true', Bool.not_eq_false', Bool.and_eq_true, Bool.and_eq_false_iff, Bool.true_eq_false, Bool.false_eq_true, Bool.not_true, Bool.not_false, eq_self] at c
        · refine To.viaK (by (try simp (disch := omega) only [X.den, X.dens, X.denss, D.int_i, D.boo_b, D.str_s, D.rows_l, List.getD_cons_zero, List.getD_cons_succ, List.cons_append, List.nil_append, List.append_nil, List.length_cons, List.length_nil, decide_eq_true_eq, decide_eq_false_iff_not, Bool.not_eq_true', Bool.not_eq_false', Bool.and_eq_true, Bool.and_eq_false_iff, Bool.true_eq_false, Bool.false_eq_true, Bool.not_true, Bool.not_false, eq_self, D.len_l, wr64, not_true_eq_false, not_false_eq_true]); exact srcN_to hs (by omega) (by omega)) ?_
          rintro _ ρ2 ⟨r1, t1, rfl, p1, q1, h1⟩ eρ
          refine ⟨rfl, ?_⟩
          simp only [List.cons_append, List.nil_append] at eρ
          subst eρ
          refine To.viaK (by (try simp (disch := omega) only [X.den, X.dens, X.denss, D.int_i, D.boo_b, D.str_s, D.rows_l, List.getD_cons_zero, List.getD_cons_succ, List.cons_append, List.nil_append, List.append_nil, List.length_cons, List.length_nil, decide_eq_true_eq, decide_eq_false_iff_not, Bool.not_eq_true', Bool.not_eq_false', Bool.and_eq_true, Bool.and_eq_false_iff, Bool.true_eq_false, Bool.false_eq_true, Bool.not_true, Bool.not_false, eq_self, D.len_l, wr64, not_true_eq_false, not_false_eq_true]); exact srcN_to h1 (by omega) (by omega)) ?_
          rintro _ ρ2 ⟨r2, t2, rfl, p2, q2, h2⟩ eρ
          refine ⟨rfl, ?_⟩
          simp only [List.cons_append, List.nil_append] at eρ
          subst eρ
          refine To.viaK (by (try simp (disch := omega) only [X.den, X.dens, X.denss, D.int_i, D.boo_b, D.str_s, D.rows_l, List.getD_cons_zero, List.getD_cons_succ, List.cons_append, List.nil_append, List.append_nil, List.length_cons, List.length_nil, decide_eq_true_eq, decide_eq_false_iff_not, Bool.not_eq_true', Bool.not_eq_false', Bool.and_eq_true, Bool.and_eq_false_iff, Bool.true_eq_false, Bool.false_eq_true, Bool.not_true, Bool.not_false, eq_self, D.len_l, wr64, not_true_eq_false, not_false_eq_true]); exact srcN_to h2 (by omega) (by omega)) ?_
          rintro _ ρ2 ⟨r3, t3, rfl, p3, q3, h3⟩ eρ
          refine ⟨rfl, ?_⟩
          simp only [List.cons_append, List.nil_append] at eρ
          subst eρ
          refine To.need (by simp only [X.den, X.dens, X.denss, D.int_i, D.boo_b, D.str_s, D.rows_l, List.getD_cons_zero, List.getD_cons_succ, List.cons_append, List.nil_append, List.append_nil, List.length_cons, List.length_nil, decide_eq_true_eq, decide_eq_false_iff_not, Bool.not_eq_true', Bool.not_eq_false', Bool.and_eq_true, Bool.and_eq_false_iff, Bool.true_eq_false, Bool.false_eq_true, Bool.not_true, Bool.not_false, eq_self]; omega) ?_
          refine To.need (by simp only [X.den, X.dens, X.denss, D.int_i, D.boo_b, D.str_s, D.rows_l, List.getD_cons_zero, List.getD_cons_succ, List.cons_append, List.nil_append, List.append_nil, List.length_cons, List.length_nil, decide_eq_true_eq, decide_eq_false_iff_not, Bool.not_eq_true', Bool.not_eq_false', Bool.and_eq_true, Bool.and_eq_false_iff, Bool.true_eq_false, Bool.false_eq_true, Bool.not_true, Bool.not_false, eq_self, D.len_l]; omega) ?_
          refine To.ret (.inl ⟨rfl, m - 1, by omega, ?_⟩)
          simp (disch := omega) only [X.den, X.dens, X.denss, D.int_i, D.boo_b, D.str_s, D.rows_l, List.getD_cons_zero, List.getD_cons_succ, List.cons_append, List.nil_append, List.append_nil, List.length_cons, List.length_nil, X.denss, wr64]
          exact ⟨_, _, _, rfl, h3, by omega, by rw [List.length_append]; simp only [List.length_cons, List.length_nil]; omega⟩
        · exact To.ret (.inr ⟨rfl, l, a, by simp only [X.den, X.dens, X.denss, D.int_i, D.boo_b, D.str_s, D.rows_l, List.getD_cons_zero, List.getD_cons_succ, List.cons_append, List.nil_append, List.append_nil, List.length_cons, List.length_nil], hs, by omega⟩)
      rintro o ρ2 ⟨bad, t4, rfl, h4, hbad⟩ eρ
      simp only [List.cons_append, List.nil_append] at eρ
      subst eρ
      refine ⟨rfl, ?_⟩
      refine To.viaK (by (try simp (disch := omega) only [X.den, X.dens, X.denss, D.int_i, D.boo_b, D.str_s, D.rows_l, List.getD_cons_zero, List.getD_cons_succ, List.cons_append, List.nil_append, List.append_nil, List.length_cons, List.length_nil, decide_eq_true_eq, decide_eq_false_iff_not, Bool.not_eq_true', Bool.not_eq_false', Bool.and_eq_true, Bool.and_eq_false_iff, Bool.true_eq_false, Bool.false_eq_true, Bool.not_true, Bool.not_false, eq_self, D.len_l, wr64, not_true_eq_false, not_false_eq_true]); exact srcN_to h4 (by omega) (by omega)) ?_
      rintro _ ρ2 ⟨a5, t5, rfl, p5, q5, h5⟩ eρ
      refine ⟨rfl, ?_⟩
      simp only [List.cons_append, List.nil_append] at eρ
      subst eρ
      refine To.viaK (by (try simp (disch := omega) only [X.den, X.dens, X.denss, D.int_i, D.boo_b, D.str_s, D.rows_l, List.getD_cons_zero, List.getD_cons_succ, List.cons_append, List.nil_append, List.append_nil, List.length_cons, List.length_nil, decide_eq_true_eq, decide_eq_false_iff_not, Bool.not_eq_true', Bool.not_eq_false', Bool.and_eq_true, Bool.and_eq_false_iff, Bool.true_eq_false, Bool.false_eq_true, Bool.not_true, Bool.not_false, eq_self, D.len_l, wr64, not_true_eq_false, not_false_eq_true]); exact srcN_to h5 (by omega) (by omega)) ?_
      rintro _ ρ2 ⟨a6, t6, rfl, p6, q6, h6⟩ eρ
      refine ⟨rfl, ?_⟩
      simp only [List.cons_append, List.nil_append] at eρ
      subst eρ
      refine To.viaK (by (try simp (disch := omega) only [X.den, X.dens, X.denss, D.int_i, D.boo_b, D.str_s, D.rows_l, List.getD_cons_zero, List.getD_cons_succ, List.cons_append, List.nil_append, List.append_nil, List.length_cons, List.length_nil, decide_eq_true_eq, decide_eq_false_iff_not, Bool.not_eq_true', Bool.not_eq_false', Bool.and_eq_true, Bool.and_eq_false_iff, Bool.true_eq_false, Bool.false_eq_true, Bool.not_true, Bool.not_false, eq_self, D.len_l, wr64, not_true_eq_false, not_false_eq_true]); exact srcN_to h6 (by omega) (by omega)) ?_
      rintro _ ρ2 ⟨a7, t7, rfl, p7, q7, h7⟩ eρ
      refine ⟨rfl, ?_⟩
      simp only [List.cons_append, List.nil_append] at eρ
      subst eρ
      refine To.need (by simp only [X.den, X.dens, X.denss, D.int_i, D.boo_b, D.str_s, D.rows_l, List.getD_cons_zero, List.getD_cons_succ, List.cons_append, List.nil_append, List.append_nil, List.length_cons, List.length_nil, decide_eq_true_eq, decide_eq_false_iff_not, Bool.not_eq_true', Bool.not_eq_false', Bool.and_eq_true, Bool.and_eq_false_iff, Bool.true_eq_false, Bool.false_eq_true, Bool.not_true, Bool.not_false, eq_self, D.len_l]; omega) ?_
      refine To.loopK (fun m o => ∃ at_ k : Int, o = [.l src, .i at_, .i k] ∧ SrcOk src at_ ∧ 0 ≤ k ∧ k + m = 3) (fun o => ∃ r1 r2 : D, o = [.i 1, r1, r2]) 3 (by omega) ?_ ?_ ?_
      · exact ⟨t7, 0, by simp only [X.den, X.dens, X.denss, D.int_i, D.boo_b, D.str_s, D.rows_l, List.getD_cons_zero, List.getD_cons_succ, List.cons_append, List.nil_append, List.append_nil, List.length_cons, List.length_nil], h7, by omega, by omega⟩
      · rintro m o ρ2 ⟨at_, k, rfl, hs, k0, k1⟩ eρ
        simp only [List.cons_append, List.nil_append] at eρ
        subst eρ
        refine To.ite (fun c => ?_) (fun c => ?_) <;> simp only [X.den, X.dens, X.denss, D.int_i, D.boo_b, D.str_s, D.rows_l, List.getD_cons_zero, List.getD_cons_succ, List.cons_append, List.nil_append, List.append_nil, List.length_cons, List.length_nil, decide_eq_true_eq, decide_eq_false_iff_not, Bool.not_eq_true', Bool.not_eq_false', Bool.and_eq_true, Bool.and_eq_false_iff, Bool.true_eq_false, Bool.false_eq_true, Bool.not_true, Bool.not_false, eq_self] at c
        · refine To.joinK (fun o => ∃ (at' : Int) (rest : List D), o = .i 1 :: .l src :: .i at' :: rest ∧ rest.length = 43 ∧ SrcOk src at') ?_ ?_
          · refine To.joinK (fun o => ∃ y : List (List D), o = [.l y, .l y]) ?_ ?_
            · refine To.ite (fun c => ?_) (fun c => ?_)
              · exact To.ret ⟨rfl, l, by simp only [X.den, X.dens, X.denss, D.int_i, D.boo_b, D.str_s, D.rows_l, List.getD_cons_zero, List.getD_cons_succ, List.cons_append, List.nil_append, List.append_nil, List.length_cons, List.length_nil]⟩
              · refine To.ite (fun c => ?_) (fun c => ?_)
                · exact To.ret ⟨rfl, raw, by simp only [X.den, X.dens, X.denss, D.int_i, D.boo_b, D.str_s, D.rows_l, List.getD_cons_zero, List.getD_cons_succ, List.cons_append, List.nil_append, List.append_nil, List.length_cons, List.length_nil]⟩
                · exact To.ret ⟨rfl, _, by simp only [X.den, X.dens, X.denss, D.int_i, D.boo_b, D.str_s, D.rows_l, List.getD_cons_zero, List.getD_cons_succ, List.cons_append, List.nil_append, List.append_nil, List.length_cons, List.length_nil]; rfl⟩
            rintro o ρ2 ⟨y, rfl⟩ eρ
            simp only [List.cons_append, List.nil_append] at eρ
            subst eρ
            refine To.viaK (by (try simp (disch := omega) only [X.den, X.dens, X.denss, D.int_i, D.boo_b, D.str_s, D.rows_l, List.getD_cons_zero, List.getD_cons_succ, List.cons_append, List.nil_append, List.append_nil, List.length_cons, List.length_nil, decide_eq_true_eq, decide_eq_false_iff_not, Bool.not_eq_true', Bool.not_eq_false', Bool.and_eq_true, Bool.and_eq_false_iff, Bool.true_eq_false, Bool.false_eq_true, Bool.not_true, Bool.not_false, eq_self, D.len_l, wr64, not_true_eq_false, not_false_eq_true]); exact reach_gen) ?_
            rintro _ ρ2 rfl eρ
            refine ⟨rfl, ?_⟩
            simp only [List.cons_append, List.nil_append] at eρ
            subst eρ
            refine To.viaK (by (try simp (disch := omega) only [X.den, X.dens, X.denss, D.int_i, D.boo_b, D.str_s, D.rows_l, List.getD_cons_zero, List.getD_cons_succ, List.cons_append, List.nil_append, List.append_nil, List.length_cons, List.length_nil, decide_eq_true_eq, decide_eq_false_iff_not, Bool.not_eq_true', Bool.not_eq_false', Bool.and_eq_true, Bool.and_eq_false_iff, Bool.true_eq_false, Bool.false_eq_true, Bool.not_true, Bool.not_false, eq_self, D.len_l, wr64, not_true_eq_false, not_false_eq_true]); exact rreach_gen) ?_
            rintro _ ρ2 rfl eρ
            refine ⟨rfl, ?_⟩
            simp only [List.cons_append, List.nil_append] at eρ
            subst eρ
            refine To.joinK (fun o => ∃ b1 b2 b3 b4 b5 b6 b7 b8, o = [b1, b2, b3, b4, b5, b6, b7, b8, .b false]) ?_ ?_
            · refine To.viaK (by (try simp (disch := omega) only [X.den, X.dens, X.denss, D.int_i, D.boo_b, D.str_s, D.rows_l, List.getD_cons_zero, List.getD_cons_succ, List.cons_append, List.nil_append, List.append_nil, List.length_cons, List.length_nil, decide_eq_true_eq, decide_eq_false_iff_not, Bool.not_eq_true', Bool.not_eq_false', Bool.and_eq_true, Bool.and_eq_false_iff, Bool.true_eq_false, Bool.false_eq_true, Bool.not_true, Bool.not_false, eq_self, D.len_l, wr64, not_true_eq_false, not_false_eq_true]); exact valid_gen) ?_
              rintro _ ρ2 rfl eρ
              refine ⟨rfl, ?_⟩
              simp only [List.cons_append, List.nil_append] at eρ
              subst eρ
              refine To.viaK (by (try simp (disch := omega) only [X.den, X.dens, X.denss, D.int_i, D.boo_b, D.str_s, D.rows_l, List.getD_cons_zero, List.getD_cons_succ, List.cons_append, List.nil_append, List.append_nil, List.length_cons, List.length_nil, decide_eq_true_eq, decide_eq_false_iff_not, Bool.not_eq_true', Bool.not_eq_false', Bool.and_eq_true, Bool.and_eq_false_iff, Bool.true_eq_false, Bool.false_eq_true, Bool.not_true, Bool.not_false, eq_self, D.len_l, wr64, not_true_eq_false, not_false_eq_true]); exact rvalid_gen) ?_
              rintro _ ρ2 rfl eρ
              refine ⟨rfl, ?_⟩
              simp only [List.cons_append, List.nil_append] at eρ
              subst eρ
              refine To.yes (by simp only [X.den, X.dens, X.denss, D.int_i, D.boo_b, D.str_s, D.rows_l, List.getD_cons_zero, List.getD_cons_succ, List.cons_append, List.nil_append, List.append_nil, List.length_cons, List.length_nil, decide_eq_true_eq, decide_eq_false_iff_not, Bool.not_eq_true', Bool.not_eq_false', Bool.and_eq_true, Bool.and_eq_false_iff, Bool.true_eq_false, Bool.false_eq_true, Bool.not_true, Bool.not_false, eq_self]) (To.yes (by simp only [X.den, X.dens, X.denss, D.int_i, D.boo_b, D.str_s, D.rows_l, List.getD_cons_zero, List.getD_cons_succ, List.cons_append, List.nil_append, List.append_nil, List.length_cons, List.length_nil, decide_eq_true_eq, decide_eq_false_iff_not, Bool.not_eq_true', Bool.not_eq_false', Bool.and_eq_true, Bool.and_eq_false_iff, Bool.true_eq_false, Bool.false_eq_true, Bool.not_true, Bool.not_false, eq_self]) (To.yes (by simp only [X.den, X.dens, X.denss, D.int_i, D.boo_b, D.str_s, D.rows_l, List.getD_cons_zero, List.getD_cons_succ, List.cons_append, List.nil_append, List.append_nil, List.length_cons, List.length_nil, decide_eq_true_eq, decide_eq_false_iff_not, Bool.not_eq_true', Bool.not_eq_false', Bool.and_eq_true, Bool.and_eq_false_iff, Bool.true_eq_false, Bool.false_eq_true, Bool.not_true, Bool.not_false, eq_self]) (To.ret ⟨rfl, ?_⟩)))
              exact ⟨_, _, _, _, _, _, _, _, by simp only [X.den, X.dens, X.denss, D.int_i, D.boo_b, D.str_s, D.rows_l, List.getD_cons_zero, List.getD_cons_succ, List.cons_append, List.nil_append, List.append_nil, List.length_cons, List.length_nil, eq_self, decide_true, Bool.not_true]; rfl⟩
            rintro o ρ2 ⟨b1, b2, b3, b4, b5, b6, b7, b8, rfl⟩ eρ
            simp only [List.cons_append, List.nil_append] at eρ
            subst eρ
            refine To.no rfl ?_
            refine To.joinK (fun o => ∃ b, o = [.b b]) ?_ ?_
            · refine To.ite (fun c => ?_) (fun c => ?_)
              · exact To.ret ⟨rfl, _, by simp only [X.den, X.dens, X.denss, D.int_i, D.boo_b, D.str_s, D.rows_l, List.getD_cons_zero, List.getD_cons_succ, List.cons_append, List.nil_append, List.append_nil, List.length_cons, List.length_nil]; rfl⟩
              · exact To.ret ⟨rfl, _, by simp only [X.den, X.dens, X.denss, D.int_i, D.boo_b, D.str_s, D.rows_l, List.getD_cons_zero, List.getD_cons_succ, List.cons_append, List.nil_append, List.append_nil, List.length_cons, List.length_nil]; rfl⟩
            rintro o ρ2 ⟨b9, rfl⟩ eρ
            simp only [List.cons_append, List.nil_append] at eρ
            subst eρ
            refine To.ite (fun c => ?_) (fun c => ?_)
            · exact To.ret ⟨rfl, at_, _, by simp only [X.den, X.dens, X.denss, D.int_i, D.boo_b, D.str_s, D.rows_l, List.getD_cons_zero, List.getD_cons_succ, List.cons_append, List.nil_append, List.append_nil, List.length_cons, List.length_nil]; rfl, rfl, hs⟩
            · refine To.viaK (by (try simp (disch := omega) only [X.den, X.dens, X.denss, D.int_i, D.boo_b, D.str_s, D.rows_l, List.getD_cons_zero, List.getD_cons_succ, List.cons_append, List.nil_append, List.append_nil, List.length_cons, List.length_nil, decide_eq_true_eq, decide_eq_false_iff_not, Bool.not_eq_true', Bool.not_eq_false', Bool.and_eq_true, Bool.and_eq_false_iff, Bool.true_eq_false, Bool.false_eq_true, Bool.not_true, Bool.not_false, eq_self, D.len_l, wr64, not_true_eq_false, not_false_eq_true]); exact srcN_to hs (by omega) (by omega)) ?_
              rintro _ ρ2 ⟨d1, u1, rfl, e1, f1, g1⟩ eρ
              refine ⟨rfl, ?_⟩
              simp only [List.cons_append, List.nil_append] at eρ
              subst eρ
              refine To.viaK (by (try simp (disch := omega) only [X.den, X.dens, X.denss, D.int_i, D.boo_b, D.str_s, D.rows_l, List.getD_cons_zero, List.getD_cons_succ, List.cons_append, List.nil_append, List.append_nil, List.length_cons, List.length_nil, decide_eq_true_eq, decide_eq_false_iff_not, Bool.not_eq_true', Bool.not_eq_false', Bool.and_eq_true, Bool.and_eq_false_iff, Bool.true_eq_false, Bool.false_eq_true, Bool.not_true, Bool.not_false, eq_self, D.len_l, wr64, not_true_eq_false, not_false_eq_true]); exact srcN_to g1 (by omega) (by omega)) ?_
              rintro _ ρ2 ⟨d2, u2, rfl, e2, f2, g2⟩ eρ
              refine ⟨rfl, ?_⟩
              simp only [List.cons_append, List.nil_append] at eρ
              subst eρ
              refine To.need (by simp only [X.den, X.dens, X.denss, D.int_i, D.boo_b, D.str_s, D.rows_l, List.getD_cons_zero, List.getD_cons_succ, List.cons_append, List.nil_append, List.append_nil, List.length_cons, List.length_nil, decide_eq_true_eq, decide_eq_false_iff_not, Bool.not_eq_true', Bool.not_eq_false', Bool.and_eq_true, Bool.and_eq_false_iff, Bool.true_eq_false, Bool.false_eq_true, Bool.not_true, Bool.not_false, eq_self]; omega) ?_
              obtain ⟨od, eod⟩ := odd_pick e2 f2
              refine To.loopK (fun m o => ∃ at_ k : Int, o = [.l src, .i at_, .i k] ∧ SrcOk src at_ ∧ 0 ≤ k ∧ k + m = 3) (fun o => ∃ (at' : Int) (rest : List D), o = .i 1 :: .l src :: .i at' :: rest ∧ rest.length = 38 ∧ SrcOk src at') 3 (by omega) ?_ ?_ ?_
              · exact ⟨u2, 0, by simp only [X.den, X.dens, X.denss, D.int_i, D.boo_b, D.str_s, D.rows_l, List.getD_cons_zero, List.getD_cons_succ, List.cons_append, List.nil_append, List.append_nil, List.length_cons, List.length_nil], g2, by omega, by omega⟩
              · rintro m2 o ρ2 ⟨at2, k2, rfl, hs2, k20, k21⟩ eρ
                simp only [List.cons_append, List.nil_append] at eρ
                subst eρ
                refine To.ite (fun c => ?_) (fun c => ?_) <;> simp only [X.den, X.dens, X.denss, D.int_i, D.boo_b, D.str_s, D.rows_l, List.getD_cons_zero, List.getD_cons_succ, List.cons_append, List.nil_append, List.append_nil, List.length_cons, List.length_nil, decide_eq_true_eq, decide_eq_false_iff_not, Bool.not_eq_true', Bool.not_eq_false', Bool.and_eq_true, Bool.and_eq_false_iff, Bool.true_eq_false, Bool.false_eq_true, Bool.not_true, Bool.not_false, eq_self] at c
                · refine To.joinK (fun o => ∃ (at' : Int) (rest : List D), o = .i 1 :: .l src :: .i at' :: rest ∧ rest.length = 48 ∧ SrcOk src at') ?_ ?_
                  · refine To.joinK (fun o => ∃ t : Int, o = [.i t, .i t]) ?_ ?_
                    · refine To.ite (fun c => ?_) (fun c => ?_)
                      · exact To.ret ⟨rfl, total, by simp only [X.den, X.dens, X.denss, D.int_i, D.boo_b, D.str_s, D.rows_l, List.getD_cons_zero, List.getD_cons_succ, List.cons_append, List.nil_append, List.append_nil, List.length_cons, List.length_nil]⟩
                      · refine To.ite (fun c => ?_) (fun c => ?_)
                        · exact To.ret ⟨rfl, _, by simp only [X.den, X.dens, X.denss, D.int_i, D.boo_b, D.str_s, D.rows_l, List.getD_cons_zero, List.getD_cons_succ, List.cons_append, List.nil_append, List.append_nil, List.length_cons, List.length_nil]; rfl⟩
                        · exact To.ret ⟨rfl, od, by simp only [X.den, X.dens, X.denss, D.int_i, D.boo_b, D.str_s, D.rows_l, List.getD_cons_zero, List.getD_cons_succ, List.cons_append, List.nil_append, List.append_nil, List.length_cons, List.length_nil, X.denss, eod]⟩
                    rintro o ρ2 ⟨t, rfl⟩ eρ
                    simp only [List.cons_append, List.nil_append] at eρ
                    subst eρ
                    refine To.viaK (by (try simp (disch := omega) only [X.den, X.dens, X.denss, D.int_i, D.boo_b, D.str_s, D.rows_l, List.getD_cons_zero, List.getD_cons_succ, List.cons_append, List.nil_append, List.append_nil, List.length_cons, List.length_nil, decide_eq_true_eq, decide_eq_false_iff_not, Bool.not_eq_true', Bool.not_eq_false', Bool.and_eq_true, Bool.and_eq_false_iff, Bool.true_eq_false, Bool.false_eq_true, Bool.not_true, Bool.not_false, eq_self, D.len_l, wr64, not_true_eq_false, not_false_eq_true]); exact divide_spec (l := y) (t := t)) ?_
                    rintro _ ρ2 ⟨u, mi, er, rfl, su⟩ eρ
                    refine ⟨rfl, ?_⟩
                    simp only [List.cons_append, List.nil_append] at eρ
                    subst eρ
                    refine To.viaK (by (try simp (disch := omega) only [X.den, X.dens, X.denss, D.int_i, D.boo_b, D.str_s, D.rows_l, List.getD_cons_zero, List.getD_cons_succ, List.cons_append, List.nil_append, List.append_nil, List.length_cons, List.length_nil, decide_eq_true_eq, decide_eq_false_iff_not, Bool.not_eq_true', Bool.not_eq_false', Bool.and_eq_true, Bool.and_eq_false_iff, Bool.true_eq_false, Bool.false_eq_true, Bool.not_true, Bool.not_false, eq_self, D.len_l, wr64, not_true_eq_false, not_false_eq_true]); exact rdivide_spec (l := y) (t := t)) ?_
                    rintro _ ρ2 ⟨v, mi2, er2, rfl, sv⟩ eρ
                    refine ⟨rfl, ?_⟩
                    simp only [List.cons_append, List.nil_append] at eρ
                    subst eρ
                    obtain ⟨eq1, eq2, eq3⟩ := spec_same su sv
                    have lu := spec_len su
                    have lv := spec_len sv
                    have lu2 : u.length ≤ 20 := by omega
                    subst eq1 eq2
                    refine To.joinK (fun o => ∃ b1 b2 b3 b4 b5, o = [b1, b2, b3, b4, b5, .b false]) ?_ ?_
                    · refine To.viaK (by (try simp (disch := omega) only [X.den, X.dens, X.denss, D.int_i, D.boo_b, D.str_s, D.rows_l, List.getD_cons_zero, List.getD_cons_succ, List.cons_append, List.nil_append, List.append_nil, List.length_cons, List.length_nil, decide_eq_true_eq, decide_eq_false_iff_not, Bool.not_eq_true', Bool.not_eq_false', Bool.and_eq_true, Bool.and_eq_false_iff, Bool.true_eq_false, Bool.false_eq_true, Bool.not_true, Bool.not_false, eq_self, D.len_l, wr64, not_true_eq_false, not_false_eq_true]); exact ints_gen (x := u) (y := v) lu2) ?_
                      rintro _ ρ2 rfl eρ
                      refine ⟨rfl, ?_⟩
                      simp only [List.cons_append, List.nil_append] at eρ
                      subst eρ
                      rw [eq3]
                      refine To.yes rfl (To.yes (by simp only [X.den, X.dens, X.denss, D.int_i, D.boo_b, D.str_s, D.rows_l, List.getD_cons_zero, List.getD_cons_succ, List.cons_append, List.nil_append, List.append_nil, List.length_cons, List.length_nil, decide_eq_true_eq, decide_eq_false_iff_not, Bool.not_eq_true', Bool.not_eq_false', Bool.and_eq_true, Bool.and_eq_false_iff, Bool.true_eq_false, Bool.false_eq_true, Bool.not_true, Bool.not_false, eq_self]) (To.ret ⟨rfl, ?_⟩))
                      exact ⟨_, _, _, _, _, by simp only [X.den, X.dens, X.denss, D.int_i, D.boo_b, D.str_s, D.rows_l, List.getD_cons_zero, List.getD_cons_succ, List.cons_append, List.nil_append, List.append_nil, List.length_cons, List.length_nil, eq_self, decide_true, Bool.not_true]; rfl⟩
                    rintro o ρ2 ⟨b1, b2, b3, b4, b5, rfl⟩ eρ
                    simp only [List.cons_append, List.nil_append] at eρ
                    subst eρ
                    refine To.no rfl (To.need (by simp only [X.den, X.dens, X.denss, D.int_i, D.boo_b, D.str_s, D.rows_l, List.getD_cons_zero, List.getD_cons_succ, List.cons_append, List.nil_append, List.append_nil, List.length_cons, List.length_nil, decide_eq_true_eq, decide_eq_false_iff_not, Bool.not_eq_true', Bool.not_eq_false', Bool.and_eq_true, Bool.and_eq_false_iff, Bool.true_eq_false, Bool.false_eq_true, Bool.not_true, Bool.not_false, eq_self, D.len_l]; omega) ?_)
                    refine To.joinK (fun o => ∃ (w : List (List D)) (at' : Int), o = [.l w, .l src, .i at'] ∧ SrcOk src at') ?_ ?_
                    · have el : min (v.length : Int) 9223372036854775807 = v.length := by omega
                      refine To.ite (fun c => ?_) (fun c => ?_) <;> simp only [X.den, X.dens, X.denss, D.int_i, D.boo_b, D.str_s, D.rows_l, List.getD_cons_zero, List.getD_cons_succ, List.cons_append, List.nil_append, List.append_nil, List.length_cons, List.length_nil, decide_eq_true_eq, decide_eq_false_iff_not, Bool.not_eq_true', Bool.not_eq_false', Bool.and_eq_true, Bool.and_eq_false_iff, Bool.true_eq_false, Bool.false_eq_true, Bool.not_true, Bool.not_false, eq_self, D.len_l] at c
                      · refine To.viaK (by (try simp (disch := omega) only [X.den, X.dens, X.denss, D.int_i, D.boo_b, D.str_s, D.rows_l, List.getD_cons_zero, List.getD_cons_succ, List.cons_append, List.nil_append, List.append_nil, List.length_cons, List.length_nil, decide_eq_true_eq, decide_eq_false_iff_not, Bool.not_eq_true', Bool.not_eq_false', Bool.and_eq_true, Bool.and_eq_false_iff, Bool.true_eq_false, Bool.false_eq_true, Bool.not_true, Bool.not_false, eq_self, D.len_l, wr64, not_true_eq_false, not_false_eq_true, el]); exact srcN_to hs2 (by omega) (by omega)) ?_
                        rintro _ ρ2 ⟨i1, u3, rfl, e3, f3, g3⟩ eρ
                        refine ⟨rfl, ?_⟩
                        simp only [List.cons_append, List.nil_append] at eρ
                        subst eρ
                        refine To.need (by simp only [X.den, X.dens, X.denss, D.int_i, D.boo_b, D.str_s, D.rows_l, List.getD_cons_zero, List.getD_cons_succ, List.cons_append, List.nil_append, List.append_nil, List.length_cons, List.length_nil, decide_eq_true_eq, decide_eq_false_iff_not, Bool.not_eq_true', Bool.not_eq_false', Bool.and_eq_true, Bool.and_eq_false_iff, Bool.true_eq_false, Bool.false_eq_true, Bool.not_true, Bool.not_false, eq_self, D.len_l]; omega) ?_
                        refine To.viaK (by (try simp (disch := omega) only [X.den, X.dens, X.denss, D.int_i, D.boo_b, D.str_s, D.rows_l, List.getD_cons_zero, List.getD_cons_succ, List.cons_append, List.nil_append, List.append_nil, List.length_cons, List.length_nil, decide_eq_true_eq, decide_eq_false_iff_not, Bool.not_eq_true', Bool.not_eq_false', Bool.and_eq_true, Bool.and_eq_false_iff, Bool.true_eq_false, Bool.false_eq_true, Bool.not_true, Bool.not_false, eq_self, D.len_l, wr64, not_true_eq_false, not_false_eq_true, el]); exact srcN_to g3 (by omega) (by omega)) ?_
                        rintro _ ρ2 ⟨i2, u4, rfl, e4, f4, g4⟩ eρ
                        refine ⟨rfl, ?_⟩
                        simp only [List.cons_append, List.nil_append] at eρ
                        subst eρ
                        refine To.need (by simp only [X.den, X.dens, X.denss, D.int_i, D.boo_b, D.str_s, D.rows_l, List.getD_cons_zero, List.getD_cons_succ, List.cons_append, List.nil_append, List.append_nil, List.length_cons, List.length_nil, decide_eq_true_eq, decide_eq_false_iff_not, Bool.not_eq_true', Bool.not_eq_false', Bool.and_eq_true, Bool.and_eq_false_iff, Bool.true_eq_false, Bool.false_eq_true, Bool.not_true, Bool.not_false, eq_self, D.len_l]; omega) ?_
                        exact To.ret ⟨rfl, _, u4, by simp only [X.den, X.dens, X.denss, D.int_i, D.boo_b, D.str_s, D.rows_l, List.getD_cons_zero, List.getD_cons_succ, List.cons_append, List.nil_append, List.append_nil, List.length_cons, List.length_nil]; rfl, g4⟩
                      · exact To.ret ⟨rfl, v, at2, by simp only [X.den, X.dens, X.denss, D.int_i, D.boo_b, D.str_s, D.rows_l, List.getD_cons_zero, List.getD_cons_succ, List.cons_append, List.nil_append, List.append_nil, List.length_cons, List.length_nil], hs2⟩
                    rintro o ρ2 ⟨w, at3, rfl, hs3⟩ eρ
                    simp only [List.cons_append, List.nil_append] at eρ
                    subst eρ
                    refine To.loopK (fun m o => ∃ k : Int, o = [.i k] ∧ 0 ≤ k ∧ k + m = 3) (fun o => ∃ rest : List D, o = .i 1 :: rest ∧ rest.length = 61) 3 (by omega) ?_ ?_ ?_
                    · exact ⟨0, by simp only [X.den, X.dens, X.denss, D.int_i, D.boo_b, D.str_s, D.rows_l, List.getD_cons_zero, List.getD_cons_succ, List.cons_append, List.nil_append, List.append_nil, List.length_cons, List.length_nil], by omega, by omega⟩
                    · rintro m3 o ρ2 ⟨k3, rfl, k30, k31⟩ eρ
                      simp only [List.cons_append, List.nil_append] at eρ
                      subst eρ
                      refine To.ite (fun c => ?_) (fun c => ?_) <;> simp only [X.den, X.dens, X.denss, D.int_i, D.boo_b, D.str_s, D.rows_l, List.getD_cons_zero, List.getD_cons_succ, List.cons_append, List.nil_append, List.append_nil, List.length_cons, List.length_nil, decide_eq_true_eq, decide_eq_false_iff_not, Bool.not_eq_true', Bool.not_eq_false', Bool.and_eq_true, Bool.and_eq_false_iff, Bool.true_eq_false, Bool.false_eq_true, Bool.not_true, Bool.not_false, eq_self] at c
                      · refine To.joinK (fun o => ∃ z : List (List D), o = [.l z, .l z]) ?_ ?_
                        · refine To.ite (fun c => ?_) (fun c => ?_)
                          · exact To.ret ⟨rfl, v, by simp only [X.den, X.dens, X.denss, D.int_i, D.boo_b, D.str_s, D.rows_l, List.getD_cons_zero, List.getD_cons_succ, List.cons_append, List.nil_append, List.append_nil, List.length_cons, List.length_nil]⟩
                          · refine To.ite (fun c => ?_) (fun c => ?_)
                            · exact To.ret ⟨rfl, w, by simp only [X.den, X.dens, X.denss, D.int_i, D.boo_b, D.str_s, D.rows_l, List.getD_cons_zero, List.getD_cons_succ, List.cons_append, List.nil_append, List.append_nil, List.length_cons, List.length_nil]⟩
                            · exact To.ret ⟨rfl, xs, by simp only [X.den, X.dens, X.denss, D.int_i, D.boo_b, D.str_s, D.rows_l, List.getD_cons_zero, List.getD_cons_succ, List.cons_append, List.nil_append, List.append_nil, List.length_cons, List.length_nil]⟩
                        rintro o ρ2 ⟨z, rfl⟩ eρ
                        simp only [List.cons_append, List.nil_append] at eρ
                        subst eρ
                        refine To.viaK (by (try simp (disch := omega) only [X.den, X.dens, X.denss, D.int_i, D.boo_b, D.str_s, D.rows_l, List.getD_cons_zero, List.getD_cons_succ, List.cons_append, List.nil_append, List.append_nil, List.length_cons, List.length_nil, decide_eq_true_eq, decide_eq_false_iff_not, Bool.not_eq_true', Bool.not_eq_false', Bool.and_eq_true, Bool.and_eq_false_iff, Bool.true_eq_false, Bool.false_eq_true, Bool.not_true, Bool.not_false, eq_self, D.len_l, wr64, not_true_eq_false, not_false_eq_true]); exact sum_gen (l := y) (x := z)) ?_
                        rintro _ ρ2 rfl eρ
                        refine ⟨rfl, ?_⟩
                        simp only [List.cons_append, List.nil_append] at eρ
                        subst eρ
                        refine To.viaK (by (try simp (disch := omega) only [X.den, X.dens, X.denss, D.int_i, D.boo_b, D.str_s, D.rows_l, List.getD_cons_zero, List.getD_cons_succ, List.cons_append, List.nil_append, List.append_nil, List.length_cons, List.length_nil, decide_eq_true_eq, decide_eq_false_iff_not, Bool.not_eq_true', Bool.not_eq_false', Bool.and_eq_true, Bool.and_eq_false_iff, Bool.true_eq_false, Bool.false_eq_true, Bool.not_true, Bool.not_false, eq_self, D.len_l, wr64, not_true_eq_false, not_false_eq_true]); exact rsum_gen (l := y) (x := z)) ?_
                        rintro _ ρ2 rfl eρ
                        refine ⟨rfl, ?_⟩
                        simp only [List.cons_append, List.nil_append] at eρ
                        subst eρ
                        refine To.viaK (by (try simp (disch := omega) only [X.den, X.dens, X.denss, D.int_i, D.boo_b, D.str_s, D.rows_l, List.getD_cons_zero, List.getD_cons_succ, List.cons_append, List.nil_append, List.append_nil, List.length_cons, List.length_nil, decide_eq_true_eq, decide_eq_false_iff_not, Bool.not_eq_true', Bool.not_eq_false', Bool.and_eq_true, Bool.and_eq_false_iff, Bool.true_eq_false, Bool.false_eq_true, Bool.not_true, Bool.not_false, eq_self, D.len_l, wr64, not_true_eq_false, not_false_eq_true]); exact price_full (l := y) (x := z)) ?_
                        rintro _ ρ2 rfl eρ
                        refine ⟨rfl, ?_⟩
                        simp only [List.cons_append, List.nil_append] at eρ
                        subst eρ
                        refine To.viaK (by (try simp (disch := omega) only [X.den, X.dens, X.denss, D.int_i, D.boo_b, D.str_s, D.rows_l, List.getD_cons_zero, List.getD_cons_succ, List.cons_append, List.nil_append, List.append_nil, List.length_cons, List.length_nil, decide_eq_true_eq, decide_eq_false_iff_not, Bool.not_eq_true', Bool.not_eq_false', Bool.and_eq_true, Bool.and_eq_false_iff, Bool.true_eq_false, Bool.false_eq_true, Bool.not_true, Bool.not_false, eq_self, D.len_l, wr64, not_true_eq_false, not_false_eq_true]); exact rprice_full (l := y) (x := z)) ?_
                        rintro _ ρ2 rfl eρ
                        refine ⟨rfl, ?_⟩
                        simp only [List.cons_append, List.nil_append] at eρ
                        subst eρ
                        refine To.joinK (fun o => ∃ b1 b2 b3 b4 b5 b6 b7 b8, o = [b1, b2, b3, b4, b5, b6, b7, b8, .b false]) ?_ ?_
                        · refine To.yes (by simp only [X.den, X.dens, X.denss, D.int_i, D.boo_b, D.str_s, D.rows_l, List.getD_cons_zero, List.getD_cons_succ, List.cons_append, List.nil_append, List.append_nil, List.length_cons, List.length_nil, decide_eq_true_eq, decide_eq_false_iff_not, Bool.not_eq_true', Bool.not_eq_false', Bool.and_eq_true, Bool.and_eq_false_iff, Bool.true_eq_false, Bool.false_eq_true, Bool.not_true, Bool.not_false, eq_self]) (To.yes (by simp only [X.den, X.dens, X.denss, D.int_i, D.boo_b, D.str_s, D.rows_l, List.getD_cons_zero, List.getD_cons_succ, List.cons_append, List.nil_append, List.append_nil, List.length_cons, List.length_nil, decide_eq_true_eq, decide_eq_false_iff_not, Bool.not_eq_true', Bool.not_eq_false', Bool.and_eq_true, Bool.and_eq_false_iff, Bool.true_eq_false, Bool.false_eq_true, Bool.not_true, Bool.not_false, eq_self]) (To.yes (by simp only [X.den, X.dens, X.denss, D.int_i, D.boo_b, D.str_s, D.rows_l, List.getD_cons_zero, List.getD_cons_succ, List.cons_append, List.nil_append, List.append_nil, List.length_cons, List.length_nil, decide_eq_true_eq, decide_eq_false_iff_not, Bool.not_eq_true', Bool.not_eq_false', Bool.and_eq_true, Bool.and_eq_false_iff, Bool.true_eq_false, Bool.false_eq_true, Bool.not_true, Bool.not_false, eq_self]) (To.yes (by simp only [X.den, X.dens, X.denss, D.int_i, D.boo_b, D.str_s, D.rows_l, List.getD_cons_zero, List.getD_cons_succ, List.cons_append, List.nil_append, List.append_nil, List.length_cons, List.length_nil, decide_eq_true_eq, decide_eq_false_iff_not, Bool.not_eq_true', Bool.not_eq_false', Bool.and_eq_true, Bool.and_eq_false_iff, Bool.true_eq_false, Bool.false_eq_true, Bool.not_true, Bool.not_false, eq_self]) (To.yes (by simp only [X.den, X.dens, X.denss, D.int_i, D.boo_b, D.str_s, D.rows_l, List.getD_cons_zero, List.getD_cons_succ, List.cons_append, List.nil_append, List.append_nil, List.length_cons, List.length_nil, beq_self_eq_true]) ?_))))
                          refine To.viaK (by (try simp (disch := omega) only [X.den, X.dens, X.denss, D.int_i, D.boo_b, D.str_s, D.rows_l, List.getD_cons_zero, List.getD_cons_succ, List.cons_append, List.nil_append, List.append_nil, List.length_cons, List.length_nil, decide_eq_true_eq, decide_eq_false_iff_not, Bool.not_eq_true', Bool.not_eq_false', Bool.and_eq_true, Bool.and_eq_false_iff, Bool.true_eq_false, Bool.false_eq_true, Bool.not_true, Bool.not_false, eq_self, D.len_l, wr64, not_true_eq_false, not_false_eq_true]); exact check_gen (l := y) (t := t) (x := z)) ?_
                          rintro _ ρ2 rfl eρ
                          refine ⟨rfl, ?_⟩
                          simp only [List.cons_append, List.nil_append] at eρ
                          subst eρ
                          refine To.viaK (by (try simp (disch := omega) only [X.den, X.dens, X.denss, D.int_i, D.boo_b, D.str_s, D.rows_l, List.getD_cons_zero, List.getD_cons_succ, List.cons_append, List.nil_append, List.append_nil, List.length_cons, List.length_nil, decide_eq_true_eq, decide_eq_false_iff_not, Bool.not_eq_true', Bool.not_eq_false', Bool.and_eq_true, Bool.and_eq_false_iff, Bool.true_eq_false, Bool.false_eq_true, Bool.not_true, Bool.not_false, eq_self, D.len_l, wr64, not_true_eq_false, not_false_eq_true]); exact rcheck_gen (l := y) (t := t) (x := z)) ?_
                          rintro _ ρ2 rfl eρ
                          refine ⟨rfl, ?_⟩
                          simp only [List.cons_append, List.nil_append] at eρ
                          subst eρ
                          exact To.ret ⟨rfl, _, _, _, _, _, _, _, _, by simp only [X.den, X.dens, X.denss, D.int_i, D.boo_b, D.str_s, D.rows_l, List.getD_cons_zero, List.getD_cons_succ, List.cons_append, List.nil_append, List.append_nil, List.length_cons, List.length_nil, beq_self_eq_true, Bool.not_true]; rfl⟩
                        rintro o ρ2 ⟨b1, b2, b3, b4, b5, b6, b7, b8, rfl⟩ eρ
                        simp only [List.cons_append, List.nil_append] at eρ
                        subst eρ
                        refine To.no rfl (To.ret (.inl ⟨rfl, m3 - 1, by omega, ?_⟩))
                        simp (disch := omega) only [X.den, X.dens, X.denss, D.int_i, D.boo_b, D.str_s, D.rows_l, List.getD_cons_zero, List.getD_cons_succ, List.cons_append, List.nil_append, List.append_nil, List.length_cons, List.length_nil, wr64]
                        exact ⟨_, rfl, by omega, by omega⟩
                      · exact To.ret (.inr ⟨rfl, _, by simp only [X.den, X.dens, X.denss, D.int_i, D.boo_b, D.str_s, D.rows_l, List.getD_cons_zero, List.getD_cons_succ, List.cons_append, List.nil_append, List.append_nil, List.length_cons, List.length_nil]; rfl, rfl⟩)
                    · rintro o ρ2 ⟨rest, rfl, hr⟩ eρ
                      simp only [List.cons_append, List.nil_append] at eρ
                      subst eρ
                      refine ⟨by simp only [List.length_cons, hr], To.no rfl (To.ret ⟨rfl, at3, _, by simp only [X.den, X.dens, X.denss, D.int_i, D.boo_b, D.str_s, D.rows_l, List.getD_cons_zero, List.getD_cons_succ, List.cons_append, List.nil_append, List.append_nil, List.length_cons, List.length_nil]; rfl, rfl, hs3⟩)⟩
                  rintro o ρ2 ⟨at', rest, rfl, hr, hs'⟩ eρ
                  simp only [List.cons_append, List.nil_append] at eρ
                  subst eρ
                  refine To.no rfl (To.ret (.inl ⟨rfl, m2 - 1, by omega, ?_⟩))
                  simp (disch := omega) only [X.den, X.dens, X.denss, D.int_i, D.boo_b, D.str_s, D.rows_l, List.getD_cons_zero, List.getD_cons_succ, List.cons_append, List.nil_append, List.append_nil, List.length_cons, List.length_nil, wr64]
                  exact ⟨_, _, rfl, hs', by omega, by omega⟩
                · exact To.ret (.inr ⟨rfl, at2, _, by simp only [X.den, X.dens, X.denss, D.int_i, D.boo_b, D.str_s, D.rows_l, List.getD_cons_zero, List.getD_cons_succ, List.cons_append, List.nil_append, List.append_nil, List.length_cons, List.length_nil]; rfl, rfl, hs2⟩)
              · rintro o ρ2 ⟨at', rest, rfl, hr, hs'⟩ eρ
                simp only [List.cons_append, List.nil_append] at eρ
                subst eρ
                refine ⟨by simp only [List.length_cons, hr], To.no rfl (To.ret ⟨rfl, at', _, by simp only [X.den, X.dens, X.denss, D.int_i, D.boo_b, D.str_s, D.rows_l, List.getD_cons_zero, List.getD_cons_succ, List.cons_append, List.nil_append, List.append_nil, List.length_cons, List.length_nil]; rfl, rfl, hs'⟩)⟩
          rintro o ρ2 ⟨at', rest, rfl, hr, hs'⟩ eρ
          simp only [List.cons_append, List.nil_append] at eρ
          subst eρ
          refine To.no rfl (To.ret (.inl ⟨rfl, m - 1, by omega, ?_⟩))
          simp (disch := omega) only [X.den, X.dens, X.denss, D.int_i, D.boo_b, D.str_s, D.rows_l, List.getD_cons_zero, List.getD_cons_succ, List.cons_append, List.nil_append, List.append_nil, List.length_cons, List.length_nil, wr64]
          exact ⟨_, _, rfl, hs', by omega, by omega⟩
        · exact To.ret (.inr ⟨rfl, _, _, by simp only [X.den, X.dens, X.denss, D.int_i, D.boo_b, D.str_s, D.rows_l, List.getD_cons_zero, List.getD_cons_succ, List.cons_append, List.nil_append, List.append_nil, List.length_cons, List.length_nil]; rfl⟩)
      · rintro o ρ2 ⟨r1, r2, rfl⟩ eρ
        simp only [List.cons_append, List.nil_append] at eρ
        subst eρ
        refine ⟨rfl, To.no rfl ?_⟩
        refine To.callK (l := [.b true]) rfl rfl _ (by simp only [List.cons_append, List.nil_append]; first | done | rfl) ?_
        exact To.ret (by simp only [X.den, X.dens, X.denss, D.int_i, D.boo_b, D.str_s, D.rows_l, List.getD_cons_zero, List.getD_cons_succ, List.cons_append, List.nil_append, List.append_nil, List.length_cons, List.length_nil])
    · cases h
def ShareExact_ps : List PK := shExa_K.ps
theorem ShareExact_all : Fx.LawOk Try.prog 3 ShareExact_ps :=
  law_all ShareExact_ok rfl (by kernel_rfl) fun ds hw => by
    have hw' : WfR [.sl [.int .i64], .sl [.int .i64, .int .i64, .int .i64], .int .i64, .sl [.int .i64]] ds := hw
    simp only [WfR, WfC] at hw'
    obtain ⟨d0, ds0, rfl, ⟨r0, rfl, _, _⟩, d1, ds1, rfl, ⟨r1, rfl, _, _⟩, d2, ds2, rfl, ⟨z, rfl, _⟩, d3, ds3, rfl, ⟨r3, rfl, _, _⟩, rfl⟩ := hw'
    rfl
end Go.Proofs.Ytlhnhidoljfnnaa
