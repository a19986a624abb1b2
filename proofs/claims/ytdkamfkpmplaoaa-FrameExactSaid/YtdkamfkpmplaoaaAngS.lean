/- What the source gives of angles, arcs and numbers out of range; the example of law 2; the tree of AngleExact. -/
import Derived.Test.YtdkamfkpmplaoaaAngT
set_option linter.unusedVariables false
namespace Go.Proofs.Ytdkamfkpmplaoaa
open Go.RowKit Fx
def srcOdd_K : Con := ⟨11, [.ptr [.sl [.int .i64], .int .i64]], [.val false [.int .i64]], []⟩
def srcOdd_T : T (List X) :=
  (.call 10 [(.V 0), (.V 1), (.N 15)] 3
  (.need (.and (.not (.lt (.V 2) (.N 0))) (.lt (.V 2) (.N 15)))
   (.ret [(.at (.rows [[(.N (-1))], [(.N 0)], [(.N 1)], [(.N 4611686018427387904)], [(.N (-4611686018427387904))], [(.N 9223372036854775807)], [(.N (-9223372036854775808))], [(.N 1000000000)], [(.N 1000000001)], [(.N (-1000000001))], [(.N 3600)], [(.N 1800)], [(.N 100000000)], [(.N 100000001)], [(.N 5001)]]) (.V 2) 0), (.V 3), (.V 4)])))
set_option maxRecDepth 100000 in
theorem srcOdd_t : runS Try.prog [srcN_K.to []] [] srcOdd_K = srcOdd_T := by kernel_rfl
def srcArc_K : Con := ⟨23, [.ptr [.sl [.int .i64], .int .i64]], [.val true [.int .i64, .int .i64]], []⟩
def srcArc_T : T (List X) :=
  (.call 10 [(.V 0), (.V 1), (.N 7)] 3
  (.need (.and (.not (.lt (.V 2) (.N 0))) (.lt (.V 2) (.N 7)))
   (.call 10 [(.V 3), (.V 4), (.N 5)] 3
    (.need (.and (.not (.lt (.V 5) (.N 0))) (.lt (.V 5) (.N 5)))
     (.ret [(.at (.rows [[(.N 0)], [(.N 450)], [(.N 800)], [(.N 1350)], [(.N 1800)], [(.N 2600)], [(.N 3500)]]) (.V 2) 0), (.rem (.wr .i64 (.add (.at (.rows [[(.N 0)], [(.N 450)], [(.N 800)], [(.N 1350)], [(.N 1800)], [(.N 2600)], [(.N 3500)]]) (.V 2) 0) (.at (.rows [[(.N 0)], [(.N 100)], [(.N 300)], [(.N 900)], [(.N 1799)]]) (.V 5) 0))) (.N 3600)), (.V 6), (.V 7)])))))
set_option maxRecDepth 100000 in
theorem srcArc_t : runS Try.prog [srcN_K.to []] [] srcArc_K = srcArc_T := by kernel_rfl
def sane02_K : Con := ⟨32, [], [.val false [.bool]], []⟩
def sane02_T : T (List X) :=
  (.ret [(.B true)])
set_option maxRecDepth 100000 in
theorem sane02_t : runS Try.prog [] [] sane02_K = sane02_T := by kernel_rfl
def aExact_H : List Hint := [
  ⟨16108927006, 13, [], ⟨[.und, .int .i64 (.V 1), .int .i64 (.V 2), .int .i64 (.V 3), .int .i64 (.V 4), .und, .und, .und, .und, .und, .und, .ptr 0 0, .bool (.B false), .ptr 1 0, .und, .und, .und, .und, .und, .und, .und, .und, .und, .und, .und, .und, .und, .und, .und, .und, .agg [.int .i64 (.V 1), .int .i64 (.V 2), .int .i64 (.V 7), .int .i64 (.V 10)], .int .i64 (.V 15), .und, .und, .und, .und, .und, .und, .und, .und, .und, .und, .und, .und, .und, .und, .und, .und, .und, .und, .und, .und, .und, .und, .und, .und, .und, .und, .und, .und, .und, .und, .und, .und, .und, .und, .und, .und, .und, .und, .und, .und, .und, .und, .und, .und, .und, .und, .und, .und, .und, .und, .und, .und, .und, .und, .und, .und, .und, .und, .und, .und, .und, .und, .und, .und, .und, .und, .und, .und, .und, .und, .und, .und, .und, .und, .und, .und, .und, .und, .und, .und, .und, .und, .und, .und, .und, .und, .und, .und, .und, .und, .und, .und, .und, .und, .und, .und, .und, .und, .und, .und, .und, .und, .und, .und, .und, .und, .und, .und, .und, .und, .und, .und, .und, .und, .und, .und, .und, .und, .und, .und, .und, .und], [.fix [.int .i64 (.V 5), .int .i64 (.V 6)] true, .fix [.var 4, .int .i64 (.V 14)] true], 16, 5, [none, none, none, none, none, none, none, none, none, none, none, none, none, none, none, some (0, 4611686018427387904)], [], [⟨0, [.int .i64], (.V 0)⟩, ⟨1, [.int .i64], (.take (.V 0) (.mn (.len (.V 0)) (.N 600)))⟩, ⟨2, [.int .i64], (.V 8)⟩, ⟨3, [.int .i64], (.V 11)⟩, ⟨4, [.int .i64], (.V 13)⟩]⟩⟩,
  ⟨16108927006, 28, [], ⟨[.und, .int .i64 (.V 1), .int .i64 (.V 2), .int .i64 (.V 3), .int .i64 (.V 4), .und, .und, .und, .und, .und, .und, .ptr 0 0, .bool (.B false), .ptr 1 0, .und, .int .i64 (.V 16), .und, .und, .und, .und, .und, .und, .und, .und, .und, .und, .und, .und, .und, .und, .agg [.int .i64 (.V 1), .int .i64 (.V 2), .int .i64 (.V 7), .int .i64 (.V 10)], .int .i64 (.V 15), .bool (.lt (.V 15) (.N 4)), .int .i64 (.V 17), .int .i64 (.V 16), .int .i64 (.V 18), .int .i64 (.V 16), .int .i64 (.V 19), .bool (.V 20), .bool (.V 21), .und, .und, .und, .und, .und, .bool (.V 22), .bool (.V 23), .und, .und, .und, .und, .und, .bool (.V 24), .int .i64 (.V 1), .int .i64 (.V 2), .ptr 1 0, .int .i64 (.V 25), .agg [.int .i64 (.V 1), .int .i64 (.V 2), .int .i64 (.V 25)], .int .i64 (.V 28), .und, .und, .und, .und, .und, .und, .und, .und, .und, .und, .und, .und, .und, .und, .und, .und, .und, .und, .und, .und, .und, .und, .und, .und, .und, .und, .und, .und, .und, .und, .und, .und, .und, .und, .und, .und, .und, .und, .und, .und, .und, .und, .und, .und, .und, .und, .und, .und, .und, .und, .und, .und, .und, .und, .und, .und, .und, .und, .und, .und, .und, .und, .und, .und, .und, .und, .und, .und, .und, .und, .und, .und, .und, .und, .und, .und, .und, .und, .und, .und, .und, .und, .und, .und, .und, .und, .und, .und, .und, .und, .und, .und, .und, .und, .und], [.fix [.int .i64 (.V 5), .int .i64 (.V 6)] true, .fix [.var 5, .int .i64 (.V 27)] true], 29, 6, [none, none, none, none, none, none, none, none, none, none, none, none, none, none, none, some (0, 3), none, none, none, none, none, none, none, none, none, none, none, none, some (0, 4611686018427387904)], [], [⟨0, [.int .i64], (.V 0)⟩, ⟨1, [.int .i64], (.take (.V 0) (.mn (.len (.V 0)) (.N 600)))⟩, ⟨2, [.int .i64], (.V 8)⟩, ⟨3, [.int .i64], (.V 11)⟩, ⟨4, [.int .i64], (.V 13)⟩, ⟨5, [.int .i64], (.V 26)⟩]⟩⟩,
  ⟨16108927006, 53, [], ⟨[.und, .int .i64 (.V 1), .int .i64 (.V 2), .int .i64 (.V 3), .int .i64 (.V 4), .und, .und, .und, .und, .und, .und, .ptr 0 0, .bool (.B false), .ptr 1 0, .und, .int .i64 (.V 16), .und, .und, .und, .und, .und, .und, .und, .und, .und, .und, .und, .und, .und, .und, .agg [.int .i64 (.V 1), .int .i64 (.V 2), .int .i64 (.V 7), .int .i64 (.V 10)], .int .i64 (.V 15), .bool (.lt (.V 15) (.N 4)), .int .i64 (.V 17), .int .i64 (.V 16), .int .i64 (.V 18), .int .i64 (.V 16), .int .i64 (.V 19), .bool (.V 20), .bool (.V 21), .und, .und, .und, .und, .und, .bool (.V 22), .bool (.V 23), .und, .und, .und, .und, .und, .bool (.V 24), .int .i64 (.V 1), .int .i64 (.V 2), .ptr 1 0, .int .i64 (.V 25), .agg [.int .i64 (.V 1), .int .i64 (.V 2), .int .i64 (.V 25)], .int .i64 (.V 29), .bool (.V 30), .und, .und, .und, .und, .und, .und, .und, .und, .und, .int .i64 (.V 3), .int .i64 (.V 4), .agg [.int .i64 (.V 3), .int .i64 (.V 4)], .ptr 1 0, .int .i64 (.wr .i64 (.add (.N (-50)) (.V 38))), .ptr 1 0, .int .i64 (.wr .i64 (.add (.N (-50)) (.V 41))), .agg [.int .i64 (.wr .i64 (.add (.N (-50)) (.V 38))), .int .i64 (.wr .i64 (.add (.N (-50)) (.V 41)))], .ptr 1 0, .int .i64 (.wr .i64 (.add (.N (-2)) (.V 44))), .agg [.int .i64 (.N 0), .int .i64 (.wr .i64 (.add (.N (-2)) (.V 44)))], .ptr 1 0, .int .i64 (.V 47), .ptr 1 0, .int .i64 (.V 50), .agg [.int .i64 (.V 47), .int .i64 (.V 50)], .agg [.int .i64 (.V 3), .int .i64 (.V 4), .int .i64 (.wr .i64 (.add (.N (-50)) (.V 38))), .int .i64 (.wr .i64 (.add (.N (-50)) (.V 41))), .int .i64 (.N 0), .int .i64 (.wr .i64 (.add (.N (-2)) (.V 44))), .int .i64 (.V 47), .int .i64 (.V 50)], .int .i64 (.V 55), .und, .und, .und, .und, .und, .und, .und, .und, .und, .und, .und, .und, .und, .und, .und, .und, .und, .und, .und, .und, .und, .und, .und, .und, .und, .und, .und, .und, .und, .und, .und, .und, .und, .und, .und, .und, .und, .und, .und, .und, .und, .und, .und, .und, .und, .und, .und, .und, .und, .und, .und, .und, .und, .und, .und, .und, .und, .und, .und, .und, .und, .und, .und, .und, .und, .und, .und], [.fix [.int .i64 (.V 5), .int .i64 (.V 6)] true, .fix [.var 11, .int .i64 (.V 54)] true], 56, 12, [none, none, none, none, none, none, none, none, none, none, none, none, none, none, none, some (0, 3), none, none, none, none, none, none, none, none, none, none, none, none, none, some (3, 4611686018427387904), none, none, none, none, none, none, none, none, none, none, none, none, none, none, none, none, none, none, none, none, none, none, none, none, none, some (0, 4611686018427387904)], [], [⟨0, [.int .i64], (.V 0)⟩, ⟨1, [.int .i64], (.take (.V 0) (.mn (.len (.V 0)) (.N 600)))⟩, ⟨2, [.int .i64], (.V 8)⟩, ⟨3, [.int .i64], (.V 11)⟩, ⟨4, [.int .i64], (.V 13)⟩, ⟨5, [.int .i64], (.V 26)⟩, ⟨6, [.int .i64], (.V 39)⟩, ⟨7, [.int .i64], (.V 42)⟩, ⟨8, [.int .i64], (.V 45)⟩, ⟨9, [.int .i64], (.V 48)⟩, ⟨10, [.int .i64], (.V 51)⟩, ⟨11, [.int .i64], (.V 53)⟩]⟩⟩,
  ⟨16108927006, 72, [], ⟨[.und, .int .i64 (.V 1), .int .i64 (.V 2), .int .i64 (.V 3), .int .i64 (.V 4), .und, .und, .und, .und, .und, .und, .ptr 0 0, .bool (.B false), .ptr 1 0, .und, .int .i64 (.V 16), .und, .und, .und, .ptr 2 0, .und, .und, .und, .und, .und, .und, .und, .und, .und, .und, .agg [.int .i64 (.V 1), .int .i64 (.V 2), .int .i64 (.V 7), .int .i64 (.V 10)], .int .i64 (.V 15), .bool (.lt (.V 15) (.N 4)), .int .i64 (.V 17), .int .i64 (.V 16), .int .i64 (.V 18), .int .i64 (.V 16), .int .i64 (.V 19), .bool (.V 20), .bool (.V 21), .und, .und, .und, .und, .und, .bool (.V 22), .bool (.V 23), .und, .und, .und, .und, .und, .bool (.V 24), .int .i64 (.V 1), .int .i64 (.V 2), .ptr 1 0, .int .i64 (.V 25), .agg [.int .i64 (.V 1), .int .i64 (.V 2), .int .i64 (.V 25)], .int .i64 (.V 29), .bool (.V 30), .und, .und, .und, .und, .und, .und, .und, .und, .und, .int .i64 (.V 3), .int .i64 (.V 4), .agg [.int .i64 (.V 3), .int .i64 (.V 4)], .ptr 1 0, .int .i64 (.wr .i64 (.add (.N (-50)) (.V 38))), .ptr 1 0, .int .i64 (.wr .i64 (.add (.N (-50)) (.V 41))), .agg [.int .i64 (.wr .i64 (.add (.N (-50)) (.V 38))), .int .i64 (.wr .i64 (.add (.N (-50)) (.V 41)))], .ptr 1 0, .int .i64 (.wr .i64 (.add (.N (-2)) (.V 44))), .agg [.int .i64 (.N 0), .int .i64 (.wr .i64 (.add (.N (-2)) (.V 44)))], .ptr 1 0, .int .i64 (.V 47), .ptr 1 0, .int .i64 (.V 50), .agg [.int .i64 (.V 47), .int .i64 (.V 50)], .agg [.int .i64 (.V 3), .int .i64 (.V 4), .int .i64 (.wr .i64 (.add (.N (-50)) (.V 38))), .int .i64 (.wr .i64 (.add (.N (-50)) (.V 41))), .int .i64 (.N 0), .int .i64 (.wr .i64 (.add (.N (-2)) (.V 44))), .int .i64 (.V 47), .int .i64 (.V 50)], .int .i64 (.V 55), .bool (.lt (.V 55) (.N 4)), .agg [.int .i64 (.V 58), .int .i64 (.V 59)], .int .i64 (.V 16), .ptr 2 0, .int .i64 (.V 56), .ptr 2 1, .int .i64 (.V 57), .int .i64 (.V 60), .int .i64 (.V 16), .ptr 2 0, .int .i64 (.V 56), .ptr 2 1, .int .i64 (.V 57), .int .i64 (.V 61), .bool (.not (.eq (.V 60) (.V 61))), .agg [.int .i64 (.V 5), .int .i64 (.V 6)], .ptr 1 0, .agg [.int .i64 (.V 62), .int .i64 (.V 63)], .ptr 1 0, .int .i64 (.wr .i64 (.add (.N (-5)) (.V 66))), .ptr 1 0, .int .i64 (.wr .i64 (.add (.N (-5)) (.V 69))), .agg [.int .i64 (.wr .i64 (.add (.N (-5)) (.V 66))), .int .i64 (.wr .i64 (.add (.N (-5)) (.V 69)))], .agg [.int .i64 (.V 5), .int .i64 (.V 6), .int .i64 (.V 62), .int .i64 (.V 63), .int .i64 (.wr .i64 (.add (.N (-5)) (.V 66))), .int .i64 (.wr .i64 (.add (.N (-5)) (.V 69)))], .int .i64 (.V 72), .und, .und, .und, .und, .und, .und, .und, .und, .und, .und, .und, .und, .und, .und, .und, .und, .und, .und, .und, .und, .und, .und, .und, .und, .und, .und, .und, .und, .und, .und, .und, .und, .und, .und, .und, .und, .und, .und, .und, .und, .und, .und], [.fix [.int .i64 (.V 5), .int .i64 (.V 6)] true, .fix [.var 14, .int .i64 (.V 71)] true, .fix [.int .i64 (.V 56), .int .i64 (.V 57)] true], 73, 15, [none, none, none, none, none, none, none, none, none, none, none, none, none, none, none, some (0, 3), none, none, none, none, none, none, none, none, none, none, none, none, none, some (3, 4611686018427387904), none, none, none, none, none, none, none, none, none, none, none, none, none, none, none, none, none, none, none, none, none, none, none, none, none, some (0, 3), none, none, none, none, none, none, none, none, none, none, none, none, none, none, none, none, some (0, 4611686018427387904)], [], [⟨0, [.int .i64], (.V 0)⟩, ⟨1, [.int .i64], (.take (.V 0) (.mn (.len (.V 0)) (.N 600)))⟩, ⟨2, [.int .i64], (.V 8)⟩, ⟨3, [.int .i64], (.V 11)⟩, ⟨4, [.int .i64], (.V 13)⟩, ⟨5, [.int .i64], (.V 26)⟩, ⟨6, [.int .i64], (.V 39)⟩, ⟨7, [.int .i64], (.V 42)⟩, ⟨8, [.int .i64], (.V 45)⟩, ⟨9, [.int .i64], (.V 48)⟩, ⟨10, [.int .i64], (.V 51)⟩, ⟨11, [.int .i64], (.V 53)⟩, ⟨12, [.int .i64], (.V 64)⟩, ⟨13, [.int .i64], (.V 67)⟩, ⟨14, [.int .i64], (.V 70)⟩]⟩⟩]
def aExact_K : Con := ⟨3, [.val false [.sl [.int .i64]], .val false [.int .i64], .val false [.int .i64], .val false [.int .i64], .val false [.int .i64], .val true [.int .i64, .int .i64]], [.val false [.bool]], []⟩
def aExact_T : T (List X) :=
  (.need (.not (.lt (.len (.V 0)) (.mn (.len (.V 0)) (.N 600))))
  (.call 10 [(.take (.V 0) (.mn (.len (.V 0)) (.N 600))), (.N 0), (.N 3600)] 3
   (.call 11 [(.V 8), (.V 9)] 3
    (.loop [(.V 11), (.V 12), (.N 0)]
     (.ite (.lt (.V 15) (.N 4))
      (.sub (.sub (.ite (.eq (.V 15) (.N 0))
         (.ret [(.V 1), (.V 1)])
         (.ite (.eq (.V 15) (.N 1))
          (.ret [(.V 2), (.V 2)])
          (.ite (.eq (.V 15) (.N 2))
           (.ret [(.V 7), (.V 7)])
           (.ret [(.V 10), (.V 10)])))) 2
        (.sub (.call 12 [(.V 16)] 1
          (.call 13 [(.V 16)] 1
           (.ite (.eq (.V 18) (.V 19))
            (.call 14 [(.V 16)] 1
             (.call 15 [(.V 16)] 1
              (.ite (.eq (.V 20) (.V 21))
               (.call 16 [(.V 16)] 1
                (.call 17 [(.V 16)] 1
                 (.ret [(.V 18), (.V 19), (.not (.eq (.V 18) (.V 19))), (.not (.eq (.V 18) (.V 19))), (.not (.eq (.V 20) (.V 21))), (.not (.eq (.V 20) (.V 21))), (.not (.eq (.V 22) (.V 23)))])))
               (.ret [(.V 18), (.V 19), (.not (.eq (.V 18) (.V 19))), (.not (.eq (.V 18) (.V 19))), (.not (.eq (.V 20) (.V 21))), (.not (.eq (.V 20) (.V 21))), (.B true)]))))
            (.ret [(.V 18), (.V 19), (.not (.eq (.V 18) (.V 19))), (.not (.eq (.V 18) (.V 19))), (.B true), (.B true), (.B true)])))) 7
         (.ite (.V 24)
          (.ret [(.N 0), (.V 13), (.V 14), (.V 16), (.V 17), (.V 16), (.V 18), (.V 16), (.V 19), (.V 20), (.V 21), (.V 22), (.V 23), (.V 24), (.N 0), (.N 0), (.N 0), (.N 0), (.N 0), (.N 0), (.N 0), (.N 0), (.N 0), (.N 0), (.N 0), (.N 0), (.N 0), (.N 0), (.N 0), (.N 0), (.N 0), (.N 0), (.N 0), (.N 0), (.N 0)])
          (.call 10 [(.V 13), (.V 14), (.N 3600)] 3
           (.loop [(.N 0)]
            (.ite (.lt (.V 28) (.N 3))
             (.sub (.ite (.eq (.V 28) (.N 0))
               (.ret [(.V 1), (.V 1)])
               (.ite (.eq (.V 28) (.N 1))
                (.ret [(.V 2), (.V 2)])
                (.ret [(.V 25), (.V 25)]))) 2
              (.call 18 [(.V 16), (.V 29)] 1
               (.call 19 [(.V 16), (.V 29)] 1
                (.ite (.eq (.V 31) (.V 32))
                 (.ret (true, [(.add (.V 28) (.N 1))]))
                 (.ret (false, [(.N 0), (.V 29), (.V 28), (.lt (.V 28) (.N 3)), (.V 30), (.V 29), (.V 31), (.V 29), (.V 32), (.not (.eq (.V 31) (.V 32)))]))))))
             (.ret (false, [(.N 1), (.V 28), (.lt (.V 28) (.N 3)), (.N 0), (.N 0), (.N 0), (.N 0), (.N 0), (.N 0), (.N 0)]))) 10
            (.ite (.eq (.V 28) (.N 0))
             (.ret [(.N 0), (.V 26), (.V 27), (.V 16), (.V 17), (.V 16), (.V 18), (.V 16), (.V 19), (.V 20), (.V 21), (.V 22), (.V 23), (.V 24), (.N 0), (.N 0), (.N 0), (.N 0), (.N 0), (.N 0), (.N 0), (.N 0), (.N 0), (.N 0), (.N 0), (.N 0), (.N 0), (.N 0), (.N 0), (.N 0), (.N 0), (.N 0), (.N 0), (.N 0), (.N 0)])
             (.call 10 [(.V 26), (.V 27), (.N 101)] 3
              (.call 10 [(.V 39), (.V 40), (.N 101)] 3
               (.call 10 [(.V 42), (.V 43), (.N 5)] 3
                (.call 11 [(.V 45), (.V 46)] 3
                 (.call 11 [(.V 48), (.V 49)] 3
                  (.loop [(.V 51), (.V 52), (.N 0)]
                   (.ite (.lt (.V 55) (.N 4))
                    (.sub (.sub (.ite (.eq (.V 55) (.N 0))
                       (.ret [(.V 3), (.V 4), (.V 3), (.V 4)])
                       (.ite (.eq (.V 55) (.N 1))
                        (.ret [(.wr .i64 (.add (.N (-50)) (.V 38))), (.wr .i64 (.add (.N (-50)) (.V 41))), (.wr .i64 (.add (.N (-50)) (.V 38))), (.wr .i64 (.add (.N (-50)) (.V 41)))])
                        (.ite (.eq (.V 55) (.N 2))
                         (.ret [(.N 0), (.wr .i64 (.add (.N (-2)) (.V 44))), (.N 0), (.wr .i64 (.add (.N (-2)) (.V 44)))])
                         (.ret [(.V 47), (.V 50), (.V 47), (.V 50)])))) 4
                      (.call 21 [(.V 16), (.V 56), (.V 57)] 1
                       (.call 22 [(.V 16), (.V 56), (.V 57)] 1
                        (.ite (.eq (.V 60) (.V 61))
                         (.call 23 [(.V 53), (.V 54)] 4
                          (.call 10 [(.V 64), (.V 65), (.N 3611)] 3
                           (.call 10 [(.V 67), (.V 68), (.N 3611)] 3
                            (.loop [(.N 0)]
                             (.ite (.lt (.V 72) (.N 3))
                              (.sub (.ite (.eq (.V 72) (.N 0))
                                (.ret [(.V 5), (.V 6), (.V 5), (.V 6)])
                                (.ite (.eq (.V 72) (.N 1))
                                 (.ret [(.V 62), (.V 63), (.V 62), (.V 63)])
                                 (.ret [(.wr .i64 (.add (.N (-5)) (.V 66))), (.wr .i64 (.add (.N (-5)) (.V 69))), (.wr .i64 (.add (.N (-5)) (.V 66))), (.wr .i64 (.add (.N (-5)) (.V 69)))]))) 4
                               (.sub (.call 24 [(.V 73), (.V 74)] 1
                                 (.call 25 [(.V 73), (.V 74)] 1
                                  (.ite (.beq (.V 77) (.V 78))
                                   (.call 26 [(.V 73), (.V 74)] 1
                                    (.call 27 [(.V 73), (.V 74)] 1
                                     (.ite (.eq (.V 79) (.V 80))
                                      (.call 28 [(.V 73), (.V 74), (.V 16)] 1
                                       (.call 29 [(.V 73), (.V 74), (.V 16)] 1
                                        (.ite (.beq (.V 81) (.V 82))
                                         (.call 30 [(.V 73), (.V 74), (.V 56), (.V 57)] 1
                                          (.call 31 [(.V 73), (.V 74), (.V 56), (.V 57)] 1
                                           (.ret [(.V 77), (.V 78), (.not (.beq (.V 77) (.V 78))), (.not (.beq (.V 77) (.V 78))), (.not (.eq (.V 79) (.V 80))), (.not (.eq (.V 79) (.V 80))), (.not (.beq (.V 81) (.V 82))), (.not (.beq (.V 81) (.V 82))), (.not (.beq (.V 83) (.V 84)))])))
                                         (.ret [(.V 77), (.V 78), (.not (.beq (.V 77) (.V 78))), (.not (.beq (.V 77) (.V 78))), (.not (.eq (.V 79) (.V 80))), (.not (.eq (.V 79) (.V 80))), (.not (.beq (.V 81) (.V 82))), (.not (.beq (.V 81) (.V 82))), (.B true)]))))
                                      (.ret [(.V 77), (.V 78), (.not (.beq (.V 77) (.V 78))), (.not (.beq (.V 77) (.V 78))), (.not (.eq (.V 79) (.V 80))), (.not (.eq (.V 79) (.V 80))), (.B true), (.B true), (.B true)]))))
                                   (.ret [(.V 77), (.V 78), (.not (.beq (.V 77) (.V 78))), (.not (.beq (.V 77) (.V 78))), (.B true), (.B true), (.B true), (.B true), (.B true)])))) 9
                                (.ite (.V 85)
                                 (.ret (false, [(.N 0), (.V 73), (.V 74), (.V 72), (.lt (.V 72) (.N 3)), (.V 75), (.V 76), (.V 73), (.V 74), (.V 77), (.V 73), (.V 74), (.V 78), (.V 79), (.V 80), (.V 81), (.V 82), (.V 83), (.V 84), (.V 85)]))
                                 (.ret (true, [(.add (.V 72) (.N 1))])))))
                              (.ret (false, [(.N 1), (.V 72), (.lt (.V 72) (.N 3)), (.N 0), (.N 0), (.N 0), (.N 0), (.N 0), (.N 0), (.N 0), (.N 0), (.N 0), (.N 0), (.N 0), (.N 0), (.N 0), (.N 0), (.N 0), (.N 0), (.N 0)]))) 20
                             (.ite (.eq (.V 72) (.N 0))
                              (.ret [(.N 1), (.V 70), (.V 71), (.V 56), (.V 57), (.V 58), (.V 59), (.V 56), (.V 57), (.V 60), (.V 56), (.V 57), (.V 61), (.not (.eq (.V 60) (.V 61))), (.N 0), (.N 0), (.N 0), (.N 0), (.N 0), (.N 0), (.N 0), (.N 0), (.N 0), (.N 0), (.N 0), (.N 0)])
                              (.ret [(.N 0), (.V 70), (.V 71), (.V 56), (.V 57), (.V 58), (.V 59), (.V 56), (.V 57), (.V 60), (.V 56), (.V 57), (.V 61), (.not (.eq (.V 60) (.V 61))), (.V 62), (.V 63), (.wr .i64 (.add (.N (-5)) (.V 66))), (.wr .i64 (.add (.N (-5)) (.V 69))), (.wr .i64 (.add (.N (-5)) (.V 66))), (.wr .i64 (.add (.N (-5)) (.V 69))), (.V 62), (.V 63), (.wr .i64 (.add (.N (-5)) (.V 66))), (.wr .i64 (.add (.N (-5)) (.V 69))), (.V 73), (.V 74)]))))))
                         (.ret [(.N 1), (.V 53), (.V 54), (.V 56), (.V 57), (.V 58), (.V 59), (.V 56), (.V 57), (.V 60), (.V 56), (.V 57), (.V 61), (.not (.eq (.V 60) (.V 61))), (.N 0), (.N 0), (.N 0), (.N 0), (.N 0), (.N 0), (.N 0), (.N 0), (.N 0), (.N 0), (.N 0), (.N 0)]))))) 26
                     (.ite (.eq (.V 56) (.N 0))
                      (.ret (true, [(.V 57), (.V 58), (.add (.V 55) (.N 1))]))
                      (.ret (false, [(.N 0), (.V 57), (.V 58), (.V 59), (.V 60), (.V 55), (.lt (.V 55) (.N 4)), (.V 61), (.V 62), (.V 63), (.V 64), (.V 65), (.V 66), (.V 67), (.V 68), (.V 69)]))))
                    (.ret (false, [(.N 1), (.V 53), (.V 54), (.V 55), (.lt (.V 55) (.N 4)), (.N 0), (.N 0), (.N 0), (.N 0), (.N 0), (.N 0), (.N 0), (.N 0), (.N 0), (.N 0), (.N 0)]))) 16
                   (.ite (.eq (.V 53) (.N 0))
                    (.ret [(.N 0), (.V 54), (.V 55), (.V 16), (.V 17), (.V 16), (.V 18), (.V 16), (.V 19), (.V 20), (.V 21), (.V 22), (.V 23), (.V 24), (.N 0), (.N 0), (.N 0), (.N 0), (.N 0), (.N 0), (.N 0), (.N 0), (.N 0), (.N 0), (.N 0), (.N 0), (.N 0), (.N 0), (.N 0), (.N 0), (.N 0), (.N 0), (.N 0), (.N 0), (.N 0)])
                    (.ret [(.N 1), (.V 54), (.V 55), (.V 16), (.V 17), (.V 16), (.V 18), (.V 16), (.V 19), (.V 20), (.V 21), (.V 22), (.V 23), (.V 24), (.V 25), (.V 25), (.V 29), (.V 30), (.wr .i64 (.add (.N (-50)) (.V 38))), (.wr .i64 (.add (.N (-50)) (.V 41))), (.wr .i64 (.add (.N (-50)) (.V 38))), (.wr .i64 (.add (.N (-50)) (.V 41))), (.wr .i64 (.add (.N (-2)) (.V 44))), (.wr .i64 (.add (.N (-2)) (.V 44))), (.V 47), (.V 50), (.V 47), (.V 50), (.wr .i64 (.add (.N (-50)) (.V 38))), (.wr .i64 (.add (.N (-50)) (.V 41))), (.wr .i64 (.add (.N (-2)) (.V 44))), (.V 47), (.V 50), (.V 56), (.V 57)])))))))))))))) 35
       (.ite (.eq (.V 16) (.N 0))
        (.ret (false, [(.N 0), (.V 17), (.V 18)]))
        (.ret (true, [(.V 17), (.V 18), (.add (.V 15) (.N 1))]))))
      (.ret (false, [(.N 1), (.V 13), (.V 14)]))) 3
     (.ite (.eq (.V 13) (.N 0))
      (.ret [(.B false)])
      (.call 32 [] 1
       (.ret [(.V 16)])))))))
set_option maxRecDepth 100000 in
theorem aExact_t : runS Try.prog [srcN_K.to [], srcOdd_K.to [], srcArc_K.to [], pNorm_K.to [], rNorm_K.to [], pSin_K.to [], rSin_K.to [], pCos_K.to [], rCos_K.to [], pDiff_K.to [], rDiff_K.to [], pCross_K.to [], rCross_K.to [], pValid_K.to [], rValid_K.to [], pWidth_K.to [], rWidth_K.to [], pIn_K.to [], rIn_K.to [], pWithin_K.to [], rWithin_K.to [], sane02_K.to []] [(3, aExact_H)] aExact_K = aExact_T := by kernel_rfl
end Go.Proofs.Ytdkamfkpmplaoaa
