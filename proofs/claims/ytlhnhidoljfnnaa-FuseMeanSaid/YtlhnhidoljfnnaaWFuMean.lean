/- FuseMean. -/
import Derived.Test.YtlhnhidoljfnnaaFuZ
set_option linter.unusedVariables false
set_option linter.unusedSimpArgs false
namespace Go.Proofs.Ytlhnhidoljfnnaa
open Go.RowKit Fx Sh
def fuMean_H : List Hint := [
  ⟨2095217, 4, [.t [.int .i64, .int .i64, .int .i64, .int .i64] 5], ⟨[.ptr 0 0, .und, .und, .und, .con (.slice none 0 0), .var 4, .int .i64 (.V 7), .und, .und, .und, .und, .und, .und, .und, .und, .und, .und, .und, .und, .und, .und], [.fix [.var 5, .int .i64 (.V 6)] true, .rows [.int .i64, .int .i64, .int .i64, .int .i64] (.V 4) 4], 8, 6, [none, none, none, none, none, none, none, none], [], [⟨0, [.int .i64], (.V 0)⟩, ⟨1, [.int .i64], (.take (.V 0) (.mn (.len (.V 0)) (.N 600)))⟩, ⟨2, [.int .i64], (.V 2)⟩, ⟨5, [.int .i64], (.V 5)⟩]⟩⟩,
  ⟨1134915903125716979, 11, [.t [.int .i64, .int .i64, .int .i64, .int .i64] 10], ⟨[.und, .und, .bool (.B false), .und, .var 4, .ptr 2 0, .int .i64 (.V 9), .int .i64 (.V 10), .ptr 3 0, .ptr 4 0, .var 7, .int .i64 (.V 16), .und, .und, .und, .und, .und, .und, .und, .und, .und, .und, .und, .und, .und, .und, .und, .und, .und, .und, .und, .und, .und, .und, .und, .und, .und, .und, .und, .und, .und, .und, .und, .und, .und, .und, .und, .und, .und, .und, .und, .und, .und, .und, .und, .und, .und, .und, .und, .und, .und, .und, .und, .und, .und, .und, .und, .und, .und, .und, .und, .und, .und, .und, .und, .und, .und, .und, .und, .und, .und, .und, .und, .und, .und, .und, .und, .und, .und, .und, .und, .und, .und, .und, .und, .und, .und, .und, .und, .und, .und, .und, .und, .und, .und, .und, .und, .und, .und, .und, .und, .und, .und, .und, .und, .und, .und, .und, .und, .und, .und, .und, .und, .und, .und, .und, .und, .und, .und, .und, .und, .und, .und, .und, .und, .und, .und, .und, .und, .und, .und, .und, .und, .und, .und, .und, .und, .und, .und, .und, .und, .und, .und, .und, .und, .und, .und, .und, .und, .und, .und, .und, .und, .und, .und, .und, .und, .und, .und, .und, .und, .und, .und, .und, .und, .und, .und, .und, .und, .und, .und, .und, .und, .und, .und, .und, .und, .und, .und, .und, .und, .und, .und, .und, .und, .und, .und, .und, .und, .und, .und, .und, .und, .und, .und, .und, .und, .und, .und, .und, .und, .und, .und, .und, .und, .und, .und, .und, .und, .und, .und, .und, .und, .und, .und, .und, .und, .und, .und, .und, .und, .und, .und, .und, .und, .und, .und, .und, .und, .und, .und, .und, .und, .und, .und, .und, .und, .und, .und, .und, .und, .und, .und, .und, .und, .und, .und, .und, .und, .und, .und, .und, .und, .und, .und, .und, .und, .und, .und, .und, .und, .und, .und, .und, .und, .und, .und, .und, .und, .und, .und, .und, .und], [.fix [.var 5, .int .i64 (.V 6)] true, .rows [.int .i64, .int .i64, .int .i64, .int .i64] (.V 4) 4, .fix [.int .i64 (.V 7), .int .i64 (.V 8)] true, .fix [.int .i64 (.at (.V 4) (.N 0) 0), .int .i64 (.V 12), .int .i64 (.V 13), .int .i64 (.at (.V 4) (.N 0) 3)] true, .fix [.int .i64 (.at (.V 4) (.N 0) 0), .int .i64 (.V 14), .int .i64 (.V 15), .int .i64 (.at (.V 4) (.N 0) 3)] true, .rows [.int .i64, .int .i64, .int .i64, .int .i64] (.V 11) 7], 17, 8, [none, none, none, none, none, none, none, none, none, none, none, none, none, none, none, none, some ((-4611686018427387904), 9223372036854775806)], [], [⟨0, [.int .i64], (.V 0)⟩, ⟨1, [.int .i64], (.take (.V 0) (.mn (.len (.V 0)) (.N 600)))⟩, ⟨2, [.int .i64], (.V 2)⟩, ⟨5, [.int .i64], (.V 5)⟩]⟩⟩,
  ⟨8792733320196, 31, [], ⟨[.und, .und, .bool (.B false), .und, .und, .und, .und, .und, .und, .und, .var 7, .und, .und, .und, .und, .und, .ptr 7 0, .ptr 8 0, .bool (.V 25), .ptr 9 0, .ptr 10 0, .bool (.V 30), .und, .und, .und, .und, .und, .und, .und, .und, .und, .und, .und, .und, .und, .und, .und, .und, .und, .und, .und, .und, .und, .und, .und, .und, .und, .und, .und, .und, .und, .und, .und, .und, .und, .und, .und, .und, .und, .und, .und, .und, .und, .und, .und, .und, .und, .und, .und, .und, .und, .und, .und, .und, .und, .und, .und, .und, .und, .und, .und, .und, .und, .und, .und, .und, .und, .und, .und, .und, .und, .und, .und, .und, .und, .und, .und, .und, .und, .und, .und, .und, .und, .und, .und, .und, .und, .und, .und, .und, .und, .und, .und, .und, .und, .und, .und, .und, .und, .und, .und, .und, .und, .und, .und, .und, .und, .und, .und, .und, .und, .und, .und, .und, .und, .und, .und, .und, .und, .und, .und, .und, .und, .und, .und, .und, .und, .und, .und, .und, .und, .und, .var 4, .int .i64 (.len (.V 4)), .int .i64 (.V 31), .und, .und, .und, .und, .und, .und, .und, .und, .und, .und, .und, .und, .und, .und, .und, .und, .und, .und, .und, .und, .und, .und, .und, .und, .und, .und, .und, .und, .und, .und, .und, .und, .und, .und, .und, .und, .und, .und, .und, .und, .und, .und, .und, .und, .und, .und, .und, .und, .und, .und, .und, .und, .und, .und, .und, .und, .und, .und, .und, .und, .und, .und, .und, .und, .und, .und, .und, .und, .und, .und, .und, .und, .und, .und, .und, .und, .und, .und, .und, .und, .und, .und, .und, .und, .und, .und, .und, .und, .und, .und, .und, .und, .und, .und, .und, .und, .und, .und, .und, .und, .und, .und, .und, .und, .und, .und, .und, .und, .und, .und, .und, .und, .und, .und, .und, .und, .und, .und, .und, .und, .und, .und, .und, .und, .und, .und, .und, .und], [.fix [.var 5, .int .i64 (.V 6)] true, .rows [.int .i64, .int .i64, .int .i64, .int .i64] (.V 4) 4, .fix [.int .i64 (.V 7), .int .i64 (.V 8)] true, .fix [.int .i64 (.at (.V 4) (.N 0) 0), .int .i64 (.V 12), .int .i64 (.V 13), .int .i64 (.at (.V 4) (.N 0) 3)] true, .fix [.int .i64 (.at (.V 4) (.N 0) 0), .int .i64 (.V 14), .int .i64 (.V 15), .int .i64 (.at (.V 4) (.N 0) 3)] true, .rows [.int .i64, .int .i64, .int .i64, .int .i64] (.V 11) 7, .fix [.int .i64 (.V 16), .int .i64 (.V 17)] true, .fix [.int .i64 (.V 21), .int .i64 (.V 22)] true, .fix [.int .i64 (.V 23), .int .i64 (.V 24)] true, .fix [.int .i64 (.V 26), .int .i64 (.V 27)] true, .fix [.int .i64 (.V 28), .int .i64 (.V 29)] true], 32, 8, [none, none, none, none, none, none, none, none, none, none, none, none, none, none, none, none, none, none, none, none, none, none, none, none, none, none, none, none, none, none, none, none], [], [⟨0, [.int .i64], (.V 0)⟩, ⟨1, [.int .i64], (.take (.V 0) (.mn (.len (.V 0)) (.N 600)))⟩, ⟨2, [.int .i64], (.V 2)⟩, ⟨5, [.int .i64], (.V 5)⟩]⟩⟩,
  ⟨8797015770108, 36, [], ⟨[.und, .und, .bool (.B false), .und, .und, .und, .und, .und, .und, .und, .var 7, .und, .und, .und, .und, .und, .und, .und, .und, .und, .und, .und, .und, .und, .int .i64 (.V 37), .und, .und, .und, .und, .und, .und, .und, .und, .und, .und, .und, .und, .und, .und, .und, .und, .und, .und, .und, .und, .und, .und, .und, .und, .und, .und, .und, .und, .und, .und, .und, .und, .und, .und, .und, .und, .und, .und, .und, .und, .und, .und, .und, .und, .und, .und, .und, .und, .und, .und, .und, .und, .und, .und, .und, .und, .und, .und, .und, .und, .und, .und, .und, .und, .und, .und, .und, .und, .und, .und, .und, .und, .und, .und, .und, .und, .und, .und, .und, .und, .und, .und, .und, .und, .und, .und, .und, .und, .und, .und, .und, .und, .und, .und, .und, .und, .und, .und, .und, .und, .und, .und, .und, .und, .und, .und, .und, .und, .und, .und, .und, .und, .und, .und, .und, .und, .und, .und, .und, .und, .und, .und, .und, .und, .und, .und, .und, .und, .und, .und, .und, .und, .und, .und, .und, .und, .und, .und, .und, .und, .und, .und, .und, .und, .und, .und, .und, .und, .und, .und, .und, .und, .und, .und, .und, .und, .und, .und, .und, .und, .und, .und, .und, .und, .und, .und, .und, .und, .und, .und, .und, .und, .und, .und, .und, .und, .und, .und, .und, .und, .und, .und, .und, .und, .und, .und, .und, .und, .und, .und, .und, .und, .und, .und, .und, .und, .und, .und, .und, .und, .und, .und, .und, .und, .und, .und, .und, .und, .und, .und, .und, .und, .und, .und, .und, .und, .und, .und, .int .i64 (.len (.V 11)), .int .i64 (.V 38), .und, .und, .und, .und, .und, .und, .und, .und, .und, .und, .und, .und, .und, .und, .und, .und, .und, .und, .und, .und, .und, .und, .und, .und, .und, .und, .und, .und, .und, .und, .und, .und, .und, .und, .und, .und, .und, .und], [.fix [.var 5, .int .i64 (.V 6)] true, .rows [.int .i64, .int .i64, .int .i64, .int .i64] (.V 4) 4, .fix [.int .i64 (.V 7), .int .i64 (.V 8)] true, .fix [.int .i64 (.at (.V 4) (.N 0) 0), .int .i64 (.V 12), .int .i64 (.V 13), .int .i64 (.at (.V 4) (.N 0) 3)] true, .fix [.int .i64 (.at (.V 4) (.N 0) 0), .int .i64 (.V 14), .int .i64 (.V 15), .int .i64 (.at (.V 4) (.N 0) 3)] true, .rows [.int .i64, .int .i64, .int .i64, .int .i64] (.V 36) 7, .fix [.int .i64 (.V 16), .int .i64 (.V 17)] true, .fix [.int .i64 (.V 21), .int .i64 (.V 22)] true, .fix [.int .i64 (.V 23), .int .i64 (.V 24)] true, .fix [.int .i64 (.V 26), .int .i64 (.V 27)] true, .fix [.int .i64 (.V 28), .int .i64 (.V 29)] true], 39, 8, [none, none, none, none, none, none, none, none, none, none, none, none, none, none, none, none, none, none, none, none, none, none, none, none, none, none, none, none, none, none, none, none, none, none, none, none, none, none, none], [], [⟨0, [.int .i64], (.V 0)⟩, ⟨1, [.int .i64], (.take (.V 0) (.mn (.len (.V 0)) (.N 600)))⟩, ⟨2, [.int .i64], (.V 2)⟩, ⟨5, [.int .i64], (.V 5)⟩]⟩⟩]
def fuMean_K : Con := ⟨10, [.val false [.sl [.int .i64]]], [.val false [.bool]], []⟩
def fuMean_T : T (List X) :=
  (.need (.not (.lt (.len (.V 0)) (.mn (.len (.V 0)) (.N 600))))
  (.call 26 [(.take (.V 0) (.mn (.len (.V 0)) (.N 600))), (.N 0), (.N 6)] 3
   (.loop [(.rows []), (.V 2), (.V 3), (.V 1)]
    (.ite (.lt (.N 0) (.V 7))
     (.call 26 [(.V 5), (.V 6), (.N 6)] 3
      (.need (.and (.not (.lt (.V 8) (.N 0))) (.lt (.V 8) (.N 6)))
       (.call 26 [(.V 9), (.V 10), (.N 4)] 3
        (.need (.and (.not (.lt (.V 11) (.N 0))) (.lt (.V 11) (.N 4)))
         (.call 26 [(.V 12), (.V 13), (.N 4)] 3
          (.need (.and (.not (.lt (.V 14) (.N 0))) (.lt (.V 14) (.N 4)))
           (.need (.not (.lt (.N 4398046511104) (.add (.len (.V 4)) (.N 1))))
            (.ret (true, [(.app (.V 4) (.rows [[(.N 0), (.at (.rows [[(.N 0)], [(.N 0)], [(.N 1)], [(.N 20)], [(.N (-30))], [(.N 1000)]]) (.V 8) 0), (.at (.rows [[(.N 0)], [(.N 0)], [(.N 5)], [(.N (-20))]]) (.V 11) 0), (.at (.rows [[(.N 1)], [(.N 10)], [(.N 50)], [(.N 200)]]) (.V 14) 0)]])), (.V 15), (.V 16), (.wr .i64 (.sub (.V 7) (.N 1)))])))))))))
     (.ret (false, [(.V 4), (.V 5), (.V 6)]))) 3
    (.ite (.eq (.len (.V 4)) (.N 0))
     (.call 35 [] 1
      (.ret [(.V 7)]))
     (.call 37 [(.V 4)] 4
      (.need (.lt (.N 0) (.len (.V 4)))
       (.loop [(.rows []), (.at (.V 4) (.N 0) 1), (.at (.V 4) (.N 0) 2), (.at (.V 4) (.N 0) 1), (.at (.V 4) (.N 0) 2), (.sub (.len (.V 4)) (.N 1))]
        (.ite (.lt (.V 16) (.N 0))
         (.ret (false, [(.V 11), (.V 12), (.V 13), (.V 14), (.V 15)]))
         (.need (.lt (.V 16) (.len (.V 4)))
          (.need (.not (.lt (.N 4398046511104) (.add (.len (.V 11)) (.N 1))))
           (.ret (true, [(.app (.V 11) (.rows [[(.at (.V 4) (.V 16) 0), (.at (.V 4) (.V 16) 1), (.at (.V 4) (.V 16) 2), (.at (.V 4) (.V 16) 3)]])), (.mn (.V 12) (.at (.V 4) (.V 16) 1)), (.mn (.V 13) (.at (.V 4) (.V 16) 2)), (.mx (.V 14) (.at (.V 4) (.V 16) 1)), (.mx (.V 15) (.at (.V 4) (.V 16) 2)), (.sub (.V 16) (.N 1))]))))) 5
        (.call 37 [(.V 11)] 4
         (.sub (.ite (.eq (.V 10) (.N 0))
           (.ite (.eq (.V 19) (.N 0))
            (.ite (.and (.eq (.V 7) (.V 16)) (.eq (.V 8) (.V 17)))
             (.ite (.eq (.V 9) (.V 18))
              (.ite (.lt (.V 7) (.V 12))
               (.ret [(.B true)])
               (.ite (.lt (.V 14) (.V 7))
                (.ret [(.B true)])
                (.ite (.lt (.V 8) (.V 13))
                 (.ret [(.B true)])
                 (.ret [(.lt (.V 15) (.V 8))]))))
              (.ret [(.B true)]))
             (.ret [(.B true)]))
            (.ret [(.B true)]))
           (.ret [(.B true)])) 1
          (.ite (.V 20)
           (.ret [(.B false)])
           (.call 39 [(.V 4)] 5
            (.call 41 [(.V 4)] 5
             (.loop [(.N 0)]
              (.ite (.lt (.V 31) (.len (.V 4)))
               (.sub (.need (.and (.not (.lt (.V 31) (.N 0))) (.lt (.V 31) (.len (.V 4))))
                 (.sub (.ite (.V 25)
                   (.ite (.lt (.V 21) (.wr .i64 (.sub (.at (.V 4) (.V 31) 1) (.at (.V 4) (.V 31) 3))))
                    (.ret [(.B true)])
                    (.ite (.lt (.wr .i64 (.add (.at (.V 4) (.V 31) 1) (.at (.V 4) (.V 31) 3))) (.V 23))
                     (.ret [(.B true)])
                     (.ite (.lt (.V 22) (.wr .i64 (.sub (.at (.V 4) (.V 31) 2) (.at (.V 4) (.V 31) 3))))
                      (.ret [(.B true)])
                      (.ret [(.lt (.wr .i64 (.add (.at (.V 4) (.V 31) 2) (.at (.V 4) (.V 31) 3))) (.V 24))]))))
                   (.ret [(.B false)])) 1
                  (.ite (.V 32)
                   (.ret [(.N 0), (.V 32), (.N 0), (.N 0), (.N 0), (.N 0), (.N 0), (.N 0), (.N 0)])
                   (.sub (.ite (.V 30)
                     (.ite (.lt (.wr .i64 (.sub (.at (.V 4) (.V 31) 1) (.at (.V 4) (.V 31) 3))) (.V 26))
                      (.ret [(.lt (.wr .i64 (.sub (.at (.V 4) (.V 31) 1) (.at (.V 4) (.V 31) 3))) (.V 26)), (.lt (.wr .i64 (.sub (.at (.V 4) (.V 31) 1) (.at (.V 4) (.V 31) 3))) (.V 26)), (.B true), (.B true), (.B true), (.B true), (.B true)])
                      (.ite (.lt (.V 28) (.wr .i64 (.add (.at (.V 4) (.V 31) 1) (.at (.V 4) (.V 31) 3))))
                       (.ret [(.lt (.wr .i64 (.sub (.at (.V 4) (.V 31) 1) (.at (.V 4) (.V 31) 3))) (.V 26)), (.lt (.wr .i64 (.sub (.at (.V 4) (.V 31) 1) (.at (.V 4) (.V 31) 3))) (.V 26)), (.lt (.V 28) (.wr .i64 (.add (.at (.V 4) (.V 31) 1) (.at (.V 4) (.V 31) 3)))), (.lt (.V 28) (.wr .i64 (.add (.at (.V 4) (.V 31) 1) (.at (.V 4) (.V 31) 3)))), (.B true), (.B true), (.B true)])
                       (.ite (.lt (.wr .i64 (.sub (.at (.V 4) (.V 31) 2) (.at (.V 4) (.V 31) 3))) (.V 27))
                        (.ret [(.lt (.wr .i64 (.sub (.at (.V 4) (.V 31) 1) (.at (.V 4) (.V 31) 3))) (.V 26)), (.lt (.wr .i64 (.sub (.at (.V 4) (.V 31) 1) (.at (.V 4) (.V 31) 3))) (.V 26)), (.lt (.V 28) (.wr .i64 (.add (.at (.V 4) (.V 31) 1) (.at (.V 4) (.V 31) 3)))), (.lt (.V 28) (.wr .i64 (.add (.at (.V 4) (.V 31) 1) (.at (.V 4) (.V 31) 3)))), (.lt (.wr .i64 (.sub (.at (.V 4) (.V 31) 2) (.at (.V 4) (.V 31) 3))) (.V 27)), (.lt (.wr .i64 (.sub (.at (.V 4) (.V 31) 2) (.at (.V 4) (.V 31) 3))) (.V 27)), (.B true)])
                        (.ret [(.lt (.wr .i64 (.sub (.at (.V 4) (.V 31) 1) (.at (.V 4) (.V 31) 3))) (.V 26)), (.lt (.wr .i64 (.sub (.at (.V 4) (.V 31) 1) (.at (.V 4) (.V 31) 3))) (.V 26)), (.lt (.V 28) (.wr .i64 (.add (.at (.V 4) (.V 31) 1) (.at (.V 4) (.V 31) 3)))), (.lt (.V 28) (.wr .i64 (.add (.at (.V 4) (.V 31) 1) (.at (.V 4) (.V 31) 3)))), (.lt (.wr .i64 (.sub (.at (.V 4) (.V 31) 2) (.at (.V 4) (.V 31) 3))) (.V 27)), (.lt (.wr .i64 (.sub (.at (.V 4) (.V 31) 2) (.at (.V 4) (.V 31) 3))) (.V 27)), (.lt (.V 29) (.wr .i64 (.add (.at (.V 4) (.V 31) 2) (.at (.V 4) (.V 31) 3))))]))))
                     (.ret [(.B true), (.B true), (.B true), (.B true), (.B true), (.B true), (.B true)])) 7
                    (.ite (.V 39)
                     (.ret [(.N 0), (.V 32), (.N 0), (.N 0), (.N 0), (.N 0), (.N 0), (.N 0), (.N 0)])
                     (.ret [(.N 1), (.V 32), (.V 33), (.V 34), (.V 35), (.V 36), (.V 37), (.V 38), (.V 39)])))))) 9
                (.ite (.eq (.V 32) (.N 0))
                 (.ret (false, [(.N 0), (.at (.V 4) (.V 31) 0), (.at (.V 4) (.V 31) 1), (.at (.V 4) (.V 31) 2), (.at (.V 4) (.V 31) 3)]))
                 (.ret (true, [(.wr .i64 (.add (.V 31) (.N 1)))]))))
               (.ret (false, [(.N 1), (.N 0), (.N 0), (.N 0), (.N 0)]))) 5
              (.ite (.eq (.V 31) (.N 0))
               (.ret [(.B false)])
               (.loop [(.V 11), (.N 0), (.N 0)]
                (.ite (.lt (.V 38) (.len (.V 11)))
                 (.need (.and (.not (.lt (.V 38) (.N 0))) (.lt (.V 38) (.len (.V 36))))
                  (.ret (true, [(.put (.V 36) (.V 38) 3 (.N 7)), (.wr .i64 (.add (.V 37) (.at (.put (.V 36) (.V 38) 3 (.N 7)) (.V 38) 1))), (.wr .i64 (.add (.V 38) (.N 1)))])))
                 (.ret (false, [(.V 36), (.V 37)]))) 2
                (.call 37 [(.V 36)] 4
                 (.call 47 [(.V 37), (.len (.V 36))] 2
                  (.sub (.ite (.eq (.V 41) (.N 0))
                    (.ite (.eq (.V 38) (.V 42))
                     (.call 35 [] 1
                      (.ret [(.V 44)]))
                     (.ret [(.B false)]))
                    (.ret [(.B false)])) 1
                   (.ret [(.V 44)])))))))))))))))))))
set_option maxRecDepth 100000 in
theorem fuMean_t : runS Try.prog [srcN_K.to [], gFuse_K.to [], gCom_K.to [], gHul_K.to [], rHlf09_K.to [], sane09x_K.to []] [(10, fuMean_H), (36, fuMean_H)] fuMean_K = fuMean_T := by kernel_rfl
theorem FuseMean_ok : ConOk Try.prog fuMean_K fun ds => match ds with | [.l _] => some [.b true] | _ => none :=
  con_of follows (M := fmM) (one_con (srcN_ok.to _) (one_con (gFuse_ok.to _) (one_con (gCom_ok.to _) (one_con (gHul_ok.to _) (one_con (rHlf09_ok.to _) (one_con (sane09x_ok.to _) no_cons)))))) fuMean_t fun ds outs hl h => by
    split at h
    · rename_i rows
      injection h with h
      subst h
      refine ⟨fun i l h k => by simp [fuMean_K] at k, 30, ?_⟩
      unfold fuMean_T
      refine To.need (by simp only [X.den, X.dens, X.denss, D.int_i, D.boo_b, D.str_s, D.rows_l, List.getD_cons_zero, List.getD_cons_succ, List.cons_append, List.nil_append, List.append_nil, List.length_cons, List.length_nil, decide_eq_true_eq, decide_eq_false_iff_not, Bool.not_eq_true', Bool.not_eq_false', Bool.and_eq_true, Bool.and_eq_false_iff, Bool.true_eq_false, Bool.false_eq_true, Bool.not_true, Bool.not_false, eq_self, D.len_l]; omega) ?_
      refine To.viaK (by (try simp (disch := omega) only [X.den, X.dens, X.denss, D.int_i, D.boo_b, D.str_s, D.rows_l, List.getD_cons_zero, List.getD_cons_succ, List.cons_append, List.nil_append, List.append_nil, List.length_cons, List.length_nil, decide_eq_true_eq, decide_eq_false_iff_not, Bool.not_eq_true', Bool.not_eq_false', Bool.and_eq_true, Bool.and_eq_false_iff, Bool.true_eq_false, Bool.false_eq_true, Bool.not_true, Bool.not_false, eq_self, D.len_l, wr64, not_true_eq_false, not_false_eq_true]); exact srcN_to src_take9 (by omega) (by omega)) ?_
      rintro _ ρ2 ⟨n0, t1, rfl, p1, q1, h1⟩ eρ
      refine ⟨rfl, ?_⟩
      simp only [List.cons_append, List.nil_append] at eρ
      subst eρ
      generalize List.take (min (min (rows.length : Int) 9223372036854775807) 600).toNat rows = src at *
      refine To.loopK (fun m o => ∃ l at_ k, o = [.l l, .l src, .i at_, .i k] ∧ SrcOk src at_ ∧ k = m ∧ k + l.length ≤ 5 ∧ ∀ r ∈ l, FxR r) (fun o => ∃ l at_, o = [.l l, .l src, .i at_] ∧ (l.length : Int) ≤ 5 ∧ ∀ r ∈ l, FxR r) n0.toNat (by omega) ?_ ?_ ?_
      · exact ⟨[], t1, n0, by simp only [X.den, X.dens, X.denss, D.int_i, D.boo_b, D.str_s, D.rows_l, List.getD_cons_zero, List.getD_cons_succ, List.cons_append, List.nil_append, List.append_nil, List.length_cons, List.length_nil, X.denss], h1, by omega, by simp; omega, by simp⟩
      · rintro m o ρ2 ⟨l, a, k, rfl, hs, hk, hn, hf⟩ eρ
        simp only [List.cons_append, List.nil_append] at eρ
        subst eρ
        refine To.ite (fun c => ?_) (fun c => ?_) <;> simp only [X.den, X.dens, X.denss, D.int_i, D.boo_b, D.str_s, D.rows_l, List.getD_cons_zero, List.getD_cons_succ, List.cons_append, List.nil_append, List.append_nil, List.length_cons, List.length_nil, decide_eq_true_eq, decide_eq_false_iff_not, Bool.not_eq_true', Bool.not_eq_false', Bool.and_eq_true, Bool.and_eq_false_iff, Bool.true_eq_false, Bool.false_eq_true, Bool.not_true, Bool.not_false, eq_self] at c
        · refine To.viaK (by (try simp (disch := omega) only [X.den, X.dens, X.denss, D.int_i, D.boo_b, D.str_s, D.rows_l, List.getD_cons_zero, List.getD_cons_succ, List.cons_append, List.nil_append, List.append_nil, List.length_cons, List.length_nil, decide_eq_true_eq, decide_eq_false_iff_not, Bool.not_eq_true', Bool.not_eq_false', Bool.and_eq_true, Bool.and_eq_false_iff, Bool.true_eq_false, Bool.false_eq_true, Bool.not_true, Bool.not_false, eq_self, D.len_l, wr64, not_true_eq_false, not_false_eq_true]); exact srcN_to hs (by omega) (by omega)) ?_
          rintro _ ρ2 ⟨r1, t1, rfl, p1, q1, h1⟩ eρ
          refine ⟨rfl, ?_⟩
          simp only [List.cons_append, List.nil_append] at eρ
          subst eρ
          refine To.need (by simp only [X.den, X.dens, X.denss, D.int_i, D.boo_b, D.str_s, D.rows_l, List.getD_cons_zero, List.getD_cons_succ, List.cons_append, List.nil_append, List.append_nil, List.length_cons, List.length_nil, decide_eq_true_eq, decide_eq_false_iff_not, Bool.not_eq_true', Bool.not_eq_false', Bool.and_eq_true, Bool.and_eq_false_iff, Bool.true_eq_false, Bool.false_eq_true, Bool.not_true, Bool.not_false, eq_self]; omega) ?_
          refine To.viaK (by (try simp (disch := omega) only [X.den, X.dens, X.denss, D.int_i, D.boo_b, D.str_s, D.rows_l, List.getD_cons_zero, List.getD_cons_succ, List.cons_append, List.nil_append, List.append_nil, List.length_cons, List.length_nil, decide_eq_true_eq, decide_eq_false_iff_not, Bool.not_eq_true', Bool.not_eq_false', Bool.and_eq_true, Bool.and_eq_false_iff, Bool.true_eq_false, Bool.false_eq_true, Bool.not_true, Bool.not_false, eq_self, D.len_l, wr64, not_true_eq_false, not_false_eq_true]); exact srcN_to h1 (by omega) (by omega)) ?_
          rintro _ ρ2 ⟨r2, t2, rfl, p2, q2, h2⟩ eρ
          refine ⟨rfl, ?_⟩
          simp only [List.cons_append, List.nil_append] at eρ
          subst eρ
          refine To.need (by simp only [X.den, X.dens, X.denss, D.int_i, D.boo_b, D.str_s, D.rows_l, List.getD_cons_zero, List.getD_cons_succ, List.cons_append, List.nil_append, List.append_nil, List.length_cons, List.length_nil, decide_eq_true_eq, decide_eq_false_iff_not, Bool.not_eq_true', Bool.not_eq_false', Bool.and_eq_true, Bool.and_eq_false_iff, Bool.true_eq_false, Bool.false_eq_true, Bool.not_true, Bool.not_false, eq_self]; omega) ?_
          refine To.viaK (by (try simp (disch := omega) only [X.den, X.dens, X.denss, D.int_i, D.boo_b, D.str_s, D.rows_l, List.getD_cons_zero, List.getD_cons_succ, List.cons_append, List.nil_append, List.append_nil, List.length_cons, List.length_nil, decide_eq_true_eq, decide_eq_false_iff_not, Bool.not_eq_true', Bool.not_eq_false', Bool.and_eq_true, Bool.and_eq_false_iff, Bool.true_eq_false, Bool.false_eq_true, Bool.not_true, Bool.not_false, eq_self, D.len_l, wr64, not_true_eq_false, not_false_eq_true]); exact srcN_to h2 (by omega) (by omega)) ?_
          rintro _ ρ2 ⟨r3, t3, rfl, p3, q3, h3⟩ eρ
          refine ⟨rfl, ?_⟩
          simp only [List.cons_append, List.nil_append] at eρ
          subst eρ
          refine To.need (by simp only [X.den, X.dens, X.denss, D.int_i, D.boo_b, D.str_s, D.rows_l, List.getD_cons_zero, List.getD_cons_succ, List.cons_append, List.nil_append, List.append_nil, List.length_cons, List.length_nil, decide_eq_true_eq, decide_eq_false_iff_not, Bool.not_eq_true', Bool.not_eq_false', Bool.and_eq_true, Bool.and_eq_false_iff, Bool.true_eq_false, Bool.false_eq_true, Bool.not_true, Bool.not_false, eq_self]; omega) ?_
          refine To.need (by simp only [X.den, X.dens, X.denss, D.int_i, D.boo_b, D.str_s, D.rows_l, List.getD_cons_zero, List.getD_cons_succ, List.cons_append, List.nil_append, List.append_nil, List.length_cons, List.length_nil, decide_eq_true_eq, decide_eq_false_iff_not, Bool.not_eq_true', Bool.not_eq_false', Bool.and_eq_true, Bool.and_eq_false_iff, Bool.true_eq_false, Bool.false_eq_true, Bool.not_true, Bool.not_false, eq_self, D.len_l]; omega) ?_
          obtain ⟨x, y, e, ex, ey, ee, hx, hy, he⟩ := fx_picks p1 q1 p2 q2 p3 q3
          refine To.ret (.inl ⟨rfl, m - 1, by omega, ?_⟩)
          simp (disch := omega) only [X.den, X.dens, X.denss, D.int_i, D.boo_b, D.str_s, D.rows_l, List.getD_cons_zero, List.getD_cons_succ, List.cons_append, List.nil_append, List.append_nil, List.length_cons, List.length_nil, X.denss, wr64, ex, ey, ee]
          refine ⟨_, _, _, rfl, h3, by omega, by rw [List.length_append]; simp only [List.length_cons, List.length_nil]; omega, ?_⟩
          intro r hr
          rcases List.mem_append.1 hr with hr | hr
          · exact hf r hr
          · rw [List.mem_singleton] at hr
            exact ⟨_, _, _, hr, hx, hy, he⟩
        · exact To.ret (.inr ⟨rfl, l, a, by simp only [X.den, X.dens, X.denss, D.int_i, D.boo_b, D.str_s, D.rows_l, List.getD_cons_zero, List.getD_cons_succ, List.cons_append, List.nil_append, List.append_nil, List.length_cons, List.length_nil], by omega, hf⟩)
      rintro o ρ2 ⟨l, t2, rfl, hn, hf⟩ eρ
      simp only [List.cons_append, List.nil_append] at eρ
      subst eρ
      refine ⟨rfl, ?_⟩
      refine To.ite (fun c => ?_) (fun c => ?_) <;> simp only [X.den, X.dens, X.denss, D.int_i, D.boo_b, D.str_s, D.rows_l, List.getD_cons_zero, List.getD_cons_succ, List.cons_append, List.nil_append, List.append_nil, List.length_cons, List.length_nil, decide_eq_true_eq, decide_eq_false_iff_not, Bool.not_eq_true', Bool.not_eq_false', Bool.and_eq_true, Bool.and_eq_false_iff, Bool.true_eq_false, Bool.false_eq_true, Bool.not_true, Bool.not_false, eq_self, D.len_l] at c
      · refine To.callK (l := [.b true]) rfl rfl _ (by simp only [List.cons_append, List.nil_append]; first | done | rfl) ?_
        exact To.ret (by simp only [X.den, X.dens, X.denss, D.int_i, D.boo_b, D.str_s, D.rows_l, List.getD_cons_zero, List.getD_cons_succ, List.cons_append, List.nil_append, List.append_nil, List.length_cons, List.length_nil])
      have h0 : 1 ≤ l.length := by omega
      have hv : ∀ i : Int, 0 ≤ i → i < l.length → okF l i := fun i a b => (fxR_ok hf a b).1
      have fk : fck l = 0 := fck_of h0 (by omega) hv
      have hu : ∀ i : Int, 0 ≤ i → i < l.length → 1 ≤ uF l i ∧ uF l i ≤ 1000 := fun i a b => uF_rng hv a b
      have pr1 := pF_rng (c := 1) h0 hu fun i a b => (hv i a b).1
      have pr2 := pF_rng (c := 2) h0 hu fun i a b => (hv i a b).2.1
      refine To.viaK (by (try simp (disch := omega) only [X.den, X.dens, X.denss, D.int_i, D.boo_b, D.str_s, D.rows_l, List.getD_cons_zero, List.getD_cons_succ, List.cons_append, List.nil_append, List.append_nil, List.length_cons, List.length_nil, decide_eq_true_eq, decide_eq_false_iff_not, Bool.not_eq_true', Bool.not_eq_false', Bool.and_eq_true, Bool.and_eq_false_iff, Bool.true_eq_false, Bool.false_eq_true, Bool.not_true, Bool.not_false, eq_self, D.len_l, wr64, not_true_eq_false, not_false_eq_true]); exact fuse_full fk) ?_
      rintro _ ρ2 rfl eρ
      refine ⟨rfl, ?_⟩
      simp only [List.cons_append, List.nil_append] at eρ
      subst eρ
      refine To.need (by simp only [X.den, X.dens, X.denss, D.int_i, D.boo_b, D.str_s, D.rows_l, List.getD_cons_zero, List.getD_cons_succ, List.cons_append, List.nil_append, List.append_nil, List.length_cons, List.length_nil, decide_eq_true_eq, decide_eq_false_iff_not, Bool.not_eq_true', Bool.not_eq_false', Bool.and_eq_true, Bool.and_eq_false_iff, Bool.true_eq_false, Bool.false_eq_true, Bool.not_true, Bool.not_false, eq_self, D.len_l]; omega) ?_
      refine To.loopK (fun m o => ∃ (b : List (List D)) (lx ly hx hy i : Int), o = [.l b, .i lx, .i ly, .i hx, .i hy, .i i] ∧ -1 ≤ i ∧ i + 1 = m ∧ i < l.length ∧ (b.length : Int) = l.length - 1 - i ∧ Four b ∧ (∀ (c : Nat) (a : Int), 0 ≤ a → a < b.length → cf b c a = cf l c (l.length - 1 - a)) ∧ (∀ a : Int, i < a → a < l.length → (lx ≤ cf l 1 a ∧ cf l 1 a ≤ hx) ∧ (ly ≤ cf l 2 a ∧ cf l 2 a ≤ hy)))
        (fun o => ∃ (b : List (List D)) (lx ly hx hy : Int), o = [.l b, .i lx, .i ly, .i hx, .i hy] ∧ b.length = l.length ∧ Four b ∧ (∀ (c : Nat) (a : Int), 0 ≤ a → a < b.length → cf b c a = cf l c (l.length - 1 - a)) ∧ (∀ a : Int, 0 ≤ a → a < l.length → (lx ≤ cf l 1 a ∧ cf l 1 a ≤ hx) ∧ (ly ≤ cf l 2 a ∧ cf l 2 a ≤ hy))) l.length (by omega) ?_ ?_ ?_
      · obtain ⟨x, y, e, er, bx, by', be⟩ := hf _ (fx_mem (k := 0) (by omega) (by omega))
        have c1 : (D.l l).cell 0 1 = .i x := by rw [cell_of, er]; rfl
        have c2 : (D.l l).cell 0 2 = .i y := by rw [cell_of, er]; rfl
        refine ⟨[], x, y, x, y, l.length - 1, ?_, by omega, by omega, by omega, by simp, (fun r hr => by cases hr), (fun c a a0 a1 => by simp at a1; omega), fun a a0 a1 => by omega⟩
        simp only [X.den, X.dens, X.denss, D.int_i, D.boo_b, D.str_s, D.rows_l, List.getD_cons_zero, List.getD_cons_succ, List.cons_append, List.nil_append, List.append_nil, List.length_cons, List.length_nil, X.denss, c1, c2, D.len_l]
        rw [show min (l.length : Int) 9223372036854775807 = l.length by omega]
      · rintro m o ρ2 ⟨b, lx, ly, hx, hy, i, rfl, i0, im, i1, hb, h4, hc, hr⟩ eρ
        simp only [List.cons_append, List.nil_append] at eρ
        subst eρ
        refine To.ite (fun c => ?_) (fun c => ?_) <;> simp only [X.den, X.dens, X.denss, D.int_i, D.boo_b, D.str_s, D.rows_l, List.getD_cons_zero, List.getD_cons_succ, List.cons_append, List.nil_append, List.append_nil, List.length_cons, List.length_nil, decide_eq_true_eq, decide_eq_false_iff_not, Bool.not_eq_true', Bool.not_eq_false', Bool.and_eq_true, Bool.and_eq_false_iff, Bool.true_eq_false, Bool.false_eq_true, Bool.not_true, Bool.not_false, eq_self] at c
        · exact To.ret (.inr ⟨rfl, b, lx, ly, hx, hy, by simp only [X.den, X.dens, X.denss, D.int_i, D.boo_b, D.str_s, D.rows_l, List.getD_cons_zero, List.getD_cons_succ, List.cons_append, List.nil_append, List.append_nil, List.length_cons, List.length_nil], by omega, h4, hc, fun a a0 a1 => hr a (by omega) a1⟩)
        · refine To.need (by simp only [X.den, X.dens, X.denss, D.int_i, D.boo_b, D.str_s, D.rows_l, List.getD_cons_zero, List.getD_cons_succ, List.cons_append, List.nil_append, List.append_nil, List.length_cons, List.length_nil, decide_eq_true_eq, decide_eq_false_iff_not, Bool.not_eq_true', Bool.not_eq_false', Bool.and_eq_true, Bool.and_eq_false_iff, Bool.true_eq_false, Bool.false_eq_true, Bool.not_true, Bool.not_false, eq_self, D.len_l]; omega) ?_
          refine To.need (by simp only [X.den, X.dens, X.denss, D.int_i, D.boo_b, D.str_s, D.rows_l, List.getD_cons_zero, List.getD_cons_succ, List.cons_append, List.nil_append, List.append_nil, List.length_cons, List.length_nil, decide_eq_true_eq, decide_eq_false_iff_not, Bool.not_eq_true', Bool.not_eq_false', Bool.and_eq_true, Bool.and_eq_false_iff, Bool.true_eq_false, Bool.false_eq_true, Bool.not_true, Bool.not_false, eq_self, D.len_l]; omega) ?_
          obtain ⟨x, y, e, er, bx, by', be⟩ := hf _ (fx_mem (k := i) (by omega) i1)
          have c0 : (D.l l).cell i 0 = .i 0 := by rw [cell_of, er]; rfl
          have c1 : (D.l l).cell i 1 = .i x := by rw [cell_of, er]; rfl
          have c2 : (D.l l).cell i 2 = .i y := by rw [cell_of, er]; rfl
          have c3 : (D.l l).cell i 3 = .i e := by rw [cell_of, er]; rfl
          have x1 : cf l 1 i = x := by unfold cf; rw [c1]; rfl
          have x2 : cf l 2 i = y := by unfold cf; rw [c2]; rfl
          refine To.ret (.inl ⟨rfl, m - 1, by omega, b ++ [[.i 0, .i x, .i y, .i e]], min lx x, min ly y, max hx x, max hy y, i - 1, ?_, by omega, by omega, by omega, by rw [List.length_append]; simp only [List.length_cons, List.length_nil]; omega, fun r hr => ?_, fun c a a0 a1 => ?_, fun a a0 a1 => ?_⟩)
          · simp (disch := omega) only [X.den, X.dens, X.denss, D.int_i, D.boo_b, D.str_s, D.rows_l, List.getD_cons_zero, List.getD_cons_succ, List.cons_append, List.nil_append, List.append_nil, List.length_cons, List.length_nil, X.denss, wr64, c0, c1, c2, c3]
          · rcases List.mem_append.1 hr with hr | hr
            · exact h4 r hr
            · rw [List.mem_singleton] at hr
              rw [hr]
              rfl
          · rw [List.length_append] at a1
            simp only [List.length_cons, List.length_nil] at a1
            by_cases q : a = b.length
            · subst q
              have e1 : (l.length : Int) - 1 - (b.length : Int) = i := by omega
              rw [e1]
              unfold cf
              rw [cell_of, cell_of, List.getD_eq_getElem?_getD (l := b ++ _), List.getElem?_append_right (by omega), er]
              simp
            · rw [← hc c a a0 (by omega)]
              unfold cf
              rw [cell_of, cell_of, List.getD_eq_getElem?_getD (l := b ++ _), List.getElem?_append_left (by omega), ← List.getD_eq_getElem?_getD]
          · by_cases q : a = i
            · subst q
              rw [x1, x2]
              omega
            · have := hr a (by omega) a1
              omega
      rintro o ρ2 ⟨b, lx, ly, hx, hy, rfl, hb, h4, hc, hr⟩ eρ
      simp only [List.cons_append, List.nil_append] at eρ
      subst eρ
      refine ⟨rfl, ?_⟩
      have mir : Mir l b := ⟨hb, fun c i _ _ i0 i1 => hc c i i0 (by omega)⟩
      have bv := mir.okF hv
      have bk : fck b = 0 := fck_of (by omega) (by omega) bv
      refine To.viaK (by (try simp (disch := omega) only [X.den, X.dens, X.denss, D.int_i, D.boo_b, D.str_s, D.rows_l, List.getD_cons_zero, List.getD_cons_succ, List.cons_append, List.nil_append, List.append_nil, List.length_cons, List.length_nil, decide_eq_true_eq, decide_eq_false_iff_not, Bool.not_eq_true', Bool.not_eq_false', Bool.and_eq_true, Bool.and_eq_false_iff, Bool.true_eq_false, Bool.false_eq_true, Bool.not_true, Bool.not_false, eq_self, D.len_l, wr64, not_true_eq_false, not_false_eq_true]); exact fuse_full bk) ?_
      rintro _ ρ2 rfl eρ
      refine ⟨rfl, ?_⟩
      simp only [List.cons_append, List.nil_append] at eρ
      subst eρ
      have e1 := mir.pF hv (c := 1) (by omega) (by omega)
      have e2 := mir.pF hv (c := 2) (by omega) (by omega)
      rw [e1, e2]
      have e3 : bF b (pF l 1) (pF l 2) b.length = bF l (pF l 1) (pF l 2) l.length := Int.le_antisymm (mir.bF_le hv pr1 pr2) (mir.symm.bF_le bv pr1 pr2)
      rw [e3]
      have in1 := pF_rng (c := 1) (lo := lx) (hi := hx) h0 hu fun i a b => (hr i a b).1
      have in2 := pF_rng (c := 2) (lo := ly) (hi := hy) h0 hu fun i a b => (hr i a b).2
      refine To.joinK (fun o => o = [.b false]) ?_ ?_
      · refine To.yes rfl (To.yes rfl (To.yes (by simp only [X.den, X.dens, X.denss, D.int_i, D.boo_b, D.str_s, D.rows_l, List.getD_cons_zero, List.getD_cons_succ, List.cons_append, List.nil_append, List.append_nil, List.length_cons, List.length_nil, decide_eq_true_eq, decide_eq_false_iff_not, Bool.not_eq_true', Bool.not_eq_false', Bool.and_eq_true, Bool.and_eq_false_iff, Bool.true_eq_false, Bool.false_eq_true, Bool.not_true, Bool.not_false, eq_self]; exact ⟨trivial, trivial⟩) (To.yes (by simp only [X.den, X.dens, X.denss, D.int_i, D.boo_b, D.str_s, D.rows_l, List.getD_cons_zero, List.getD_cons_succ, List.cons_append, List.nil_append, List.append_nil, List.length_cons, List.length_nil, decide_eq_true_eq, decide_eq_false_iff_not, Bool.not_eq_true', Bool.not_eq_false', Bool.and_eq_true, Bool.and_eq_false_iff, Bool.true_eq_false, Bool.false_eq_true, Bool.not_true, Bool.not_false, eq_self]) ?_)))
        refine To.no (by simp only [X.den, X.dens, X.denss, D.int_i, D.boo_b, D.str_s, D.rows_l, List.getD_cons_zero, List.getD_cons_succ, List.cons_append, List.nil_append, List.append_nil, List.length_cons, List.length_nil, decide_eq_true_eq, decide_eq_false_iff_not, Bool.not_eq_true', Bool.not_eq_false', Bool.and_eq_true, Bool.and_eq_false_iff, Bool.true_eq_false, Bool.false_eq_true, Bool.not_true, Bool.not_false, eq_self]; omega) (To.no (by simp only [X.den, X.dens, X.denss, D.int_i, D.boo_b, D.str_s, D.rows_l, List.getD_cons_zero, List.getD_cons_succ, List.cons_append, List.nil_append, List.append_nil, List.length_cons, List.length_nil, decide_eq_true_eq, decide_eq_false_iff_not, Bool.not_eq_true', Bool.not_eq_false', Bool.and_eq_true, Bool.and_eq_false_iff, Bool.true_eq_false, Bool.false_eq_true, Bool.not_true, Bool.not_false, eq_self]; omega) (To.no (by simp only [X.den, X.dens, X.denss, D.int_i, D.boo_b, D.str_s, D.rows_l, List.getD_cons_zero, List.getD_cons_succ, List.cons_append, List.nil_append, List.append_nil, List.length_cons, List.length_nil, decide_eq_true_eq, decide_eq_false_iff_not, Bool.not_eq_true', Bool.not_eq_false', Bool.and_eq_true, Bool.and_eq_false_iff, Bool.true_eq_false, Bool.false_eq_true, Bool.not_true, Bool.not_false, eq_self]; omega) (To.ret ⟨rfl, ?_⟩)))
        simp only [X.den, X.dens, X.denss, D.int_i, D.boo_b, D.str_s, D.rows_l, List.getD_cons_zero, List.getD_cons_succ, List.cons_append, List.nil_append, List.append_nil, List.length_cons, List.length_nil]
        rw [decide_eq_false (by omega)]
      rintro o ρ2 rfl eρ
      simp only [List.cons_append, List.nil_append] at eρ
      subst eρ
      refine To.no rfl ?_
      refine To.viaK (by (try simp (disch := omega) only [X.den, X.dens, X.denss, D.int_i, D.boo_b, D.str_s, D.rows_l, List.getD_cons_zero, List.getD_cons_succ, List.cons_append, List.nil_append, List.append_nil, List.length_cons, List.length_nil, decide_eq_true_eq, decide_eq_false_iff_not, Bool.not_eq_true', Bool.not_eq_false', Bool.and_eq_true, Bool.and_eq_false_iff, Bool.true_eq_false, Bool.false_eq_true, Bool.not_true, Bool.not_false, eq_self, D.len_l, wr64, not_true_eq_false, not_false_eq_true]); exact common_to fk) ?_
      rintro _ ρ2 ⟨ca, cb, cc, cd, ok, rfl, hco⟩ eρ
      refine ⟨rfl, ?_⟩
      simp only [List.cons_append, List.nil_append] at eρ
      subst eρ
      refine To.viaK (by (try simp (disch := omega) only [X.den, X.dens, X.denss, D.int_i, D.boo_b, D.str_s, D.rows_l, List.getD_cons_zero, List.getD_cons_succ, List.cons_append, List.nil_append, List.append_nil, List.length_cons, List.length_nil, decide_eq_true_eq, decide_eq_false_iff_not, Bool.not_eq_true', Bool.not_eq_false', Bool.and_eq_true, Bool.and_eq_false_iff, Bool.true_eq_false, Bool.false_eq_true, Bool.not_true, Bool.not_false, eq_self, D.len_l, wr64, not_true_eq_false, not_false_eq_true]); exact hull_full fk) ?_
      rintro _ ρ2 rfl eρ
      refine ⟨rfl, ?_⟩
      simp only [List.cons_append, List.nil_append] at eρ
      subst eρ
      have mx1 := mxF_ge (f := loX l 1) l.length
      have mx2 := mxF_ge (f := loX l 2) l.length
      have mx3 := mxF_ge (f := hiX l 1) l.length
      have mx4 := mxF_ge (f := hiX l 2) l.length
      have mn1 := mnF_le (f := loX l 1) l.length
      have mn2 := mnF_le (f := loX l 2) l.length
      have mn3 := mnF_le (f := hiX l 1) l.length
      have mn4 := mnF_le (f := hiX l 2) l.length
      refine To.loopK (fun m o => ∃ i : Int, o = [.i i] ∧ 0 ≤ i ∧ i + m = l.length) (fun o => ∃ r1 r2 r3 r4 : D, o = [.i 1, r1, r2, r3, r4]) l.length (by omega) ?_ ?_ ?_
      · exact ⟨0, by simp only [X.den, X.dens, X.denss, D.int_i, D.boo_b, D.str_s, D.rows_l, List.getD_cons_zero, List.getD_cons_succ, List.cons_append, List.nil_append, List.append_nil, List.length_cons, List.length_nil], by omega, by omega⟩
      · rintro m o ρ2 ⟨i, rfl, i0, i1⟩ eρ
        simp only [List.cons_append, List.nil_append] at eρ
        subst eρ
        refine To.ite (fun c => ?_) (fun c => ?_) <;> simp only [X.den, X.dens, X.denss, D.int_i, D.boo_b, D.str_s, D.rows_l, List.getD_cons_zero, List.getD_cons_succ, List.cons_append, List.nil_append, List.append_nil, List.length_cons, List.length_nil, decide_eq_true_eq, decide_eq_false_iff_not, Bool.not_eq_true', Bool.not_eq_false', Bool.and_eq_true, Bool.and_eq_false_iff, Bool.true_eq_false, Bool.false_eq_true, Bool.not_true, Bool.not_false, eq_self, D.len_l] at c
        · have i2 : i < l.length := by omega
          have o1 := hv i i0 i2
          have a1 : cf l 1 i - cf l 3 i ≤ mxF (loX l 1) l.length := mx1 i i0 i2
          have a2 : cf l 2 i - cf l 3 i ≤ mxF (loX l 2) l.length := mx2 i i0 i2
          have a3 : cf l 1 i + cf l 3 i ≤ mxF (hiX l 1) l.length := mx3 i i0 i2
          have a4 : cf l 2 i + cf l 3 i ≤ mxF (hiX l 2) l.length := mx4 i i0 i2
          have a5 : mnF (loX l 1) l.length ≤ cf l 1 i - cf l 3 i := mn1 i i0 i2
          have a6 : mnF (loX l 2) l.length ≤ cf l 2 i - cf l 3 i := mn2 i i0 i2
          have a7 : mnF (hiX l 1) l.length ≤ cf l 1 i + cf l 3 i := mn3 i i0 i2
          have a8 : mnF (hiX l 2) l.length ≤ cf l 2 i + cf l 3 i := mn4 i i0 i2
          unfold okF at o1
          refine To.joinK (fun o => ∃ rest, o = .i 1 :: rest ∧ rest.length = 8) ?_ ?_
          · refine To.need (by simp only [X.den, X.dens, X.denss, D.int_i, D.boo_b, D.str_s, D.rows_l, List.getD_cons_zero, List.getD_cons_succ, List.cons_append, List.nil_append, List.append_nil, List.length_cons, List.length_nil, decide_eq_true_eq, decide_eq_false_iff_not, Bool.not_eq_true', Bool.not_eq_false', Bool.and_eq_true, Bool.and_eq_false_iff, Bool.true_eq_false, Bool.false_eq_true, Bool.not_true, Bool.not_false, eq_self, D.len_l]; omega) ?_
            refine To.joinK (fun o => o = [.b false]) ?_ ?_
            · refine To.ite (fun co => ?_) (fun co => ?_) <;> simp only [X.den, X.dens, X.denss, D.int_i, D.boo_b, D.str_s, D.rows_l, List.getD_cons_zero, List.getD_cons_succ, List.cons_append, List.nil_append, List.append_nil, List.length_cons, List.length_nil] at co
              · obtain ⟨k1, k2, k3, k4⟩ := hco co
                refine To.no (by simp (disch := omega) only [X.den, X.dens, X.denss, D.int_i, D.boo_b, D.str_s, D.rows_l, List.getD_cons_zero, List.getD_cons_succ, List.cons_append, List.nil_append, List.append_nil, List.length_cons, List.length_nil, decide_eq_true_eq, decide_eq_false_iff_not, Bool.not_eq_true', Bool.not_eq_false', Bool.and_eq_true, Bool.and_eq_false_iff, Bool.true_eq_false, Bool.false_eq_true, Bool.not_true, Bool.not_false, eq_self, cf_def, wr64]; omega) ?_
                refine To.no (by simp (disch := omega) only [X.den, X.dens, X.denss, D.int_i, D.boo_b, D.str_s, D.rows_l, List.getD_cons_zero, List.getD_cons_succ, List.cons_append, List.nil_append, List.append_nil, List.length_cons, List.length_nil, decide_eq_true_eq, decide_eq_false_iff_not, Bool.not_eq_true', Bool.not_eq_false', Bool.and_eq_true, Bool.and_eq_false_iff, Bool.true_eq_false, Bool.false_eq_true, Bool.not_true, Bool.not_false, eq_self, cf_def, wr64]; omega) ?_
                refine To.no (by simp (disch := omega) only [X.den, X.dens, X.denss, D.int_i, D.boo_b, D.str_s, D.rows_l, List.getD_cons_zero, List.getD_cons_succ, List.cons_append, List.nil_append, List.append_nil, List.length_cons, List.length_nil, decide_eq_true_eq, decide_eq_false_iff_not, Bool.not_eq_true', Bool.not_eq_false', Bool.and_eq_true, Bool.and_eq_false_iff, Bool.true_eq_false, Bool.false_eq_true, Bool.not_true, Bool.not_false, eq_self, cf_def, wr64]; omega) ?_
                refine To.ret ⟨rfl, ?_⟩
                simp (disch := omega) only [X.den, X.dens, X.denss, D.int_i, D.boo_b, D.str_s, D.rows_l, List.getD_cons_zero, List.getD_cons_succ, List.cons_append, List.nil_append, List.append_nil, List.length_cons, List.length_nil, cf_def, wr64]
                rw [decide_eq_false (by omega)]
              · exact To.ret ⟨rfl, by simp only [X.den, X.dens, X.denss, D.int_i, D.boo_b, D.str_s, D.rows_l, List.getD_cons_zero, List.getD_cons_succ, List.cons_append, List.nil_append, List.append_nil, List.length_cons, List.length_nil]⟩
            rintro o ρ2 rfl eρ
            simp only [List.cons_append, List.nil_append] at eρ
            subst eρ
            refine To.no rfl ?_
            refine To.joinK (fun o => ∃ b1 b2 b3 b4 b5 b6, o = [b1, b2, b3, b4, b5, b6, .b false]) ?_ ?_
            · refine To.yes rfl ?_
              refine To.no (by simp (disch := omega) only [X.den, X.dens, X.denss, D.int_i, D.boo_b, D.str_s, D.rows_l, List.getD_cons_zero, List.getD_cons_succ, List.cons_append, List.nil_append, List.append_nil, List.length_cons, List.length_nil, decide_eq_true_eq, decide_eq_false_iff_not, Bool.not_eq_true', Bool.not_eq_false', Bool.and_eq_true, Bool.and_eq_false_iff, Bool.true_eq_false, Bool.false_eq_true, Bool.not_true, Bool.not_false, eq_self, cf_def, wr64]; omega) ?_
              refine To.no (by simp (disch := omega) only [X.den, X.dens, X.denss, D.int_i, D.boo_b, D.str_s, D.rows_l, List.getD_cons_zero, List.getD_cons_succ, List.cons_append, List.nil_append, List.append_nil, List.length_cons, List.length_nil, decide_eq_true_eq, decide_eq_false_iff_not, Bool.not_eq_true', Bool.not_eq_false', Bool.and_eq_true, Bool.and_eq_false_iff, Bool.true_eq_false, Bool.false_eq_true, Bool.not_true, Bool.not_false, eq_self, cf_def, wr64]; omega) ?_
              refine To.no (by simp (disch := omega) only [X.den, X.dens, X.denss, D.int_i, D.boo_b, D.str_s, D.rows_l, List.getD_cons_zero, List.getD_cons_succ, List.cons_append, List.nil_append, List.append_nil, List.length_cons, List.length_nil, decide_eq_true_eq, decide_eq_false_iff_not, Bool.not_eq_true', Bool.not_eq_false', Bool.and_eq_true, Bool.and_eq_false_iff, Bool.true_eq_false, Bool.false_eq_true, Bool.not_true, Bool.not_false, eq_self, cf_def, wr64]; omega) ?_
              have last : decide (mxF (hiX l 2) l.length < cf l 2 i + cf l 3 i) = false := decide_eq_false (by omega)
              exact To.ret ⟨rfl, _, _, _, _, _, _, by simp (disch := omega) only [X.den, X.dens, X.denss, D.int_i, D.boo_b, D.str_s, D.rows_l, List.getD_cons_zero, List.getD_cons_succ, List.cons_append, List.nil_append, List.append_nil, List.length_cons, List.length_nil, cf_def, wr64, last]; rfl⟩
            rintro o ρ2 ⟨b1, b2, b3, b4, b5, b6, rfl⟩ eρ
            simp only [List.cons_append, List.nil_append] at eρ
            subst eρ
            exact To.no rfl (To.ret ⟨rfl, _, by simp only [X.den, X.dens, X.denss, D.int_i, D.boo_b, D.str_s, D.rows_l, List.getD_cons_zero, List.getD_cons_succ, List.cons_append, List.nil_append, List.append_nil, List.length_cons, List.length_nil]; rfl, rfl⟩)
          rintro o ρ2 ⟨rest, rfl, hr8⟩ eρ
          simp only [List.cons_append, List.nil_append] at eρ
          subst eρ
          refine To.no rfl (To.ret (.inl ⟨rfl, m - 1, by omega, ?_⟩))
          simp (disch := omega) only [X.den, X.dens, X.denss, D.int_i, D.boo_b, D.str_s, D.rows_l, List.getD_cons_zero, List.getD_cons_succ, List.cons_append, List.nil_append, List.append_nil, List.length_cons, List.length_nil, wr64]
          exact ⟨_, rfl, by omega, by omega⟩
        · exact To.ret (.inr ⟨rfl, _, _, _, _, by simp only [X.den, X.dens, X.denss, D.int_i, D.boo_b, D.str_s, D.rows_l, List.getD_cons_zero, List.getD_cons_succ, List.cons_append, List.nil_append, List.append_nil, List.length_cons, List.length_nil]; rfl⟩)
      rintro o ρ2 ⟨r1, r2, r3, r4, rfl⟩ eρ
      simp only [List.cons_append, List.nil_append] at eρ
      subst eρ
      refine ⟨rfl, To.no rfl ?_⟩
      have sb := fun (k : Nat) (hk : k ≤ b.length) => sumf_bound (f := cf b 1) (a := -30) (b := 1000) (n := k) fun i a c => by
        rw [hc 1 i a (by omega)]
        exact (fxR_ok hf (by omega) (by omega)).2
      refine To.loopK (fun m o => ∃ (y : List (List D)) (k : Nat), o = [.l y, .i (sumf (cf b 1) k), .i k] ∧ k + m = b.length ∧ y.length = b.length ∧ Four y ∧ (∀ i : Int, 0 ≤ i → i < b.length → cf y 1 i = cf b 1 i ∧ cf y 2 i = cf b 2 i) ∧ (∀ i : Int, 0 ≤ i → i < k → cf y 3 i = 7))
        (fun o => ∃ y : List (List D), o = [.l y, .i (sumf (cf b 1) b.length)] ∧ y.length = b.length ∧ (∀ i : Int, 0 ≤ i → i < b.length → cf y 1 i = cf b 1 i ∧ cf y 2 i = cf b 2 i) ∧ (∀ i : Int, 0 ≤ i → i < b.length → cf y 3 i = 7)) b.length (by omega) ?_ ?_ ?_
      · exact ⟨b, 0, rfl, by omega, rfl, h4, fun i _ _ => ⟨rfl, rfl⟩, by intro i; omega⟩
      · rintro m o ρ2 ⟨y, k, rfl, hk, hy, y4, yc, y7⟩ eρ
        simp only [List.cons_append, List.nil_append] at eρ
        subst eρ
        refine To.ite (fun c => ?_) (fun c => ?_) <;> simp only [X.den, X.dens, X.denss, D.int_i, D.boo_b, D.str_s, D.rows_l, List.getD_cons_zero, List.getD_cons_succ, List.cons_append, List.nil_append, List.append_nil, List.length_cons, List.length_nil, decide_eq_true_eq, decide_eq_false_iff_not, Bool.not_eq_true', Bool.not_eq_false', Bool.and_eq_true, Bool.and_eq_false_iff, Bool.true_eq_false, Bool.false_eq_true, Bool.not_true, Bool.not_false, eq_self, D.len_l] at c
        · refine To.need (by simp only [X.den, X.dens, X.denss, D.int_i, D.boo_b, D.str_s, D.rows_l, List.getD_cons_zero, List.getD_cons_succ, List.cons_append, List.nil_append, List.append_nil, List.length_cons, List.length_nil, decide_eq_true_eq, decide_eq_false_iff_not, Bool.not_eq_true', Bool.not_eq_false', Bool.and_eq_true, Bool.and_eq_false_iff, Bool.true_eq_false, Bool.false_eq_true, Bool.not_true, Bool.not_false, eq_self, D.len_l]; omega) ?_
          have s1 := sb k (by omega)
          have s2 := sb (k + 1) (by omega)
          simp only [sumf] at s2
          have pc : ∀ (c : Nat) (i : Int), 0 ≤ i → cf (put7 y k) c i = if i = k ∧ c = 3 then 7 else cf y c i := fun c i i0 => put7_ce y4 (by omega) (by omega) i0
          have e7 : cf (put7 y k) 1 k = cf b 1 k := by rw [pc 1 k (by omega), if_neg (by omega)]; exact (yc k (by omega) (by omega)).1
          refine To.ret (.inl ⟨rfl, m - 1, by omega, put7 y k, k + 1, ?_, by omega, by rw [put7_len]; exact hy, put7_four y4 (by omega) (by omega), fun i i0 i1 => ?_, fun i i0 i1 => ?_⟩)
          · simp (disch := omega) only [X.den, X.dens, X.denss, D.int_i, D.boo_b, D.str_s, D.rows_l, List.getD_cons_zero, List.getD_cons_succ, List.cons_append, List.nil_append, List.append_nil, List.length_cons, List.length_nil, put7_def, cf_def, e7, wr64, nat_suc, sumf]
          · rw [pc 1 i i0, if_neg (by omega), pc 2 i i0, if_neg (by omega)]
            exact yc i i0 i1
          · rw [pc 3 i i0]
            split
            · rfl
            · exact y7 i i0 (by omega)
        · obtain rfl : k = b.length := by omega
          exact To.ret (.inr ⟨rfl, y, by simp only [X.den, X.dens, X.denss, D.int_i, D.boo_b, D.str_s, D.rows_l, List.getD_cons_zero, List.getD_cons_succ, List.cons_append, List.nil_append, List.append_nil, List.length_cons, List.length_nil], hy, yc, y7⟩)
      rintro o ρ2 ⟨y, rfl, hy, yc, y7⟩ eρ
      simp only [List.cons_append, List.nil_append] at eρ
      subst eρ
      refine ⟨rfl, ?_⟩
      have yv : ∀ i : Int, 0 ≤ i → i < y.length → okF y i := fun i i0 i1 => by
        have a := bv i i0 (by omega)
        have b' := yc i i0 (by omega)
        have c' := y7 i i0 (by omega)
        unfold okF at *
        omega
      have yk : fck y = 0 := fck_of (by omega) (by omega) yv
      refine To.viaK (by (try simp (disch := omega) only [X.den, X.dens, X.denss, D.int_i, D.boo_b, D.str_s, D.rows_l, List.getD_cons_zero, List.getD_cons_succ, List.cons_append, List.nil_append, List.append_nil, List.length_cons, List.length_nil, decide_eq_true_eq, decide_eq_false_iff_not, Bool.not_eq_true', Bool.not_eq_false', Bool.and_eq_true, Bool.and_eq_false_iff, Bool.true_eq_false, Bool.false_eq_true, Bool.not_true, Bool.not_false, eq_self, D.len_l, wr64, not_true_eq_false, not_false_eq_true]); exact fuse_full yk) ?_
      rintro _ ρ2 rfl eρ
      refine ⟨rfl, ?_⟩
      simp only [List.cons_append, List.nil_append] at eρ
      subst eρ
      have w_all : ∀ i : Int, 0 ≤ i → i < y.length → wF y i = 20408163 := fun i i0 i1 => by unfold wF; rw [y7 i i0 (by omega)]; exact w7
      have g_all : gF y y.length = 20408163 := by
        refine Int.le_antisymm (gF_le (by decide) _ fun i a b => by rw [w_all i a b]; exact Int.le_refl _) ?_
        have := (gF_spec yv y.length (Nat.le_refl _)).2 0 (by omega) (by omega)
        rw [w_all 0 (by omega) (by omega)] at this
        exact this
      have u_all : ∀ i : Int, 0 ≤ i → i < y.length → uF y i = 1000 := fun i i0 i1 => by unfold uF; rw [w_all i i0 i1, g_all]; exact u7
      have su : sumf (uF y) y.length = 1000 * (y.length : Int) := by
        have := sumf_bound (f := uF y) (a := 1000) (b := 1000) (n := y.length) fun i a b => by rw [u_all i a b]; exact ⟨Int.le_refl _, Int.le_refl _⟩
        omega
      have sv : sumf (vF y 1) y.length = 1000 * sumf (cf b 1) b.length := by
        rw [← hy]
        have := sumf_sub (n := y.length) (f := fun _ => 0) (g := cf b 1) (h := vF y 1) (q := 1000) fun i a c => by
          unfold vF
          rw [u_all i a c, (yc i a (by omega)).1]
          omega
        have z : sumf (fun _ => (0 : Int)) y.length = 0 := by
          have := sumf_bound (n := y.length) (f := fun _ => (0 : Int)) (a := 0) (b := 0) fun _ _ _ => ⟨Int.le_refl _, Int.le_refl _⟩
          omega
        rw [z, Int.sub_zero] at this
        exact this
      have want : pF y 1 = hdv (sumf (cf b 1) b.length) b.length := by
        unfold pF
        rw [su, sv, hdv_scale (by decide), hy]
      have s1 := sb b.length (Nat.le_refl _)
      have el : min (y.length : Int) 9223372036854775807 = b.length := by omega
      refine To.viaK (by (try simp (disch := omega) only [X.den, X.dens, X.denss, D.int_i, D.boo_b, D.str_s, D.rows_l, List.getD_cons_zero, List.getD_cons_succ, List.cons_append, List.nil_append, List.append_nil, List.length_cons, List.length_nil, decide_eq_true_eq, decide_eq_false_iff_not, Bool.not_eq_true', Bool.not_eq_false', Bool.and_eq_true, Bool.and_eq_false_iff, Bool.true_eq_false, Bool.false_eq_true, Bool.not_true, Bool.not_false, eq_self, D.len_l, wr64, not_true_eq_false, not_false_eq_true, el]); exact rhalf_full (n := sumf (cf b 1) b.length) (d := b.length) (by omega) (by omega) (by omega) (by omega)) ?_
      rintro _ ρ2 rfl eρ
      refine ⟨rfl, ?_⟩
      simp only [List.cons_append, List.nil_append] at eρ
      subst eρ
      refine To.joinK (fun o => o = [.b true]) ?_ ?_
      · refine To.yes rfl (To.yes (by simp only [X.den, X.dens, X.denss, D.int_i, D.boo_b, D.str_s, D.rows_l, List.getD_cons_zero, List.getD_cons_succ, List.cons_append, List.nil_append, List.append_nil, List.length_cons, List.length_nil, decide_eq_true_eq, decide_eq_false_iff_not, Bool.not_eq_true', Bool.not_eq_false', Bool.and_eq_true, Bool.and_eq_false_iff, Bool.true_eq_false, Bool.false_eq_true, Bool.not_true, Bool.not_false, eq_self]; exact want) ?_)
        refine To.callK (l := [.b true]) rfl rfl _ (by simp only [List.cons_append, List.nil_append]; first | done | rfl) ?_
        exact To.ret ⟨rfl, by simp only [X.den, X.dens, X.denss, D.int_i, D.boo_b, D.str_s, D.rows_l, List.getD_cons_zero, List.getD_cons_succ, List.cons_append, List.nil_append, List.append_nil, List.length_cons, List.length_nil]⟩
      rintro o ρ2 rfl eρ
      simp only [List.cons_append, List.nil_append] at eρ
      subst eρ
      exact To.ret (by simp only [X.den, X.dens, X.denss, D.int_i, D.boo_b, D.str_s, D.rows_l, List.getD_cons_zero, List.getD_cons_succ, List.cons_append, List.nil_append, List.append_nil, List.length_cons, List.length_nil])
    · cases h
theorem FuseMean_walk {w : World} (v : Value) (zs : List Int) (h : IntsIn w w.heap.size v .i64 zs) (hz : ∀ z ∈ zs, (Lit.int .i64 z).wf = true) : Calls Try.prog 10 #[v] w fun e w' => e = .returned (.bool true) ∧ Below w.heap.size w w' :=
  con_law FuseMean_ok rfl (fun G hG => args_ints h hG (by trivial)) (by simp [fuMean_K]) (ds := [numD zs]) rfl
end Go.Proofs.Ytlhnhidoljfnnaa
