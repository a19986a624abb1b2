/- FuseExact. -/
import Derived.Test.YtlhnhidoljfnnaaFuR
set_option linter.unusedVariables false
set_option linter.unusedSimpArgs false
namespace Go.Proofs.Ytlhnhidoljfnnaa
open Go.RowKit Fx Sh
def fuExa_H : List Hint := [
  ⟨2095217, 8, [.t [.int .i64, .int .i64, .int .i64, .int .i64] 5], ⟨[.ptr 0 0, .und, .und, .und, .con (.slice none 0 0), .var 5, .int .i64 (.V 11), .und, .und, .und, .und, .und, .und, .und, .und, .und, .und, .und, .und, .und, .und], [.fix [.var 6, .int .i64 (.V 10)] true, .rows [.int .i64, .int .i64, .int .i64, .int .i64] (.V 8) 5], 12, 7, [none, none, none, none, none, none, none, none, none, none, none, none], [], [⟨0, [.int .i64], (.V 0)⟩, ⟨1, [.int .i64, .int .i64, .int .i64, .int .i64], (.V 1)⟩, ⟨2, [.int .i64], (.take (.V 0) (.mn (.len (.V 0)) (.N 600)))⟩, ⟨3, [.int .i64], (.V 6)⟩, ⟨6, [.int .i64], (.V 9)⟩]⟩⟩,
  ⟨2095217, 20, [.t [.int .i64, .int .i64, .int .i64, .int .i64] 5], ⟨[.ptr 0 0, .und, .und, .und, .con (.slice none 0 0), .var 15, .int .i64 (.V 23), .und, .und, .und, .und, .und, .und, .und, .und, .und, .und, .und, .und, .und, .und], [.fix [.var 16, .int .i64 (.V 22)] true, .rows [.int .i64, .int .i64, .int .i64, .int .i64] (.app (.V 8) (.rows [[(.N 0), (.at (.rows [[(.N (-1))], [(.N 0)], [(.N 1)], [(.N 4611686018427387904)], [(.N (-4611686018427387904))], [(.N 9223372036854775807)], [(.N (-9223372036854775808))], [(.N 1000000000)], [(.N 1000000001)], [(.N (-1000000001))], [(.N 3600)], [(.N 1800)], [(.N 100000000)], [(.N 100000001)], [(.N 5001)]]) (.V 11) 0), (.N 0), (.at (.rows [[(.N 0)], [(.N 1)], [(.N 100000)], [(.N 100001)]]) (.V 14) 0)]])) 12, .rows [.int .i64] (.rows [[(.N (-1))], [(.N 0)], [(.N 1)], [(.N 4611686018427387904)], [(.N (-4611686018427387904))], [(.N 9223372036854775807)], [(.N (-9223372036854775808))], [(.N 1000000000)], [(.N 1000000001)], [(.N (-1000000001))], [(.N 3600)], [(.N 1800)], [(.N 100000000)], [(.N 100000001)], [(.N 5001)]]) 7, .rows [.int .i64] (.rows [[(.N 0)], [(.N 1)], [(.N 100000)], [(.N 100001)]]) 9, .rows [.int .i64, .int .i64, .int .i64, .int .i64] (.rows [[(.N 0), (.at (.rows [[(.N (-1))], [(.N 0)], [(.N 1)], [(.N 4611686018427387904)], [(.N (-4611686018427387904))], [(.N 9223372036854775807)], [(.N (-9223372036854775808))], [(.N 1000000000)], [(.N 1000000001)], [(.N (-1000000001))], [(.N 3600)], [(.N 1800)], [(.N 100000000)], [(.N 100000001)], [(.N 5001)]]) (.V 11) 0), (.N 0), (.at (.rows [[(.N 0)], [(.N 1)], [(.N 100000)], [(.N 100001)]]) (.V 14) 0)]]) 11, .rows [.int .i64, .int .i64, .int .i64, .int .i64] (.V 20) 15], 24, 17, [none, none, none, none, none, none, none, none, none, none, none, none, none, none, none, none, none, none, none, none, none, none, none, none], [], [⟨0, [.int .i64], (.V 0)⟩, ⟨1, [.int .i64, .int .i64, .int .i64, .int .i64], (.V 1)⟩, ⟨2, [.int .i64], (.take (.V 0) (.mn (.len (.V 0)) (.N 600)))⟩, ⟨3, [.int .i64], (.V 6)⟩, ⟨6, [.int .i64], (.V 9)⟩, ⟨8, [.int .i64], (.V 12)⟩, ⟨10, [.int .i64], (.V 15)⟩, ⟨13, [.int .i64], (.V 18)⟩, ⟨16, [.int .i64], (.V 21)⟩]⟩⟩,
  ⟨2190441696282, 23, [], ⟨[.und, .und, .int .i64 (.V 2), .int .i64 (.V 3), .int .i64 (.V 4), .und, .und, .und, .und, .und, .bool (.B false), .ptr 0 0, .und, .und, .und, .und, .und, .und, .und, .und, .und, .und, .und, .und, .und, .und, .und, .und, .und, .und, .und, .und, .und, .und, .und, .und, .und, .und, .und, .und, .und, .und, .und, .und, .und, .und, .und, .und, .und, .und, .und, .und, .und, .und, .und, .und, .und, .und, .und, .und, .und, .agg [.var 15, .var 1, .var 12], .int .i64 (.V 23), .und, .und, .und, .und, .und, .und, .und, .und, .und, .und, .und, .und, .und, .und, .und, .und, .und, .und, .und, .und, .und, .und, .und, .und, .und, .und, .und, .und, .und, .und, .und, .und, .und, .und, .und, .und, .und, .und, .und, .und, .und, .und, .und, .und, .und, .und, .und, .und, .und, .und, .und, .und, .und, .und, .und, .und, .und, .und, .und, .und, .und, .und, .und, .und, .und, .und, .und, .und, .und, .und, .und, .und, .und, .und, .und, .und, .und, .und, .und, .und, .und, .und, .und, .und, .und, .und, .und, .und, .und, .und, .und, .und, .und, .und, .und, .und, .und, .und, .und, .und, .und, .und, .und, .und, .und, .und, .und, .und, .und, .und, .und, .und, .und, .und, .und, .und, .und, .und, .und, .und, .und, .und, .und, .und, .und, .und, .und, .und, .und, .und, .und, .und, .und, .und, .und, .und, .und, .und, .und, .und], [.fix [.var 16, .int .i64 (.V 22)] true, .none, .rows [.int .i64] (.rows [[(.N (-1))], [(.N 0)], [(.N 1)], [(.N 4611686018427387904)], [(.N (-4611686018427387904))], [(.N 9223372036854775807)], [(.N (-9223372036854775808))], [(.N 1000000000)], [(.N 1000000001)], [(.N (-1000000001))], [(.N 3600)], [(.N 1800)], [(.N 100000000)], [(.N 100000001)], [(.N 5001)]]) 7, .rows [.int .i64] (.rows [[(.N 0)], [(.N 1)], [(.N 100000)], [(.N 100001)]]) 9, .rows [.int .i64, .int .i64, .int .i64, .int .i64] (.rows [[(.N 0), (.at (.rows [[(.N (-1))], [(.N 0)], [(.N 1)], [(.N 4611686018427387904)], [(.N (-4611686018427387904))], [(.N 9223372036854775807)], [(.N (-9223372036854775808))], [(.N 1000000000)], [(.N 1000000001)], [(.N (-1000000001))], [(.N 3600)], [(.N 1800)], [(.N 100000000)], [(.N 100000001)], [(.N 5001)]]) (.V 11) 0), (.N 0), (.at (.rows [[(.N 0)], [(.N 1)], [(.N 100000)], [(.N 100001)]]) (.V 14) 0)]]) 11, .none], 24, 17, [none, none, none, none, none, none, none, none, none, none, none, none, none, none, none, none, none, none, none, none, none, none, none, some (0, 4611686018427387904)], [], [⟨0, [.int .i64], (.V 0)⟩, ⟨1, [.int .i64, .int .i64, .int .i64, .int .i64], (.V 1)⟩, ⟨2, [.int .i64], (.take (.V 0) (.mn (.len (.V 0)) (.N 600)))⟩, ⟨3, [.int .i64], (.V 6)⟩, ⟨6, [.int .i64], (.V 9)⟩, ⟨8, [.int .i64], (.V 12)⟩, ⟨10, [.int .i64], (.V 15)⟩, ⟨13, [.int .i64], (.V 18)⟩, ⟨16, [.int .i64], (.V 21)⟩, ⟨15, [.int .i64, .int .i64, .int .i64, .int .i64], (.V 20)⟩, ⟨12, [.int .i64, .int .i64, .int .i64, .int .i64], (.app (.V 8) (.rows [[(.N 0), (.at (.rows [[(.N (-1))], [(.N 0)], [(.N 1)], [(.N 4611686018427387904)], [(.N (-4611686018427387904))], [(.N 9223372036854775807)], [(.N (-9223372036854775808))], [(.N 1000000000)], [(.N 1000000001)], [(.N (-1000000001))], [(.N 3600)], [(.N 1800)], [(.N 100000000)], [(.N 100000001)], [(.N 5001)]]) (.V 11) 0), (.N 0), (.at (.rows [[(.N 0)], [(.N 1)], [(.N 100000)], [(.N 100001)]]) (.V 14) 0)]]))⟩]⟩⟩,
  ⟨2180778036248, 50, [], ⟨[.und, .und, .und, .int .i64 (.V 3), .int .i64 (.V 4), .und, .und, .und, .und, .und, .bool (.B false), .ptr 0 0, .und, .und, .und, .und, .und, .und, .und, .und, .und, .und, .und, .und, .und, .und, .und, .und, .und, .und, .und, .und, .und, .und, .und, .und, .und, .und, .und, .und, .und, .und, .und, .und, .und, .und, .und, .und, .und, .und, .und, .und, .und, .und, .und, .und, .und, .und, .und, .und, .und, .und, .und, .und, .und, .und, .und, .und, .und, .und, .und, .und, .und, .und, .und, .und, .und, .und, .und, .und, .und, .und, .und, .und, .und, .und, .und, .und, .und, .und, .und, .und, .und, .und, .und, .und, .und, .und, .und, .und, .und, .und, .und, .und, .und, .und, .und, .und, .und, .und, .und, .und, .und, .und, .und, .und, .und, .und, .und, .und, .und, .und, .und, .und, .und, .und, .und, .und, .und, .und, .und, .und, .und, .und, .und, .und, .und, .und, .und, .und, .und, .und, .und, .und, .und, .und, .und, .und, .und, .und, .agg [.int .i64 (.V 2), .int .i64 (.V 44), .int .i64 (.at (.rows [[(.N (-1))], [(.N 0)], [(.N 1)], [(.N 4611686018427387904)], [(.N (-4611686018427387904))], [(.N 9223372036854775807)], [(.N (-9223372036854775808))], [(.N 1000000000)], [(.N 1000000001)], [(.N (-1000000001))], [(.N 3600)], [(.N 1800)], [(.N 100000000)], [(.N 100000001)], [(.N 5001)]]) (.V 47) 0), .int .i64 (.N 1)], .int .i64 (.V 52), .und, .und, .und, .und, .und, .und, .und, .und, .und, .und, .und, .und, .und, .und, .und, .und, .und, .und, .und, .und, .und, .und, .und, .und, .und, .und, .und, .und, .und, .und, .und, .und, .und, .und, .und, .und, .und, .und, .und, .und, .und, .und, .und, .und, .und, .und, .und, .und, .und, .und, .und], [.fix [.var 20, .int .i64 (.V 51)] true, .none, .rows [.int .i64] (.rows [[(.N (-1))], [(.N 0)], [(.N 1)], [(.N 4611686018427387904)], [(.N (-4611686018427387904))], [(.N 9223372036854775807)], [(.N (-9223372036854775808))], [(.N 1000000000)], [(.N 1000000001)], [(.N (-1000000001))], [(.N 3600)], [(.N 1800)], [(.N 100000000)], [(.N 100000001)], [(.N 5001)]]) 7, .rows [.int .i64] (.rows [[(.N 0)], [(.N 1)], [(.N 100000)], [(.N 100001)]]) 9, .rows [.int .i64, .int .i64, .int .i64, .int .i64] (.rows [[(.N 0), (.at (.rows [[(.N (-1))], [(.N 0)], [(.N 1)], [(.N 4611686018427387904)], [(.N (-4611686018427387904))], [(.N 9223372036854775807)], [(.N (-9223372036854775808))], [(.N 1000000000)], [(.N 1000000001)], [(.N (-1000000001))], [(.N 3600)], [(.N 1800)], [(.N 100000000)], [(.N 100000001)], [(.N 5001)]]) (.V 11) 0), (.N 0), (.at (.rows [[(.N 0)], [(.N 1)], [(.N 100000)], [(.N 100001)]]) (.V 14) 0)]]) 11, .none, .rows [.int .i64] (.rows [[(.N (-1))], [(.N 0)], [(.N 1)], [(.N 4611686018427387904)], [(.N (-4611686018427387904))], [(.N 9223372036854775807)], [(.N (-9223372036854775808))], [(.N 1000000000)], [(.N 1000000001)], [(.N (-1000000001))], [(.N 3600)], [(.N 1800)], [(.N 100000000)], [(.N 100000001)], [(.N 5001)]]) 18], 53, 21, [none, none, none, none, none, none, none, none, none, none, none, none, none, none, none, none, none, none, none, none, none, none, none, none, none, none, none, none, none, none, none, none, none, none, none, none, none, none, none, none, none, none, none, none, none, none, none, none, none, none, none, none, some (0, 4611686018427387904)], [], [⟨0, [.int .i64], (.V 0)⟩, ⟨1, [.int .i64, .int .i64, .int .i64, .int .i64], (.V 1)⟩, ⟨2, [.int .i64], (.take (.V 0) (.mn (.len (.V 0)) (.N 600)))⟩, ⟨3, [.int .i64], (.V 6)⟩, ⟨6, [.int .i64], (.V 9)⟩, ⟨8, [.int .i64], (.V 12)⟩, ⟨10, [.int .i64], (.V 15)⟩, ⟨13, [.int .i64], (.V 18)⟩, ⟨16, [.int .i64], (.V 21)⟩, ⟨15, [.int .i64, .int .i64, .int .i64, .int .i64], (.V 20)⟩, ⟨12, [.int .i64, .int .i64, .int .i64, .int .i64], (.app (.V 8) (.rows [[(.N 0), (.at (.rows [[(.N (-1))], [(.N 0)], [(.N 1)], [(.N 4611686018427387904)], [(.N (-4611686018427387904))], [(.N 9223372036854775807)], [(.N (-9223372036854775808))], [(.N 1000000000)], [(.N 1000000001)], [(.N (-1000000001))], [(.N 3600)], [(.N 1800)], [(.N 100000000)], [(.N 100000001)], [(.N 5001)]]) (.V 11) 0), (.N 0), (.at (.rows [[(.N 0)], [(.N 1)], [(.N 100000)], [(.N 100001)]]) (.V 14) 0)]]))⟩, ⟨17, [.int .i64], (.V 45)⟩, ⟨19, [.int .i64], (.V 48)⟩, ⟨20, [.int .i64], (.V 50)⟩]⟩⟩]
def fuExa_K : Con := ⟨9, [.val false [.sl [.int .i64]], .val false [.sl [.int .i64, .int .i64, .int .i64, .int .i64]], .val false [.int .i64], .val false [.int .i64], .val false [.int .i64]], [.val false [.bool]], []⟩
def fuExa_T : T (List X) :=
  (.ite (.lt (.N 10) (.len (.V 1)))
  (.call 35 [] 1
   (.ret [(.V 5)]))
  (.need (.not (.lt (.len (.V 0)) (.mn (.len (.V 0)) (.N 600))))
   (.call 26 [(.take (.V 0) (.mn (.len (.V 0)) (.N 600))), (.N 0), (.N 4)] 3
    (.loop [(.rows []), (.V 6), (.V 7), (.V 5)]
     (.ite (.lt (.N 0) (.V 11))
      (.call 26 [(.V 9), (.V 10), (.N 6)] 3
       (.need (.and (.not (.lt (.V 12) (.N 0))) (.lt (.V 12) (.N 6)))
        (.call 26 [(.V 13), (.V 14), (.N 4)] 3
         (.need (.and (.not (.lt (.V 15) (.N 0))) (.lt (.V 15) (.N 4)))
          (.call 26 [(.V 16), (.V 17), (.N 4)] 3
           (.need (.and (.not (.lt (.V 18) (.N 0))) (.lt (.V 18) (.N 4)))
            (.need (.not (.lt (.N 4398046511104) (.add (.len (.V 8)) (.N 1))))
             (.ret (true, [(.app (.V 8) (.rows [[(.N 0), (.at (.rows [[(.N 0)], [(.N 0)], [(.N 1)], [(.N 20)], [(.N (-30))], [(.N 1000)]]) (.V 12) 0), (.at (.rows [[(.N 0)], [(.N 0)], [(.N 5)], [(.N (-20))]]) (.V 15) 0), (.at (.rows [[(.N 1)], [(.N 10)], [(.N 50)], [(.N 200)]]) (.V 18) 0)]])), (.V 19), (.V 20), (.wr .i64 (.sub (.V 11) (.N 1)))])))))))))
      (.ret (false, [(.V 8), (.V 9), (.V 10)]))) 3
     (.call 26 [(.V 9), (.V 10), (.N 15)] 3
      (.need (.and (.not (.lt (.V 11) (.N 0))) (.lt (.V 11) (.N 15)))
       (.call 26 [(.V 12), (.V 13), (.N 4)] 3
        (.need (.and (.not (.lt (.V 14) (.N 0))) (.lt (.V 14) (.N 4)))
         (.need (.not (.lt (.N 4398046511104) (.add (.len (.V 8)) (.N 1))))
          (.call 26 [(.V 15), (.V 16), (.N 9)] 3
           (.loop [(.rows []), (.V 18), (.V 19), (.V 17)]
            (.ite (.lt (.N 0) (.V 23))
             (.call 26 [(.V 21), (.V 22), (.N 6)] 3
              (.need (.and (.not (.lt (.V 24) (.N 0))) (.lt (.V 24) (.N 6)))
               (.call 26 [(.V 25), (.V 26), (.N 4)] 3
                (.need (.and (.not (.lt (.V 27) (.N 0))) (.lt (.V 27) (.N 4)))
                 (.call 26 [(.V 28), (.V 29), (.N 4)] 3
                  (.need (.and (.not (.lt (.V 30) (.N 0))) (.lt (.V 30) (.N 4)))
                   (.need (.not (.lt (.N 4398046511104) (.add (.len (.V 20)) (.N 1))))
                    (.ret (true, [(.app (.V 20) (.rows [[(.N 0), (.at (.rows [[(.N 0)], [(.N 0)], [(.N 1)], [(.N 20)], [(.N (-30))], [(.N 1000)]]) (.V 24) 0), (.at (.rows [[(.N 0)], [(.N 0)], [(.N 5)], [(.N (-20))]]) (.V 27) 0), (.at (.rows [[(.N 1)], [(.N 10)], [(.N 50)], [(.N 200)]]) (.V 30) 0)]])), (.V 31), (.V 32), (.wr .i64 (.sub (.V 23) (.N 1)))])))))))))
             (.ret (false, [(.V 20), (.V 21), (.V 22)]))) 3
            (.loop [(.N 0)]
             (.ite (.lt (.V 23) (.N 3))
              (.sub (.ite (.eq (.V 23) (.N 0))
                (.ret [(.V 20), (.V 20)])
                (.ite (.eq (.V 23) (.N 1))
                 (.ret [(.V 1), (.V 1)])
                 (.ret [(.app (.V 8) (.rows [[(.N 0), (.at (.rows [[(.N (-1))], [(.N 0)], [(.N 1)], [(.N 4611686018427387904)], [(.N (-4611686018427387904))], [(.N 9223372036854775807)], [(.N (-9223372036854775808))], [(.N 1000000000)], [(.N 1000000001)], [(.N (-1000000001))], [(.N 3600)], [(.N 1800)], [(.N 100000000)], [(.N 100000001)], [(.N 5001)]]) (.V 11) 0), (.N 0), (.at (.rows [[(.N 0)], [(.N 1)], [(.N 100000)], [(.N 100001)]]) (.V 14) 0)]])), (.app (.V 8) (.rows [[(.N 0), (.at (.rows [[(.N (-1))], [(.N 0)], [(.N 1)], [(.N 4611686018427387904)], [(.N (-4611686018427387904))], [(.N 9223372036854775807)], [(.N (-9223372036854775808))], [(.N 1000000000)], [(.N 1000000001)], [(.N (-1000000001))], [(.N 3600)], [(.N 1800)], [(.N 100000000)], [(.N 100000001)], [(.N 5001)]]) (.V 11) 0), (.N 0), (.at (.rows [[(.N 0)], [(.N 1)], [(.N 100000)], [(.N 100001)]]) (.V 14) 0)]]))]))) 2
               (.call 37 [(.V 24)] 4
                (.call 38 [(.V 24)] 4
                 (.call 39 [(.V 24)] 5
                  (.call 40 [(.V 24)] 5
                   (.call 41 [(.V 24)] 5
                    (.call 42 [(.V 24)] 5
                     (.sub (.ite (.and (.eq (.V 26) (.V 30)) (.eq (.V 27) (.V 31)))
                       (.ite (.eq (.V 28) (.V 32))
                        (.ite (.eq (.V 29) (.V 33))
                         (.ite (.and (.eq (.V 34) (.V 39)) (.eq (.V 35) (.V 40)))
                          (.ite (.and (.eq (.V 36) (.V 41)) (.eq (.V 37) (.V 42)))
                           (.ite (.beq (.V 38) (.V 43))
                            (.ite (.and (.eq (.V 44) (.V 49)) (.eq (.V 45) (.V 50)))
                             (.ite (.and (.eq (.V 46) (.V 51)) (.eq (.V 47) (.V 52)))
                              (.ret [(.not (.eq (.V 28) (.V 32))), (.not (.eq (.V 28) (.V 32))), (.not (.eq (.V 29) (.V 33))), (.not (.eq (.V 29) (.V 33))), (.not (.and (.eq (.V 34) (.V 39)) (.eq (.V 35) (.V 40)))), (.not (.and (.eq (.V 34) (.V 39)) (.eq (.V 35) (.V 40)))), (.not (.and (.eq (.V 36) (.V 41)) (.eq (.V 37) (.V 42)))), (.not (.and (.eq (.V 36) (.V 41)) (.eq (.V 37) (.V 42)))), (.not (.beq (.V 38) (.V 43))), (.not (.beq (.V 38) (.V 43))), (.not (.and (.eq (.V 44) (.V 49)) (.eq (.V 45) (.V 50)))), (.not (.and (.eq (.V 44) (.V 49)) (.eq (.V 45) (.V 50)))), (.not (.and (.eq (.V 46) (.V 51)) (.eq (.V 47) (.V 52)))), (.not (.and (.eq (.V 46) (.V 51)) (.eq (.V 47) (.V 52)))), (.not (.beq (.V 48) (.V 53)))])
                              (.ret [(.not (.eq (.V 28) (.V 32))), (.not (.eq (.V 28) (.V 32))), (.not (.eq (.V 29) (.V 33))), (.not (.eq (.V 29) (.V 33))), (.not (.and (.eq (.V 34) (.V 39)) (.eq (.V 35) (.V 40)))), (.not (.and (.eq (.V 34) (.V 39)) (.eq (.V 35) (.V 40)))), (.not (.and (.eq (.V 36) (.V 41)) (.eq (.V 37) (.V 42)))), (.not (.and (.eq (.V 36) (.V 41)) (.eq (.V 37) (.V 42)))), (.not (.beq (.V 38) (.V 43))), (.not (.beq (.V 38) (.V 43))), (.not (.and (.eq (.V 44) (.V 49)) (.eq (.V 45) (.V 50)))), (.not (.and (.eq (.V 44) (.V 49)) (.eq (.V 45) (.V 50)))), (.not (.and (.eq (.V 46) (.V 51)) (.eq (.V 47) (.V 52)))), (.not (.and (.eq (.V 46) (.V 51)) (.eq (.V 47) (.V 52)))), (.B true)]))
                             (.ret [(.not (.eq (.V 28) (.V 32))), (.not (.eq (.V 28) (.V 32))), (.not (.eq (.V 29) (.V 33))), (.not (.eq (.V 29) (.V 33))), (.not (.and (.eq (.V 34) (.V 39)) (.eq (.V 35) (.V 40)))), (.not (.and (.eq (.V 34) (.V 39)) (.eq (.V 35) (.V 40)))), (.not (.and (.eq (.V 36) (.V 41)) (.eq (.V 37) (.V 42)))), (.not (.and (.eq (.V 36) (.V 41)) (.eq (.V 37) (.V 42)))), (.not (.beq (.V 38) (.V 43))), (.not (.beq (.V 38) (.V 43))), (.not (.and (.eq (.V 44) (.V 49)) (.eq (.V 45) (.V 50)))), (.not (.and (.eq (.V 44) (.V 49)) (.eq (.V 45) (.V 50)))), (.B true), (.B true), (.B true)]))
                            (.ret [(.not (.eq (.V 28) (.V 32))), (.not (.eq (.V 28) (.V 32))), (.not (.eq (.V 29) (.V 33))), (.not (.eq (.V 29) (.V 33))), (.not (.and (.eq (.V 34) (.V 39)) (.eq (.V 35) (.V 40)))), (.not (.and (.eq (.V 34) (.V 39)) (.eq (.V 35) (.V 40)))), (.not (.and (.eq (.V 36) (.V 41)) (.eq (.V 37) (.V 42)))), (.not (.and (.eq (.V 36) (.V 41)) (.eq (.V 37) (.V 42)))), (.not (.beq (.V 38) (.V 43))), (.not (.beq (.V 38) (.V 43))), (.B true), (.B true), (.B true), (.B true), (.B true)]))
                           (.ret [(.not (.eq (.V 28) (.V 32))), (.not (.eq (.V 28) (.V 32))), (.not (.eq (.V 29) (.V 33))), (.not (.eq (.V 29) (.V 33))), (.not (.and (.eq (.V 34) (.V 39)) (.eq (.V 35) (.V 40)))), (.not (.and (.eq (.V 34) (.V 39)) (.eq (.V 35) (.V 40)))), (.not (.and (.eq (.V 36) (.V 41)) (.eq (.V 37) (.V 42)))), (.not (.and (.eq (.V 36) (.V 41)) (.eq (.V 37) (.V 42)))), (.B true), (.B true), (.B true), (.B true), (.B true), (.B true), (.B true)]))
                          (.ret [(.not (.eq (.V 28) (.V 32))), (.not (.eq (.V 28) (.V 32))), (.not (.eq (.V 29) (.V 33))), (.not (.eq (.V 29) (.V 33))), (.not (.and (.eq (.V 34) (.V 39)) (.eq (.V 35) (.V 40)))), (.not (.and (.eq (.V 34) (.V 39)) (.eq (.V 35) (.V 40)))), (.B true), (.B true), (.B true), (.B true), (.B true), (.B true), (.B true), (.B true), (.B true)]))
                         (.ret [(.not (.eq (.V 28) (.V 32))), (.not (.eq (.V 28) (.V 32))), (.not (.eq (.V 29) (.V 33))), (.not (.eq (.V 29) (.V 33))), (.B true), (.B true), (.B true), (.B true), (.B true), (.B true), (.B true), (.B true), (.B true), (.B true), (.B true)]))
                        (.ret [(.not (.eq (.V 28) (.V 32))), (.not (.eq (.V 28) (.V 32))), (.B true), (.B true), (.B true), (.B true), (.B true), (.B true), (.B true), (.B true), (.B true), (.B true), (.B true), (.B true), (.B true)]))
                       (.ret [(.B true), (.B true), (.B true), (.B true), (.B true), (.B true), (.B true), (.B true), (.B true), (.B true), (.B true), (.B true), (.B true), (.B true), (.B true)])) 15
                      (.ite (.V 68)
                       (.ret (false, [(.N 0), (.V 26), (.V 27), (.V 30), (.V 31), (.V 34), (.V 35), (.V 36), (.V 37), (.V 39), (.V 40), (.V 41), (.V 42), (.V 44), (.V 45), (.V 46), (.V 47), (.V 49), (.V 50), (.V 51), (.V 52)]))
                       (.ret (true, [(.add (.V 23) (.N 1))])))))))))))
              (.ret (false, [(.N 1), (.N 0), (.N 0), (.N 0), (.N 0), (.N 0), (.N 0), (.N 0), (.N 0), (.N 0), (.N 0), (.N 0), (.N 0), (.N 0), (.N 0), (.N 0), (.N 0), (.N 0), (.N 0), (.N 0), (.N 0)]))) 21
             (.ite (.eq (.V 23) (.N 0))
              (.ret [(.B false)])
              (.call 26 [(.V 21), (.V 22), (.N 3000)] 3
               (.call 26 [(.V 45), (.V 46), (.N 15)] 3
                (.need (.and (.not (.lt (.V 47) (.N 0))) (.lt (.V 47) (.N 15)))
                 (.loop [(.V 48), (.V 49), (.N 0)]
                  (.ite (.lt (.V 52) (.N 4))
                   (.sub (.ite (.eq (.V 52) (.N 0))
                     (.ret [(.V 2), (.V 2)])
                     (.ite (.eq (.V 52) (.N 1))
                      (.ret [(.V 44), (.V 44)])
                      (.ite (.eq (.V 52) (.N 2))
                       (.ret [(.at (.rows [[(.N (-1))], [(.N 0)], [(.N 1)], [(.N 4611686018427387904)], [(.N (-4611686018427387904))], [(.N 9223372036854775807)], [(.N (-9223372036854775808))], [(.N 1000000000)], [(.N 1000000001)], [(.N (-1000000001))], [(.N 3600)], [(.N 1800)], [(.N 100000000)], [(.N 100000001)], [(.N 5001)]]) (.V 47) 0), (.at (.rows [[(.N (-1))], [(.N 0)], [(.N 1)], [(.N 4611686018427387904)], [(.N (-4611686018427387904))], [(.N 9223372036854775807)], [(.N (-9223372036854775808))], [(.N 1000000000)], [(.N 1000000001)], [(.N (-1000000001))], [(.N 3600)], [(.N 1800)], [(.N 100000000)], [(.N 100000001)], [(.N 5001)]]) (.V 47) 0)])
                       (.ret [(.N 1), (.N 1)])))) 2
                    (.call 43 [(.V 53), (.V 3), (.V 4)] 2
                     (.call 44 [(.V 53), (.V 3), (.V 4)] 2
                      (.call 26 [(.V 50), (.V 51), (.N 20)] 3
                       (.call 26 [(.V 60), (.V 61), (.N 100)] 3
                        (.call 43 [(.V 53), (.V 59), (.V 62)] 2
                         (.sub (.call 45 [(.V 53)] 1
                           (.call 46 [(.V 53)] 1
                            (.ite (.eq (.V 67) (.V 68))
                             (.ite (.eq (.V 55) (.V 57))
                              (.ite (.eq (.V 56) (.V 58))
                               (.ite (.eq (.V 66) (.N 0))
                                (.ret [(.V 67), (.V 68), (.not (.eq (.V 67) (.V 68))), (.not (.eq (.V 67) (.V 68))), (.not (.eq (.V 55) (.V 57))), (.not (.eq (.V 55) (.V 57))), (.not (.eq (.V 56) (.V 58))), (.not (.eq (.V 56) (.V 58))), (.lt (.V 65) (.V 53))])
                                (.ret [(.V 67), (.V 68), (.not (.eq (.V 67) (.V 68))), (.not (.eq (.V 67) (.V 68))), (.not (.eq (.V 55) (.V 57))), (.not (.eq (.V 55) (.V 57))), (.not (.eq (.V 56) (.V 58))), (.not (.eq (.V 56) (.V 58))), (.B false)]))
                               (.ret [(.V 67), (.V 68), (.not (.eq (.V 67) (.V 68))), (.not (.eq (.V 67) (.V 68))), (.not (.eq (.V 55) (.V 57))), (.not (.eq (.V 55) (.V 57))), (.not (.eq (.V 56) (.V 58))), (.not (.eq (.V 56) (.V 58))), (.B true)]))
                              (.ret [(.V 67), (.V 68), (.not (.eq (.V 67) (.V 68))), (.not (.eq (.V 67) (.V 68))), (.not (.eq (.V 55) (.V 57))), (.not (.eq (.V 55) (.V 57))), (.B true), (.B true), (.B true)]))
                             (.ret [(.V 67), (.V 68), (.not (.eq (.V 67) (.V 68))), (.not (.eq (.V 67) (.V 68))), (.B true), (.B true), (.B true), (.B true), (.B true)])))) 9
                          (.ite (.V 75)
                           (.ret (false, [(.N 0), (.V 63), (.V 64)]))
                           (.ret (true, [(.V 63), (.V 64), (.add (.V 52) (.N 1))]))))))))))
                   (.ret (false, [(.N 1), (.V 50), (.V 51)]))) 3
                  (.ite (.eq (.V 50) (.N 0))
                   (.ret [(.B false)])
                   (.call 35 [] 1
                    (.ret [(.V 53)]))))))))))))))))))))
set_option maxRecDepth 100000 in
theorem fuExa_t : runS Try.prog [srcN_K.to [], gFuse_K.to [], gCom_K.to [], gHul_K.to [], gGro_K.to [], gWei_K.to [], rFus09_K.to [], rCom09_K.to [], rHul09_K.to [], rGro09_K.to [], rWei_K.to [], sane09x_K.to []] [(9, fuExa_H), (36, fuExa_H)] fuExa_K = fuExa_T := by kernel_rfl
def fxxM : Models := Models.on srcN_K.f (srcN_T.run noM 0) (Models.on gFuse_K.f (gFuse_T.run fuM 30) (Models.on gCom_K.f (gCom_T.run (Models.on gChk_K.f (gChk_T.run gcM 30) noM) 30) (Models.on gHul_K.f (gHul_T.run (Models.on gChk_K.f (gChk_T.run gcM 30) noM) 30) (Models.on gGro_K.f (gGro_T.run noM 0) (Models.on gWei_K.f (gWei_T.run noM 0)
  (Models.on rFus09_K.f (rFus09_T.run rfM9 30) (Models.on rCom09_K.f (rCom09_T.run rhM9 30) (Models.on rHul09_K.f (rHul09_T.run rhM9 30) (Models.on rGro09_K.f (gGro_T.run noM 0) (Models.on rWei_K.f (rWei_T.run noM 0) (Models.on sane09x_K.f (fun _ => some [.b true]) noM)))))))))))
def fxxR : List D → Option (List D) := fun ds => match ds with
  | [.l _, .l _, .i _, .i _, .i _] => some [.b true]
  | _ => none
theorem fuse_both {l : List (List D)} : ∃ a b c d : Int, (∃ o, gFuse_T.run fuM 30 [.l l] = some o ∧ o = [.i a, .i b, .i c, .i d]) ∧ (∃ o, rFus09_T.run rfM9 30 [.l l] = some o ∧ o = [.i a, .i b, .i c, .i d]) := by
  by_cases h : fck l = 0
  · exact ⟨_, _, _, _, fuse_full h, rfuse_full h⟩
  · exact ⟨_, _, _, _, fuse_bad h, rfuse_bad h⟩
theorem common_both {l : List (List D)} : ∃ (a b c d : Int) (e : Bool), (∃ o, gCom_T.run (Models.on gChk_K.f (gChk_T.run gcM 30) noM) 30 [.l l] = some o ∧ o = [.i a, .i b, .i c, .i d, .b e]) ∧ (∃ o, rCom09_T.run rhM9 30 [.l l] = some o ∧ o = [.i a, .i b, .i c, .i d, .b e]) := by
  by_cases h : fck l = 0
  · obtain ⟨a, b, c, d, ok, e, _⟩ := coO_shape (l := l)
    refine ⟨a, b, c, d, ok, ?_, ?_⟩
    · rw [← e]; exact common_full h
    · rw [← e]; exact rcommon_full h
  · exact ⟨_, _, _, _, _, common_bad h, rcommon_bad h⟩
theorem hull_both {l : List (List D)} : ∃ (a b c d : Int) (e : Bool), (∃ o, gHul_T.run (Models.on gChk_K.f (gChk_T.run gcM 30) noM) 30 [.l l] = some o ∧ o = [.i a, .i b, .i c, .i d, .b e]) ∧ (∃ o, rHul09_T.run rhM9 30 [.l l] = some o ∧ o = [.i a, .i b, .i c, .i d, .b e]) := by
  by_cases h : fck l = 0
  · exact ⟨_, _, _, _, _, hull_full h, rhull_full h⟩
  · exact ⟨_, _, _, _, _, hull_bad h, rhull_bad h⟩
theorem FuseExact_ok : ConOk Try.prog fuExa_K fxxR :=
  con_of follows (M := fxxM) (one_con (srcN_ok.to _) (one_con (gFuse_ok.to _) (one_con (gCom_ok.to _) (one_con (gHul_ok.to _) (one_con (gGro_ok.to _) (one_con (gWei_ok.to _) (one_con (rFus09_ok.to _) (one_con (rCom09_ok.to _) (one_con (rHul09_ok.to _) (one_con (rGro09_ok.to _) (one_con (rWei_ok.to _) (one_con (sane09x_ok.to _) no_cons)))))))))))) fuExa_t fun ds outs hl h => by
    unfold fxxR at h
    split at h
    · rename_i rows raw aN bN cN
      injection h with h
      subst h
      refine ⟨fun i l h k => by simp [fuExa_K] at k, 30, ?_⟩
      unfold fuExa_T
      refine To.ite (fun c => ?_) (fun c => ?_) <;> simp only [X.den, X.dens, X.denss, D.int_i, D.boo_b, D.str_s, D.rows_l, List.getD_cons_zero, List.getD_cons_succ, List.cons_append, List.nil_append, List.append_nil, List.length_cons, List.length_nil, decide_eq_true_eq, decide_eq_false_iff_not, Bool.not_eq_true', Bool.not_eq_false', Bool.and_eq_true, Bool.and_eq_false_iff, Bool.true_eq_false, Bool.false_eq_true, Bool.not_true, Bool.not_false, eq_self, D.len_l] at c
      · refine To.callK (l := [.b true]) rfl rfl _ (by simp only [List.cons_append, List.nil_append]; first | done | rfl) ?_
        exact To.ret (by simp only [X.den, X.dens, X.denss, D.int_i, D.boo_b, D.str_s, D.rows_l, List.getD_cons_zero, List.getD_cons_succ, List.cons_append, List.nil_append, List.append_nil, List.length_cons, List.length_nil])
      refine To.need (by simp only [X.den, X.dens, X.denss, D.int_i, D.boo_b, D.str_s, D.rows_l, List.getD_cons_zero, List.getD_cons_succ, List.cons_append, List.nil_append, List.append_nil, List.length_cons, List.length_nil, decide_eq_true_eq, decide_eq_false_iff_not, Bool.not_eq_true', Bool.not_eq_false', Bool.and_eq_true, Bool.and_eq_false_iff, Bool.true_eq_false, Bool.false_eq_true, Bool.not_true, Bool.not_false, eq_self, D.len_l]; omega) ?_
      refine To.viaK (by (try simp (disch := omega) only [X.den, X.dens, X.denss, D.int_i, D.boo_b, D.str_s, D.rows_l, List.getD_cons_zero, List.getD_cons_succ, List.cons_append, List.nil_append, List.append_nil, List.length_cons, List.length_nil, decide_eq_true_eq, decide_eq_false_iff_not, Bool.not_eq_true', Bool.not_eq_false', Bool.and_eq_true, Bool.and_eq_false_iff, Bool.true_eq_false, Bool.false_eq_true, Bool.not_true, Bool.not_false, eq_self, D.len_l, wr64, not_true_eq_false, not_false_eq_true]); exact srcN_to src_take9 (by omega) (by omega)) ?_
      rintro _ ρ2 ⟨n0, t1, rfl, p1, q1, h1⟩ eρ
      refine ⟨rfl, ?_⟩
      simp only [List.cons_append, List.nil_append] at eρ
      subst eρ
      generalize List.take (min (min (rows.length : Int) 9223372036854775807) 600).toNat rows = src at *
      refine To.loopK (fun m o => ∃ l at_ k, o = [.l l, .l src, .i at_, .i k] ∧ SrcOk src at_ ∧ k = m ∧ k + l.length ≤ 3) (fun o => ∃ l at_, o = [.l l, .l src, .i at_] ∧ SrcOk src at_ ∧ (l.length : Int) ≤ 3) n0.toNat (by omega) ?_ ?_ ?_
      · exact ⟨[], t1, n0, by simp only [X.den, X.dens, X.denss, D.int_i, D.boo_b, D.str_s, D.rows_l, List.getD_cons_zero, List.getD_cons_succ, List.cons_append, List.nil_append, List.append_nil, List.length_cons, List.length_nil, X.denss], h1, by omega, by simp; omega⟩
      · rintro m o ρ2 ⟨l, a, k, rfl, hs, hk, hn⟩ eρ
        simp only [List.cons_append, List.nil_append] at eρ
        subst eρ
        refine To.ite (fun c => ?_) (fun c => ?_) <;> simp only [X.den, X.dens, X.denss, D.int_i, D.boo_b, D.str_s, D.rows_l, List.getD_cons_zero, List.getD_cons_succ, List.cons_append, List.nil_append, List.append_nil, List.length_cons, List.length_nil, decide_eq_true_eq, decide_eq_false_iff_not, Bool.not_eq_true', Bool.not_eq_false', Bool.and_eq_true, Bool.and_eq_false_iff, Bool.true_eq_false, Bool.false_eq_true, Bool.not_true, Bool.not_false, eq_self] at c
        · refine To.viaK (by (try simp (disch := omega) only [X.den, X.dens, X.denss, D.int_i, D.boo_b, D.str_s, D.rows_l, List.getD_cons_zero, List.getD_cons_succ, List.cons_append, List.nil_append, List.append_nil, List.length_cons, List.length_nil, decide_eq_true_eq, decide_eq_false_iff_not, Bool.not_eq_true', Bool.not_eq_false', Bool.and_eq_true, Bool.and_eq_false_iff, Bool.true_eq_false, Bool.false_eq_true, Bool.not_true, Bool.not_false, eq_self, D.len_l, wr64, not_true_eq_false, not_false_eq_true]); exact srcN_to hs (by omega) (by omega)) ?_
          rintro _ ρ2 ⟨r1, t1, rfl, p1, q1, h1⟩ eρ
          refine ⟨rfl, ?_⟩
          simp only [List.cons_append, List.nil_append] at eρ
          subst eρ
          refine To.need (by simp only [X.den, X.dens, X.denss, D.int_i, D.boo_b, D.str_s, D.rows_l, List.getD_cons_zero, List.getD_cons_succ, List.cons_append, List.nil_append, List.append_nil, List.length_cons, List.length_nil, decide_eq_true_eq, decide_eq_false_iff_not, Bool.not_eq_true', Bool.not_eq_false', Bool.and_eq_true, Bool.and_eq_false_iff, Bool.true_eq_false, Bool.false_eq_true, Bool.not_true, Bool.not_false, eq_self]; omega) ?_
          refine To.viaK (by (try simp (disch := omega) only [X.den, X.dens, X.denss, D.int_i, D.boo_b, D.str_s, D.rows_l, List.getD_cons_zero, List.getD_cons_succ, List.cons_append, List.nil_append, List.append_nil, List.length_cons, List.length_nil, decide_eq_true_eq, decide_eq_false_iff_not, Bool.not_eq_true', Bool.not_eq_false', Bool.and_eq_true, Bool.and_eq_false_iff, Bool.true_eq_false, Bool.false_eq_true, Bool.not_true, Bool.not_false, eq_self, D.len_l, wr64, not_true_eq_false, not_false_eq_true]); exact srcN_to h1 (by omega) (by omega)) ?_
          rintro _ ρ2 ⟨r2, t2, rfl, p2, q2, h2⟩ eρ
          refine ⟨rfl, ?_⟩
          simp only [List.cons_append, List.nil_append] at eρ
          subst eρ
          refine To.need (by simp only [X.den, X.dens, X.denss, D.int_i, D.boo_b, D.str_s, D.rows_l, List.getD_cons_zero, List.getD_cons_succ, List.cons_append, List.nil_append, List.append_nil, List.length_cons, List.length_nil, decide_eq_true_eq, decide_eq_false_iff_not, Bool.not_eq_true', Bool.not_eq_false', Bool.and_eq_true, Bool.and_eq_false_iff, Bool.true_eq_false, Bool.false_eq_true, Bool.not_true, Bool.not_false, eq_self]; omega) ?_
          refine To.viaK (by (try simp (disch := omega) only [X.den, X.dens, X.denss, D.int_i, D.boo_b, D.str_s, D.rows_l, List.getD_cons_zero, List.getD_cons_succ, List.cons_append, List.nil_append, List.append_nil, List.length_cons, List.length_nil, decide_eq_true_eq, decide_eq_false_iff_not, Bool.not_eq_true', Bool.not_eq_false', Bool.and_eq_true, Bool.and_eq_false_iff, Bool.true_eq_false, Bool.false_eq_true, Bool.not_true, Bool.not_false, eq_self, D.len_l, wr64, not_true_eq_false, not_false_eq_true]); exact srcN_to h2 (by omega) (by omega)) ?_
          rintro _ ρ2 ⟨r3, t3, rfl, p3, q3, h3⟩ eρ
          refine ⟨rfl, ?_⟩
          simp only [List.cons_append, List.nil_append] at eρ
          subst eρ
          refine To.need (by simp only [X.den, X.dens, X.denss, D.int_i, D.boo_b, D.str_s, D.rows_l, List.getD_cons_zero, List.getD_cons_succ, List.cons_append, List.nil_append, List.append_nil, List.length_cons, List.length_nil, decide_eq_true_eq, decide_eq_false_iff_not, Bool.not_eq_true', Bool.not_eq_false', Bool.and_eq_true, Bool.and_eq_false_iff, Bool.true_eq_false, Bool.false_eq_true, Bool.not_true, Bool.not_false, eq_self]; omega) ?_
          refine To.need (by simp only [X.den, X.dens, X.denss, D.int_i, D.boo_b, D.str_s, D.rows_l, List.getD_cons_zero, List.getD_cons_succ, List.cons_append, List.nil_append, List.append_nil, List.length_cons, List.length_nil, decide_eq_true_eq, decide_eq_false_iff_not, Bool.not_eq_true', Bool.not_eq_false', Bool.and_eq_true, Bool.and_eq_false_iff, Bool.true_eq_false, Bool.false_eq_true, Bool.not_true, Bool.not_false, eq_self, D.len_l]; omega) ?_
          refine To.ret (.inl ⟨rfl, m - 1, by omega, ?_⟩)
          simp (disch := omega) only [X.den, X.dens, X.denss, D.int_i, D.boo_b, D.str_s, D.rows_l, List.getD_cons_zero, List.getD_cons_succ, List.cons_append, List.nil_append, List.append_nil, List.length_cons, List.length_nil, X.denss, wr64]
          exact ⟨_, _, _, rfl, h3, by omega, by rw [List.length_append]; simp only [List.length_cons, List.length_nil]; omega⟩
        · exact To.ret (.inr ⟨rfl, l, a, by simp only [X.den, X.dens, X.denss, D.int_i, D.boo_b, D.str_s, D.rows_l, List.getD_cons_zero, List.getD_cons_succ, List.cons_append, List.nil_append, List.append_nil, List.length_cons, List.length_nil], hs, by omega⟩)
      rintro o ρ2 ⟨bad, t2, rfl, h2, hbad⟩ eρ
      simp only [List.cons_append, List.nil_append] at eρ
      subst eρ
      refine ⟨rfl, ?_⟩
      refine To.viaK (by (try simp (disch := omega) only [X.den, X.dens, X.denss, D.int_i, D.boo_b, D.str_s, D.rows_l, List.getD_cons_zero, List.getD_cons_succ, List.cons_append, List.nil_append, List.append_nil, List.length_cons, List.length_nil, decide_eq_true_eq, decide_eq_false_iff_not, Bool.not_eq_true', Bool.not_eq_false', Bool.and_eq_true, Bool.and_eq_false_iff, Bool.true_eq_false, Bool.false_eq_true, Bool.not_true, Bool.not_false, eq_self, D.len_l, wr64, not_true_eq_false, not_false_eq_true]); exact srcN_to h2 (by omega) (by omega)) ?_
      rintro _ ρ2 ⟨a5, t5, rfl, p5, q5, h5⟩ eρ
      refine ⟨rfl, ?_⟩
      simp only [List.cons_append, List.nil_append] at eρ
      subst eρ
      refine To.need (by simp only [X.den, X.dens, X.denss, D.int_i, D.boo_b, D.str_s, D.rows_l, List.getD_cons_zero, List.getD_cons_succ, List.cons_append, List.nil_append, List.append_nil, List.length_cons, List.length_nil, decide_eq_true_eq, decide_eq_false_iff_not, Bool.not_eq_true', Bool.not_eq_false', Bool.and_eq_true, Bool.and_eq_false_iff, Bool.true_eq_false, Bool.false_eq_true, Bool.not_true, Bool.not_false, eq_self]; omega) ?_
      refine To.viaK (by (try simp (disch := omega) only [X.den, X.dens, X.denss, D.int_i, D.boo_b, D.str_s, D.rows_l, List.getD_cons_zero, List.getD_cons_succ, List.cons_append, List.nil_append, List.append_nil, List.length_cons, List.length_nil, decide_eq_true_eq, decide_eq_false_iff_not, Bool.not_eq_true', Bool.not_eq_false', Bool.and_eq_true, Bool.and_eq_false_iff, Bool.true_eq_false, Bool.false_eq_true, Bool.not_true, Bool.not_false, eq_self, D.len_l, wr64, not_true_eq_false, not_false_eq_true]); exact srcN_to h5 (by omega) (by omega)) ?_
      rintro _ ρ2 ⟨a6, t6, rfl, p6, q6, h6⟩ eρ
      refine ⟨rfl, ?_⟩
      simp only [List.cons_append, List.nil_append] at eρ
      subst eρ
      refine To.need (by simp only [X.den, X.dens, X.denss, D.int_i, D.boo_b, D.str_s, D.rows_l, List.getD_cons_zero, List.getD_cons_succ, List.cons_append, List.nil_append, List.append_nil, List.length_cons, List.length_nil, decide_eq_true_eq, decide_eq_false_iff_not, Bool.not_eq_true', Bool.not_eq_false', Bool.and_eq_true, Bool.and_eq_false_iff, Bool.true_eq_false, Bool.false_eq_true, Bool.not_true, Bool.not_false, eq_self]; omega) ?_
      refine To.need (by simp only [X.den, X.dens, X.denss, D.int_i, D.boo_b, D.str_s, D.rows_l, List.getD_cons_zero, List.getD_cons_succ, List.cons_append, List.nil_append, List.append_nil, List.length_cons, List.length_nil, decide_eq_true_eq, decide_eq_false_iff_not, Bool.not_eq_true', Bool.not_eq_false', Bool.and_eq_true, Bool.and_eq_false_iff, Bool.true_eq_false, Bool.false_eq_true, Bool.not_true, Bool.not_false, eq_self, D.len_l]; omega) ?_
      refine To.viaK (by (try simp (disch := omega) only [X.den, X.dens, X.denss, D.int_i, D.boo_b, D.str_s, D.rows_l, List.getD_cons_zero, List.getD_cons_succ, List.cons_append, List.nil_append, List.append_nil, List.length_cons, List.length_nil, decide_eq_true_eq, decide_eq_false_iff_not, Bool.not_eq_true', Bool.not_eq_false', Bool.and_eq_true, Bool.and_eq_false_iff, Bool.true_eq_false, Bool.false_eq_true, Bool.not_true, Bool.not_false, eq_self, D.len_l, wr64, not_true_eq_false, not_false_eq_true]); exact srcN_to h6 (by omega) (by omega)) ?_
      rintro _ ρ2 ⟨n7, t7, rfl, p7, q7, h7⟩ eρ
      refine ⟨rfl, ?_⟩
      simp only [List.cons_append, List.nil_append] at eρ
      subst eρ
      refine To.loopK (fun m o => ∃ l at_ k, o = [.l l, .l src, .i at_, .i k] ∧ SrcOk src at_ ∧ k = m ∧ k + l.length ≤ 8) (fun o => ∃ l at_, o = [.l l, .l src, .i at_] ∧ SrcOk src at_) n7.toNat (by omega) ?_ ?_ ?_
      · exact ⟨[], t7, n7, by simp only [X.den, X.dens, X.denss, D.int_i, D.boo_b, D.str_s, D.rows_l, List.getD_cons_zero, List.getD_cons_succ, List.cons_append, List.nil_append, List.append_nil, List.length_cons, List.length_nil, X.denss], h7, by omega, by simp; omega⟩
      · rintro m o ρ2 ⟨l, a, k, rfl, hs, hk, hn⟩ eρ
        simp only [List.cons_append, List.nil_append] at eρ
        subst eρ
        refine To.ite (fun c => ?_) (fun c => ?_) <;> simp only [X.den, X.dens, X.denss, D.int_i, D.boo_b, D.str_s, D.rows_l, List.getD_cons_zero, List.getD_cons_succ, List.cons_append, List.nil_append, List.append_nil, List.length_cons, List.length_nil, decide_eq_true_eq, decide_eq_false_iff_not, Bool.not_eq_true', Bool.not_eq_false', Bool.and_eq_true, Bool.and_eq_false_iff, Bool.true_eq_false, Bool.false_eq_true, Bool.not_true, Bool.not_false, eq_self] at c
        · refine To.viaK (by (try simp (disch := omega) only [X.den, X.dens, X.denss, D.int_i, D.boo_b, D.str_s, D.rows_l, List.getD_cons_zero, List.getD_cons_succ, List.cons_append, List.nil_append, List.append_nil, List.length_cons, List.length_nil, decide_eq_true_eq, decide_eq_false_iff_not, Bool.not_eq_true', Bool.not_eq_false', Bool.and_eq_true, Bool.and_eq_false_iff, Bool.true_eq_false, Bool.false_eq_true, Bool.not_true, Bool.not_false, eq_self, D.len_l, wr64, not_true_eq_false, not_false_eq_true]); exact srcN_to hs (by omega) (by omega)) ?_
          rintro _ ρ2 ⟨r1, t1, rfl, p1, q1, h1⟩ eρ
          refine ⟨rfl, ?_⟩
          simp only [List.cons_append, List.nil_append] at eρ
          subst eρ
          refine To.need (by simp only [X.den, X.dens, X.denss, D.int_i, D.boo_b, D.str_s, D.rows_l, List.getD_cons_zero, List.getD_cons_succ, List.cons_append, List.nil_append, List.append_nil, List.length_cons, List.length_nil, decide_eq_true_eq, decide_eq_false_iff_not, Bool.not_eq_true', Bool.not_eq_false', Bool.and_eq_true, Bool.and_eq_false_iff, Bool.true_eq_false, Bool.false_eq_true, Bool.not_true, Bool.not_false, eq_self]; omega) ?_
          refine To.viaK (by (try simp (disch := omega) only [X.den, X.dens, X.denss, D.int_i, D.boo_b, D.str_s, D.rows_l, List.getD_cons_zero, List.getD_cons_succ, List.cons_append, List.nil_append, List.append_nil, List.length_cons, List.length_nil, decide_eq_true_eq, decide_eq_false_iff_not, Bool.not_eq_true', Bool.not_eq_false', Bool.and_eq_true, Bool.and_eq_false_iff, Bool.true_eq_false, Bool.false_eq_true, Bool.not_true, Bool.not_false, eq_self, D.len_l, wr64, not_true_eq_false, not_false_eq_true]); exact srcN_to h1 (by omega) (by omega)) ?_
          rintro _ ρ2 ⟨r2, t2, rfl, p2, q2, h2⟩ eρ
          refine ⟨rfl, ?_⟩
          simp only [List.cons_append, List.nil_append] at eρ
          subst eρ
          refine To.need (by simp only [X.den, X.dens, X.denss, D.int_i, D.boo_b, D.str_s, D.rows_l, List.getD_cons_zero, List.getD_cons_succ, List.cons_append, List.nil_append, List.append_nil, List.length_cons, List.length_nil, decide_eq_true_eq, decide_eq_false_iff_not, Bool.not_eq_true', Bool.not_eq_false', Bool.and_eq_true, Bool.and_eq_false_iff, Bool.true_eq_false, Bool.false_eq_true, Bool.not_true, Bool.not_false, eq_self]; omega) ?_
          refine To.viaK (by (try simp (disch := omega) only [X.den, X.dens, X.denss, D.int_i, D.boo_b, D.str_s, D.rows_l, List.getD_cons_zero, List.getD_cons_succ, List.cons_append, List.nil_append, List.append_nil, List.length_cons, List.length_nil, decide_eq_true_eq, decide_eq_false_iff_not, Bool.not_eq_true', Bool.not_eq_false', Bool.and_eq_true, Bool.and_eq_false_iff, Bool.true_eq_false, Bool.false_eq_true, Bool.not_true, Bool.not_false, eq_self, D.len_l, wr64, not_true_eq_false, not_false_eq_true]); exact srcN_to h2 (by omega) (by omega)) ?_
          rintro _ ρ2 ⟨r3, t3, rfl, p3, q3, h3⟩ eρ
          refine ⟨rfl, ?_⟩
          simp only [List.cons_append, List.nil_append] at eρ
          subst eρ
          refine To.need (by simp only [X.den, X.dens, X.denss, D.int_i, D.boo_b, D.str_s, D.rows_l, List.getD_cons_zero, List.getD_cons_succ, List.cons_append, List.nil_append, List.append_nil, List.length_cons, List.length_nil, decide_eq_true_eq, decide_eq_false_iff_not, Bool.not_eq_true', Bool.not_eq_false', Bool.and_eq_true, Bool.and_eq_false_iff, Bool.true_eq_false, Bool.false_eq_true, Bool.not_true, Bool.not_false, eq_self]; omega) ?_
          refine To.need (by simp only [X.den, X.dens, X.denss, D.int_i, D.boo_b, D.str_s, D.rows_l, List.getD_cons_zero, List.getD_cons_succ, List.cons_append, List.nil_append, List.append_nil, List.length_cons, List.length_nil, decide_eq_true_eq, decide_eq_false_iff_not, Bool.not_eq_true', Bool.not_eq_false', Bool.and_eq_true, Bool.and_eq_false_iff, Bool.true_eq_false, Bool.false_eq_true, Bool.not_true, Bool.not_false, eq_self, D.len_l]; omega) ?_
          refine To.ret (.inl ⟨rfl, m - 1, by omega, ?_⟩)
          simp (disch := omega) only [X.den, X.dens, X.denss, D.int_i, D.boo_b, D.str_s, D.rows_l, List.getD_cons_zero, List.getD_cons_succ, List.cons_append, List.nil_append, List.append_nil, List.length_cons, List.length_nil, X.denss, wr64]
          exact ⟨_, _, _, rfl, h3, by omega, by rw [List.length_append]; simp only [List.length_cons, List.length_nil]; omega⟩
        · exact To.ret (.inr ⟨rfl, l, a, by simp only [X.den, X.dens, X.denss, D.int_i, D.boo_b, D.str_s, D.rows_l, List.getD_cons_zero, List.getD_cons_succ, List.cons_append, List.nil_append, List.append_nil, List.length_cons, List.length_nil], hs⟩)
      rintro o ρ2 ⟨l, t8, rfl, h8⟩ eρ
      simp only [List.cons_append, List.nil_append] at eρ
      subst eρ
      refine ⟨rfl, ?_⟩
      refine To.loopK (fun m o => ∃ k : Int, o = [.i k] ∧ 0 ≤ k ∧ k + m = 3) (fun o => ∃ rest : List D, o = .i 1 :: rest ∧ rest.length = 20) 3 (by omega) ?_ ?_ ?_
      · exact ⟨0, by simp only [X.den, X.dens, X.denss, D.int_i, D.boo_b, D.str_s, D.rows_l, List.getD_cons_zero, List.getD_cons_succ, List.cons_append, List.nil_append, List.append_nil, List.length_cons, List.length_nil], by omega, by omega⟩
      · rintro m o ρ2 ⟨k, rfl, k0, k1⟩ eρ
        simp only [List.cons_append, List.nil_append] at eρ
        subst eρ
        refine To.ite (fun c => ?_) (fun c => ?_) <;> simp only [X.den, X.dens, X.denss, D.int_i, D.boo_b, D.str_s, D.rows_l, List.getD_cons_zero, List.getD_cons_succ, List.cons_append, List.nil_append, List.append_nil, List.length_cons, List.length_nil, decide_eq_true_eq, decide_eq_false_iff_not, Bool.not_eq_true', Bool.not_eq_false', Bool.and_eq_true, Bool.and_eq_false_iff, Bool.true_eq_false, Bool.false_eq_true, Bool.not_true, Bool.not_false, eq_self] at c
        · refine To.joinK (fun o => ∃ y : List (List D), o = [.l y, .l y]) ?_ ?_
          · refine To.ite (fun c => ?_) (fun c => ?_)
            · exact To.ret ⟨rfl, l, by simp only [X.den, X.dens, X.denss, D.int_i, D.boo_b, D.str_s, D.rows_l, List.getD_cons_zero, List.getD_cons_succ, List.cons_append, List.nil_append, List.append_nil, List.length_cons, List.length_nil]⟩
            · refine To.ite (fun c => ?_) (fun c => ?_)
              · exact To.ret ⟨rfl, raw, by simp only [X.den, X.dens, X.denss, D.int_i, D.boo_b, D.str_s, D.rows_l, List.getD_cons_zero, List.getD_cons_succ, List.cons_append, List.nil_append, List.append_nil, List.length_cons, List.length_nil]⟩
              · exact To.ret ⟨rfl, _, by simp only [X.den, X.dens, X.denss, D.int_i, D.boo_b, D.str_s, D.rows_l, List.getD_cons_zero, List.getD_cons_succ, List.cons_append, List.nil_append, List.append_nil, List.length_cons, List.length_nil]; rfl⟩
          rintro o ρ2 ⟨y, rfl⟩ eρ
          simp only [List.cons_append, List.nil_append] at eρ
          subst eρ
          obtain ⟨a1, a2, a3, a4, ha, ha'⟩ := fuse_both (l := y)
          obtain ⟨b1, b2, b3, b4, b5, hb, hb'⟩ := common_both (l := y)
          obtain ⟨c1, c2, c3, c4, c5, hc, hc'⟩ := hull_both (l := y)
          refine To.viaK (by (try simp (disch := omega) only [X.den, X.dens, X.denss, D.int_i, D.boo_b, D.str_s, D.rows_l, List.getD_cons_zero, List.getD_cons_succ, List.cons_append, List.nil_append, List.append_nil, List.length_cons, List.length_nil, decide_eq_true_eq, decide_eq_false_iff_not, Bool.not_eq_true', Bool.not_eq_false', Bool.and_eq_true, Bool.and_eq_false_iff, Bool.true_eq_false, Bool.false_eq_true, Bool.not_true, Bool.not_false, eq_self, D.len_l, wr64, not_true_eq_false, not_false_eq_true]); exact ha) ?_
          rintro _ ρ2 rfl eρ
          refine ⟨rfl, ?_⟩
          simp only [List.cons_append, List.nil_append] at eρ
          subst eρ
          refine To.viaK (by (try simp (disch := omega) only [X.den, X.dens, X.denss, D.int_i, D.boo_b, D.str_s, D.rows_l, List.getD_cons_zero, List.getD_cons_succ, List.cons_append, List.nil_append, List.append_nil, List.length_cons, List.length_nil, decide_eq_true_eq, decide_eq_false_iff_not, Bool.not_eq_true', Bool.not_eq_false', Bool.and_eq_true, Bool.and_eq_false_iff, Bool.true_eq_false, Bool.false_eq_true, Bool.not_true, Bool.not_false, eq_self, D.len_l, wr64, not_true_eq_false, not_false_eq_true]); exact ha') ?_
          rintro _ ρ2 rfl eρ
          refine ⟨rfl, ?_⟩
          simp only [List.cons_append, List.nil_append] at eρ
          subst eρ
          refine To.viaK (by (try simp (disch := omega) only [X.den, X.dens, X.denss, D.int_i, D.boo_b, D.str_s, D.rows_l, List.getD_cons_zero, List.getD_cons_succ, List.cons_append, List.nil_append, List.append_nil, List.length_cons, List.length_nil, decide_eq_true_eq, decide_eq_false_iff_not, Bool.not_eq_true', Bool.not_eq_false', Bool.and_eq_true, Bool.and_eq_false_iff, Bool.true_eq_false, Bool.false_eq_true, Bool.not_true, Bool.not_false, eq_self, D.len_l, wr64, not_true_eq_false, not_false_eq_true]); exact hb) ?_
          rintro _ ρ2 rfl eρ
          refine ⟨rfl, ?_⟩
          simp only [List.cons_append, List.nil_append] at eρ
          subst eρ
          refine To.viaK (by (try simp (disch := omega) only [X.den, X.dens, X.denss, D.int_i, D.boo_b, D.str_s, D.rows_l, List.getD_cons_zero, List.getD_cons_succ, List.cons_append, List.nil_append, List.append_nil, List.length_cons, List.length_nil, decide_eq_true_eq, decide_eq_false_iff_not, Bool.not_eq_true', Bool.not_eq_false', Bool.and_eq_true, Bool.and_eq_false_iff, Bool.true_eq_false, Bool.false_eq_true, Bool.not_true, Bool.not_false, eq_self, D.len_l, wr64, not_true_eq_false, not_false_eq_true]); exact hb') ?_
          rintro _ ρ2 rfl eρ
          refine ⟨rfl, ?_⟩
          simp only [List.cons_append, List.nil_append] at eρ
          subst eρ
          refine To.viaK (by (try simp (disch := omega) only [X.den, X.dens, X.denss, D.int_i, D.boo_b, D.str_s, D.rows_l, List.getD_cons_zero, List.getD_cons_succ, List.cons_append, List.nil_append, List.append_nil, List.length_cons, List.length_nil, decide_eq_true_eq, decide_eq_false_iff_not, Bool.not_eq_true', Bool.not_eq_false', Bool.and_eq_true, Bool.and_eq_false_iff, Bool.true_eq_false, Bool.false_eq_true, Bool.not_true, Bool.not_false, eq_self, D.len_l, wr64, not_true_eq_false, not_false_eq_true]); exact hc) ?_
          rintro _ ρ2 rfl eρ
          refine ⟨rfl, ?_⟩
          simp only [List.cons_append, List.nil_append] at eρ
          subst eρ
          refine To.viaK (by (try simp (disch := omega) only [X.den, X.dens, X.denss, D.int_i, D.boo_b, D.str_s, D.rows_l, List.getD_cons_zero, List.getD_cons_succ, List.cons_append, List.nil_append, List.append_nil, List.length_cons, List.length_nil, decide_eq_true_eq, decide_eq_false_iff_not, Bool.not_eq_true', Bool.not_eq_false', Bool.and_eq_true, Bool.and_eq_false_iff, Bool.true_eq_false, Bool.false_eq_true, Bool.not_true, Bool.not_false, eq_self, D.len_l, wr64, not_true_eq_false, not_false_eq_true]); exact hc') ?_
          rintro _ ρ2 rfl eρ
          refine ⟨rfl, ?_⟩
          simp only [List.cons_append, List.nil_append] at eρ
          subst eρ
          refine To.joinK (fun o => ∃ x1 x2 x3 x4 x5 x6 x7 x8 x9 x10 x11 x12 x13 x14, o = [x1, x2, x3, x4, x5, x6, x7, x8, x9, x10, x11, x12, x13, x14, .b false]) ?_ ?_
          · refine To.yes (by simp only [X.den, X.dens, X.denss, D.int_i, D.boo_b, D.str_s, D.rows_l, List.getD_cons_zero, List.getD_cons_succ, List.cons_append, List.nil_append, List.append_nil, List.length_cons, List.length_nil, decide_eq_true_eq, decide_eq_false_iff_not, Bool.not_eq_true', Bool.not_eq_false', Bool.and_eq_true, Bool.and_eq_false_iff, Bool.true_eq_false, Bool.false_eq_true, Bool.not_true, Bool.not_false, eq_self, and_self]) (To.yes (by simp only [X.den, X.dens, X.denss, D.int_i, D.boo_b, D.str_s, D.rows_l, List.getD_cons_zero, List.getD_cons_succ, List.cons_append, List.nil_append, List.append_nil, List.length_cons, List.length_nil, decide_eq_true_eq, decide_eq_false_iff_not, Bool.not_eq_true', Bool.not_eq_false', Bool.and_eq_true, Bool.and_eq_false_iff, Bool.true_eq_false, Bool.false_eq_true, Bool.not_true, Bool.not_false, eq_self]) (To.yes (by simp only [X.den, X.dens, X.denss, D.int_i, D.boo_b, D.str_s, D.rows_l, List.getD_cons_zero, List.getD_cons_succ, List.cons_append, List.nil_append, List.append_nil, List.length_cons, List.length_nil, decide_eq_true_eq, decide_eq_false_iff_not, Bool.not_eq_true', Bool.not_eq_false', Bool.and_eq_true, Bool.and_eq_false_iff, Bool.true_eq_false, Bool.false_eq_true, Bool.not_true, Bool.not_false, eq_self]) (To.yes (by simp only [X.den, X.dens, X.denss, D.int_i, D.boo_b, D.str_s, D.rows_l, List.getD_cons_zero, List.getD_cons_succ, List.cons_append, List.nil_append, List.append_nil, List.length_cons, List.length_nil, decide_eq_true_eq, decide_eq_false_iff_not, Bool.not_eq_true', Bool.not_eq_false', Bool.and_eq_true, Bool.and_eq_false_iff, Bool.true_eq_false, Bool.false_eq_true, Bool.not_true, Bool.not_false, eq_self, and_self]) (To.yes (by simp only [X.den, X.dens, X.denss, D.int_i, D.boo_b, D.str_s, D.rows_l, List.getD_cons_zero, List.getD_cons_succ, List.cons_append, List.nil_append, List.append_nil, List.length_cons, List.length_nil, decide_eq_true_eq, decide_eq_false_iff_not, Bool.not_eq_true', Bool.not_eq_false', Bool.and_eq_true, Bool.and_eq_false_iff, Bool.true_eq_false, Bool.false_eq_true, Bool.not_true, Bool.not_false, eq_self, and_self]) (To.yes (by simp only [X.den, X.dens, X.denss, D.int_i, D.boo_b, D.str_s, D.rows_l, List.getD_cons_zero, List.getD_cons_succ, List.cons_append, List.nil_append, List.append_nil, List.length_cons, List.length_nil, beq_self_eq_true]) (To.yes (by simp only [X.den, X.dens, X.denss, D.int_i, D.boo_b, D.str_s, D.rows_l, List.getD_cons_zero, List.getD_cons_succ, List.cons_append, List.nil_append, List.append_nil, List.length_cons, List.length_nil, decide_eq_true_eq, decide_eq_false_iff_not, Bool.not_eq_true', Bool.not_eq_false', Bool.and_eq_true, Bool.and_eq_false_iff, Bool.true_eq_false, Bool.false_eq_true, Bool.not_true, Bool.not_false, eq_self, and_self]) (To.yes (by simp only [X.den, X.dens, X.denss, D.int_i, D.boo_b, D.str_s, D.rows_l, List.getD_cons_zero, List.getD_cons_succ, List.cons_append, List.nil_append, List.append_nil, List.length_cons, List.length_nil, decide_eq_true_eq, decide_eq_false_iff_not, Bool.not_eq_true', Bool.not_eq_false', Bool.and_eq_true, Bool.and_eq_false_iff, Bool.true_eq_false, Bool.false_eq_true, Bool.not_true, Bool.not_false, eq_self, and_self]) ?_)))))))
            exact To.ret ⟨rfl, _, _, _, _, _, _, _, _, _, _, _, _, _, _, by simp only [X.den, X.dens, X.denss, D.int_i, D.boo_b, D.str_s, D.rows_l, List.getD_cons_zero, List.getD_cons_succ, List.cons_append, List.nil_append, List.append_nil, List.length_cons, List.length_nil, eq_self, decide_true, Bool.not_true, Bool.and_self, beq_self_eq_true]; rfl⟩
          rintro o ρ2 ⟨x1, x2, x3, x4, x5, x6, x7, x8, x9, x10, x11, x12, x13, x14, rfl⟩ eρ
          simp only [List.cons_append, List.nil_append] at eρ
          subst eρ
          refine To.no rfl (To.ret (.inl ⟨rfl, m - 1, by omega, ?_⟩))
          simp (disch := omega) only [X.den, X.dens, X.denss, D.int_i, D.boo_b, D.str_s, D.rows_l, List.getD_cons_zero, List.getD_cons_succ, List.cons_append, List.nil_append, List.append_nil, List.length_cons, List.length_nil, wr64]
          exact ⟨_, rfl, by omega, by omega⟩
        · exact To.ret (.inr ⟨rfl, _, by simp only [X.den, X.dens, X.denss, D.int_i, D.boo_b, D.str_s, D.rows_l, List.getD_cons_zero, List.getD_cons_succ, List.cons_append, List.nil_append, List.append_nil, List.length_cons, List.length_nil]; rfl, rfl⟩)
      rintro o ρ2 ⟨rest, rfl, hr⟩ eρ
      obtain ⟨z1, z2, z3, z4, z5, z6, z7, z8, z9, z10, z11, z12, z13, z14, z15, z16, z17, z18, z19, z20, rfl⟩ : ∃ z1 z2 z3 z4 z5 z6 z7 z8 z9 z10 z11 z12 z13 z14 z15 z16 z17 z18 z19 z20, rest = [z1, z2, z3, z4, z5, z6, z7, z8, z9, z10, z11, z12, z13, z14, z15, z16, z17, z18, z19, z20] := by
        match rest, hr with
        | [z1, z2, z3, z4, z5, z6, z7, z8, z9, z10, z11, z12, z13, z14, z15, z16, z17, z18, z19, z20], _ => exact ⟨z1, z2, z3, z4, z5, z6, z7, z8, z9, z10, z11, z12, z13, z14, z15, z16, z17, z18, z19, z20, rfl⟩
      simp only [List.cons_append, List.nil_append] at eρ
      subst eρ
      refine ⟨rfl, To.no rfl ?_⟩
      refine To.viaK (by (try simp (disch := omega) only [X.den, X.dens, X.denss, D.int_i, D.boo_b, D.str_s, D.rows_l, List.getD_cons_zero, List.getD_cons_succ, List.cons_append, List.nil_append, List.append_nil, List.length_cons, List.length_nil, decide_eq_true_eq, decide_eq_false_iff_not, Bool.not_eq_true', Bool.not_eq_false', Bool.and_eq_true, Bool.and_eq_false_iff, Bool.true_eq_false, Bool.false_eq_true, Bool.not_true, Bool.not_false, eq_self, D.len_l, wr64, not_true_eq_false, not_false_eq_true]); exact srcN_to h8 (by omega) (by omega)) ?_
      rintro _ ρ2 ⟨e1, t9, rfl, p9, q9, h9⟩ eρ
      refine ⟨rfl, ?_⟩
      simp only [List.cons_append, List.nil_append] at eρ
      subst eρ
      refine To.viaK (by (try simp (disch := omega) only [X.den, X.dens, X.denss, D.int_i, D.boo_b, D.str_s, D.rows_l, List.getD_cons_zero, List.getD_cons_succ, List.cons_append, List.nil_append, List.append_nil, List.length_cons, List.length_nil, decide_eq_true_eq, decide_eq_false_iff_not, Bool.not_eq_true', Bool.not_eq_false', Bool.and_eq_true, Bool.and_eq_false_iff, Bool.true_eq_false, Bool.false_eq_true, Bool.not_true, Bool.not_false, eq_self, D.len_l, wr64, not_true_eq_false, not_false_eq_true]); exact srcN_to h9 (by omega) (by omega)) ?_
      rintro _ ρ2 ⟨e2, t10, rfl, p10, q10, h10⟩ eρ
      refine ⟨rfl, ?_⟩
      simp only [List.cons_append, List.nil_append] at eρ
      subst eρ
      refine To.need (by simp only [X.den, X.dens, X.denss, D.int_i, D.boo_b, D.str_s, D.rows_l, List.getD_cons_zero, List.getD_cons_succ, List.cons_append, List.nil_append, List.append_nil, List.length_cons, List.length_nil, decide_eq_true_eq, decide_eq_false_iff_not, Bool.not_eq_true', Bool.not_eq_false', Bool.and_eq_true, Bool.and_eq_false_iff, Bool.true_eq_false, Bool.false_eq_true, Bool.not_true, Bool.not_false, eq_self]; omega) ?_
      refine To.loopK (fun m o => ∃ at_ k : Int, o = [.l src, .i at_, .i k] ∧ SrcOk src at_ ∧ 0 ≤ k ∧ k + m = 4) (fun o => ∃ r1 r2 : D, o = [.i 1, r1, r2]) 4 (by omega) ?_ ?_ ?_
      · exact ⟨t10, 0, by simp only [X.den, X.dens, X.denss, D.int_i, D.boo_b, D.str_s, D.rows_l, List.getD_cons_zero, List.getD_cons_succ, List.cons_append, List.nil_append, List.append_nil, List.length_cons, List.length_nil], h10, by omega, by omega⟩
      · rintro m o ρ2 ⟨at_, k, rfl, hs, k0, k1⟩ eρ
        simp only [List.cons_append, List.nil_append] at eρ
        subst eρ
        refine To.ite (fun c => ?_) (fun c => ?_) <;> simp only [X.den, X.dens, X.denss, D.int_i, D.boo_b, D.str_s, D.rows_l, List.getD_cons_zero, List.getD_cons_succ, List.cons_append, List.nil_append, List.append_nil, List.length_cons, List.length_nil, decide_eq_true_eq, decide_eq_false_iff_not, Bool.not_eq_true', Bool.not_eq_false', Bool.and_eq_true, Bool.and_eq_false_iff, Bool.true_eq_false, Bool.false_eq_true, Bool.not_true, Bool.not_false, eq_self] at c
        · refine To.joinK (fun o => ∃ d : D, o = [d, d]) ?_ ?_
          · refine To.ite (fun c => ?_) (fun c => ?_)
            · exact To.ret ⟨rfl, _, by simp only [X.den, X.dens, X.denss, D.int_i, D.boo_b, D.str_s, D.rows_l, List.getD_cons_zero, List.getD_cons_succ, List.cons_append, List.nil_append, List.append_nil, List.length_cons, List.length_nil]; rfl⟩
            · refine To.ite (fun c => ?_) (fun c => ?_)
              · exact To.ret ⟨rfl, _, by simp only [X.den, X.dens, X.denss, D.int_i, D.boo_b, D.str_s, D.rows_l, List.getD_cons_zero, List.getD_cons_succ, List.cons_append, List.nil_append, List.append_nil, List.length_cons, List.length_nil]; rfl⟩
              · refine To.ite (fun c => ?_) (fun c => ?_)
                · exact To.ret ⟨rfl, _, by simp only [X.den, X.dens, X.denss, D.int_i, D.boo_b, D.str_s, D.rows_l, List.getD_cons_zero, List.getD_cons_succ, List.cons_append, List.nil_append, List.append_nil, List.length_cons, List.length_nil]; rfl⟩
                · exact To.ret ⟨rfl, _, by simp only [X.den, X.dens, X.denss, D.int_i, D.boo_b, D.str_s, D.rows_l, List.getD_cons_zero, List.getD_cons_succ, List.cons_append, List.nil_append, List.append_nil, List.length_cons, List.length_nil]; rfl⟩
          rintro o ρ2 ⟨d, rfl⟩ eρ
          simp only [List.cons_append, List.nil_append] at eρ
          subst eρ
          obtain ⟨og, hg, gn, ge, rfl, hgn⟩ := grow_to (a := d) (b := .i bN) (c := .i cN)
          refine To.viaK (by (try simp (disch := omega) only [X.den, X.dens, X.denss, D.int_i, D.boo_b, D.str_s, D.rows_l, List.getD_cons_zero, List.getD_cons_succ, List.cons_append, List.nil_append, List.append_nil, List.length_cons, List.length_nil, decide_eq_true_eq, decide_eq_false_iff_not, Bool.not_eq_true', Bool.not_eq_false', Bool.and_eq_true, Bool.and_eq_false_iff, Bool.true_eq_false, Bool.false_eq_true, Bool.not_true, Bool.not_false, eq_self, D.len_l, wr64, not_true_eq_false, not_false_eq_true]); exact ⟨_, hg, rfl⟩) ?_
          rintro _ ρ2 rfl eρ
          refine ⟨rfl, ?_⟩
          simp only [List.cons_append, List.nil_append] at eρ
          subst eρ
          refine To.viaK (by (try simp (disch := omega) only [X.den, X.dens, X.denss, D.int_i, D.boo_b, D.str_s, D.rows_l, List.getD_cons_zero, List.getD_cons_succ, List.cons_append, List.nil_append, List.append_nil, List.length_cons, List.length_nil, decide_eq_true_eq, decide_eq_false_iff_not, Bool.not_eq_true', Bool.not_eq_false', Bool.and_eq_true, Bool.and_eq_false_iff, Bool.true_eq_false, Bool.false_eq_true, Bool.not_true, Bool.not_false, eq_self, D.len_l, wr64, not_true_eq_false, not_false_eq_true]); exact ⟨_, hg, rfl⟩) ?_
          rintro _ ρ2 rfl eρ
          refine ⟨rfl, ?_⟩
          simp only [List.cons_append, List.nil_append] at eρ
          subst eρ
          refine To.viaK (by (try simp (disch := omega) only [X.den, X.dens, X.denss, D.int_i, D.boo_b, D.str_s, D.rows_l, List.getD_cons_zero, List.getD_cons_succ, List.cons_append, List.nil_append, List.append_nil, List.length_cons, List.length_nil, decide_eq_true_eq, decide_eq_false_iff_not, Bool.not_eq_true', Bool.not_eq_false', Bool.and_eq_true, Bool.and_eq_false_iff, Bool.true_eq_false, Bool.false_eq_true, Bool.not_true, Bool.not_false, eq_self, D.len_l, wr64, not_true_eq_false, not_false_eq_true]); exact srcN_to hs (by omega) (by omega)) ?_
          rintro _ ρ2 ⟨u1, s1, rfl, f1, g1, j1⟩ eρ
          refine ⟨rfl, ?_⟩
          simp only [List.cons_append, List.nil_append] at eρ
          subst eρ
          refine To.viaK (by (try simp (disch := omega) only [X.den, X.dens, X.denss, D.int_i, D.boo_b, D.str_s, D.rows_l, List.getD_cons_zero, List.getD_cons_succ, List.cons_append, List.nil_append, List.append_nil, List.length_cons, List.length_nil, decide_eq_true_eq, decide_eq_false_iff_not, Bool.not_eq_true', Bool.not_eq_false', Bool.and_eq_true, Bool.and_eq_false_iff, Bool.true_eq_false, Bool.false_eq_true, Bool.not_true, Bool.not_false, eq_self, D.len_l, wr64, not_true_eq_false, not_false_eq_true]); exact srcN_to j1 (by omega) (by omega)) ?_
          rintro _ ρ2 ⟨u2, s2, rfl, f2, g2, j2⟩ eρ
          refine ⟨rfl, ?_⟩
          simp only [List.cons_append, List.nil_append] at eρ
          subst eρ
          refine To.viaK (by (try simp (disch := omega) only [X.den, X.dens, X.denss, D.int_i, D.boo_b, D.str_s, D.rows_l, List.getD_cons_zero, List.getD_cons_succ, List.cons_append, List.nil_append, List.append_nil, List.length_cons, List.length_nil, decide_eq_true_eq, decide_eq_false_iff_not, Bool.not_eq_true', Bool.not_eq_false', Bool.and_eq_true, Bool.and_eq_false_iff, Bool.true_eq_false, Bool.false_eq_true, Bool.not_true, Bool.not_false, eq_self, D.len_l, wr64, not_true_eq_false, not_false_eq_true]); exact grow_to (a := d) (b := .i u1) (c := .i u2)) ?_
          rintro _ ρ2 ⟨wn, we, rfl, hwn⟩ eρ
          refine ⟨rfl, ?_⟩
          simp only [List.cons_append, List.nil_append] at eρ
          subst eρ
          refine To.joinK (fun o => ∃ x1 x2 x3 x4 x5 x6 x7 x8, o = [x1, x2, x3, x4, x5, x6, x7, x8, .b false]) ?_ ?_
          · refine To.viaK (by (try simp (disch := omega) only [X.den, X.dens, X.denss, D.int_i, D.boo_b, D.str_s, D.rows_l, List.getD_cons_zero, List.getD_cons_succ, List.cons_append, List.nil_append, List.append_nil, List.length_cons, List.length_nil, decide_eq_true_eq, decide_eq_false_iff_not, Bool.not_eq_true', Bool.not_eq_false', Bool.and_eq_true, Bool.and_eq_false_iff, Bool.true_eq_false, Bool.false_eq_true, Bool.not_true, Bool.not_false, eq_self, D.len_l, wr64, not_true_eq_false, not_false_eq_true]); exact weight_gen (d := d)) ?_
            rintro _ ρ2 rfl eρ
            refine ⟨rfl, ?_⟩
            simp only [List.cons_append, List.nil_append] at eρ
            subst eρ
            refine To.viaK (by (try simp (disch := omega) only [X.den, X.dens, X.denss, D.int_i, D.boo_b, D.str_s, D.rows_l, List.getD_cons_zero, List.getD_cons_succ, List.cons_append, List.nil_append, List.append_nil, List.length_cons, List.length_nil, decide_eq_true_eq, decide_eq_false_iff_not, Bool.not_eq_true', Bool.not_eq_false', Bool.and_eq_true, Bool.and_eq_false_iff, Bool.true_eq_false, Bool.false_eq_true, Bool.not_true, Bool.not_false, eq_self, D.len_l, wr64, not_true_eq_false, not_false_eq_true]); exact rweight_gen (d := d)) ?_
            rintro _ ρ2 rfl eρ
            refine ⟨rfl, ?_⟩
            simp only [List.cons_append, List.nil_append] at eρ
            subst eρ
            refine To.yes (by simp only [X.den, X.dens, X.denss, D.int_i, D.boo_b, D.str_s, D.rows_l, List.getD_cons_zero, List.getD_cons_succ, List.cons_append, List.nil_append, List.append_nil, List.length_cons, List.length_nil, decide_eq_true_eq, decide_eq_false_iff_not, Bool.not_eq_true', Bool.not_eq_false', Bool.and_eq_true, Bool.and_eq_false_iff, Bool.true_eq_false, Bool.false_eq_true, Bool.not_true, Bool.not_false, eq_self]) (To.yes (by simp only [X.den, X.dens, X.denss, D.int_i, D.boo_b, D.str_s, D.rows_l, List.getD_cons_zero, List.getD_cons_succ, List.cons_append, List.nil_append, List.append_nil, List.length_cons, List.length_nil, decide_eq_true_eq, decide_eq_false_iff_not, Bool.not_eq_true', Bool.not_eq_false', Bool.and_eq_true, Bool.and_eq_false_iff, Bool.true_eq_false, Bool.false_eq_true, Bool.not_true, Bool.not_false, eq_self]) (To.yes (by simp only [X.den, X.dens, X.denss, D.int_i, D.boo_b, D.str_s, D.rows_l, List.getD_cons_zero, List.getD_cons_succ, List.cons_append, List.nil_append, List.append_nil, List.length_cons, List.length_nil, decide_eq_true_eq, decide_eq_false_iff_not, Bool.not_eq_true', Bool.not_eq_false', Bool.and_eq_true, Bool.and_eq_false_iff, Bool.true_eq_false, Bool.false_eq_true, Bool.not_true, Bool.not_false, eq_self]) ?_))
            refine To.ite (fun c => ?_) (fun c => ?_) <;> simp only [X.den, X.dens, X.denss, D.int_i, D.boo_b, D.str_s, D.rows_l, List.getD_cons_zero, List.getD_cons_succ, List.cons_append, List.nil_append, List.append_nil, List.length_cons, List.length_nil, decide_eq_true_eq, decide_eq_false_iff_not, Bool.not_eq_true', Bool.not_eq_false', Bool.and_eq_true, Bool.and_eq_false_iff, Bool.true_eq_false, Bool.false_eq_true, Bool.not_true, Bool.not_false, eq_self] at c
            · have lt : decide (wn < d.int) = false := decide_eq_false (by have := hwn c; omega)
              exact To.ret ⟨rfl, _, _, _, _, _, _, _, _, by simp only [X.den, X.dens, X.denss, D.int_i, D.boo_b, D.str_s, D.rows_l, List.getD_cons_zero, List.getD_cons_succ, List.cons_append, List.nil_append, List.append_nil, List.length_cons, List.length_nil, lt]; rfl⟩
            · exact To.ret ⟨rfl, _, _, _, _, _, _, _, _, by simp only [X.den, X.dens, X.denss, D.int_i, D.boo_b, D.str_s, D.rows_l, List.getD_cons_zero, List.getD_cons_succ, List.cons_append, List.nil_append, List.append_nil, List.length_cons, List.length_nil]; rfl⟩
          rintro o ρ2 ⟨x1, x2, x3, x4, x5, x6, x7, x8, rfl⟩ eρ
          simp only [List.cons_append, List.nil_append] at eρ
          subst eρ
          refine To.no rfl (To.ret (.inl ⟨rfl, m - 1, by omega, ?_⟩))
          simp (disch := omega) only [X.den, X.dens, X.denss, D.int_i, D.boo_b, D.str_s, D.rows_l, List.getD_cons_zero, List.getD_cons_succ, List.cons_append, List.nil_append, List.append_nil, List.length_cons, List.length_nil, wr64]
          exact ⟨_, _, rfl, j2, by omega, by omega⟩
        · exact To.ret (.inr ⟨rfl, _, _, by simp only [X.den, X.dens, X.denss, D.int_i, D.boo_b, D.str_s, D.rows_l, List.getD_cons_zero, List.getD_cons_succ, List.cons_append, List.nil_append, List.append_nil, List.length_cons, List.length_nil]; rfl⟩)
      · rintro o ρ2 ⟨r1, r2, rfl⟩ eρ
        simp only [List.cons_append, List.nil_append] at eρ
        subst eρ
        refine ⟨rfl, To.no rfl ?_⟩
        refine To.callK (l := [.b true]) rfl rfl _ (by simp only [List.cons_append, List.nil_append]; first | done | rfl) ?_
        exact To.ret (by simp only [X.den, X.dens, X.denss, D.int_i, D.boo_b, D.str_s, D.rows_l, List.getD_cons_zero, List.getD_cons_succ, List.cons_append, List.nil_append, List.append_nil, List.length_cons, List.length_nil])
    · cases h
def FuseExact_ps : List PK := fuExa_K.ps
theorem FuseExact_all : Fx.LawOk Try.prog 9 FuseExact_ps :=
  law_all FuseExact_ok rfl (by kernel_rfl) fun ds hw => by
    have hw' : WfR [.sl [.int .i64], .sl [.int .i64, .int .i64, .int .i64, .int .i64], .int .i64, .int .i64, .int .i64] ds := hw
    simp only [WfR, WfC] at hw'
    obtain ⟨d0, ds0, rfl, ⟨r0, rfl, _, _⟩, d1, ds1, rfl, ⟨r1, rfl, _, _⟩, d2, ds2, rfl, ⟨z2, rfl, _⟩, d3, ds3, rfl, ⟨z3, rfl, _⟩, d4, ds4, rfl, ⟨z4, rfl, _⟩, rfl⟩ := hw'
    rfl
end Go.Proofs.Ytlhnhidoljfnnaa
