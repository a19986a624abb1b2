/- Trees: what a ship's motion is checked for, a step, a run. -/
import Derived.Test.YtdkamfkpmplaoaaSinF
import Derived.Test.YtdkamfkpmplaoaaLoopF
set_option linter.unusedVariables false
namespace Go.Proofs.Ytdkamfkpmplaoaa
open Go.RowKit Fx
def wFactors_H : List Hint := [
  ⟨262133, 1, [], ⟨[.var 0, .und, .bool (.B false), .und, .und, .var 0, .int .i64 (.len (.V 0)), .int .i64 (.V 1), .und, .und, .und, .und, .und, .und, .und, .und, .und, .und], [], 2, 1, [none, none], [], [⟨0, [.int .i64], (.V 0)⟩]⟩⟩]
def wFactors_K : Con := ⟨142, [.val false [.sl [.int .i64]]], [.val false [.bool]], []⟩
def wFactors_T : T (List X) :=
  (.loop [(.N 0)]
  (.ite (.lt (.V 1) (.len (.V 0)))
   (.need (.and (.not (.lt (.V 1) (.N 0))) (.lt (.V 1) (.len (.V 0))))
    (.sub (.ite (.lt (.at (.V 0) (.V 1) 0) (.N (-1000)))
      (.ret [(.B false)])
      (.ret [(.not (.lt (.N 1000) (.at (.V 0) (.V 1) 0)))])) 1
     (.ite (.V 2)
      (.ret (true, [(.wr .i64 (.add (.V 1) (.N 1)))]))
      (.ret (false, [(.N 0)])))))
   (.ret (false, [(.N 1)]))) 1
  (.ite (.eq (.V 1) (.N 0))
   (.ret [(.B false)])
   (.ret [(.eq (.len (.V 0)) (.N 12))])))
set_option maxRecDepth 100000 in
theorem wFactors_t : runS Try.prog [] [(142, wFactors_H)] wFactors_K = wFactors_T := by kernel_rfl
def wCheck_K : Con := ⟨75, [.val true [.sl [.int .i64], .sl [.int .i64], .sl [.int .i64], .sl [.int .i64], .sl [.int .i64], .sl [.int .i64], .sl [.int .i64], .sl [.int .i64], .sl [.int .i64], .int .i64, .int .i64, .int .i64, .int .i64]], [.val false [.int .i64]], []⟩
def wCheck_T : T (List X) :=
  (.sub (.sub (.call 142 [(.V 0)] 1
    (.ite (.V 13)
     (.call 142 [(.V 1)] 1
      (.ite (.V 14)
       (.call 142 [(.V 2)] 1
        (.ret [(.V 15)]))
       (.ret [(.B false)])))
     (.ret [(.B false)]))) 1
   (.ite (.V 13)
    (.sub (.call 142 [(.V 3)] 1
      (.ite (.V 14)
       (.call 142 [(.V 4)] 1
        (.ite (.V 15)
         (.call 142 [(.V 5)] 1
          (.ret [(.V 16)]))
         (.ret [(.B false)])))
       (.ret [(.B false)]))) 1
     (.ite (.V 14)
      (.sub (.call 142 [(.V 6)] 1
        (.ite (.V 15)
         (.call 142 [(.V 7)] 1
          (.ite (.V 16)
           (.call 142 [(.V 8)] 1
            (.ret [(.V 17)]))
           (.ret [(.B false)])))
         (.ret [(.B false)]))) 1
       (.ite (.V 15)
        (.sub (.ite (.lt (.V 9) (.N 1))
          (.ret [(.B false)])
          (.ret [(.not (.lt (.N 1000000) (.V 9)))])) 1
         (.ite (.V 16)
          (.sub (.ite (.lt (.V 10) (.N 1))
            (.ret [(.B false)])
            (.ret [(.not (.lt (.N 1073741824) (.V 10)))])) 1
           (.ite (.V 17)
            (.sub (.ite (.lt (.V 11) (.N 0))
              (.ret [(.B false)])
              (.ret [(.not (.lt (.V 9) (.V 11)))])) 1
             (.ite (.V 18)
              (.sub (.ite (.lt (.V 12) (.N 0))
                (.ret [(.B false)])
                (.ret [(.not (.lt (.V 10) (.V 12)))])) 1
               (.ret [(.not (.V 19))]))
              (.ret [(.B true)])))
            (.ret [(.B true)])))
          (.ret [(.B true)])))
        (.ret [(.B true)])))
      (.ret [(.B true)])))
    (.ret [(.B true)]))) 1
  (.ite (.V 13)
   (.ret [(.N 60)])
   (.ret [(.N 0)])))
set_option maxRecDepth 100000 in
theorem wCheck_t : runS Try.prog [wFactors_K.to []] [] wCheck_K = wCheck_T := by kernel_rfl
def vCheck_K : Con := ⟨150, [.val true [.sl [.int .i64], .sl [.int .i64], .sl [.int .i64], .sl [.int .i64], .sl [.int .i64], .sl [.int .i64], .sl [.int .i64], .sl [.int .i64], .sl [.int .i64], .int .i64, .int .i64, .int .i64, .int .i64], .val true [.int .i64, .int .i64, .int .i64, .int .i64, .int .i64, .int .i64, .int .i64], .val true [.int .i64, .int .i64, .int .i64]], [.val false [.int .i64]], []⟩
def vCheck_T : T (List X) :=
  (.call 75 [(.V 0), (.V 1), (.V 2), (.V 3), (.V 4), (.V 5), (.V 6), (.V 7), (.V 8), (.V 9), (.V 10), (.V 11), (.V 12)] 1
  (.ite (.eq (.V 23) (.N 0))
   (.sub (.ite (.lt (.V 13) (.N 0))
     (.ret [(.B false)])
     (.ite (.lt (.N 2147483648) (.V 13))
      (.ret [(.B false)])
      (.sub (.ite (.lt (.V 14) (.N (-10000000000)))
        (.ret [(.B false)])
        (.ret [(.not (.lt (.N 10000000000) (.V 14)))])) 1
       (.ite (.V 24)
        (.sub (.ite (.lt (.V 15) (.N (-10000000000)))
          (.ret [(.B false)])
          (.ret [(.not (.lt (.N 10000000000) (.V 15)))])) 1
         (.ite (.V 25)
          (.ite (.lt (.V 16) (.N 0))
           (.ret [(.B false)])
           (.ite (.lt (.V 16) (.N 360000))
            (.sub (.ite (.lt (.V 17) (.N (-100000)))
              (.ret [(.B false)])
              (.ret [(.not (.lt (.N 100000) (.V 17)))])) 1
             (.ite (.V 26)
              (.sub (.ite (.lt (.V 18) (.N (-100000)))
                (.ret [(.B false)])
                (.ret [(.not (.lt (.N 100000) (.V 18)))])) 1
               (.ite (.V 27)
                (.sub (.ite (.lt (.V 19) (.N (-10000)))
                  (.ret [(.B false)])
                  (.ret [(.not (.lt (.N 10000) (.V 19)))])) 1
                 (.ret [(.V 28)]))
                (.ret [(.B false)])))
              (.ret [(.B false)])))
            (.ret [(.B false)])))
          (.ret [(.B false)])))
        (.ret [(.B false)]))))) 1
    (.ite (.V 24)
     (.sub (.sub (.ite (.lt (.V 20) (.N (-1000000)))
        (.ret [(.B false)])
        (.ret [(.not (.lt (.N 1000000) (.V 20)))])) 1
       (.ite (.V 25)
        (.sub (.ite (.lt (.V 21) (.N (-1000000)))
          (.ret [(.B false)])
          (.ret [(.not (.lt (.N 1000000) (.V 21)))])) 1
         (.ite (.V 26)
          (.sub (.ite (.lt (.V 22) (.N (-1000000)))
            (.ret [(.B false)])
            (.ret [(.not (.lt (.N 1000000) (.V 22)))])) 1
           (.ret [(.not (.V 27))]))
          (.ret [(.B true)])))
        (.ret [(.B true)]))) 1
      (.ite (.V 25)
       (.ret [(.N 1)])
       (.ret [(.N 0)])))
     (.ret [(.N 61)])))
   (.ret [(.V 23)])))
set_option maxRecDepth 100000 in
theorem vCheck_t : runS Try.prog [wCheck_K.to []] [] vCheck_K = vCheck_T := by kernel_rfl
def vStep_K : Con := ⟨99, [.val true [.sl [.int .i64], .sl [.int .i64], .sl [.int .i64], .sl [.int .i64], .sl [.int .i64], .sl [.int .i64], .sl [.int .i64], .sl [.int .i64], .sl [.int .i64], .int .i64, .int .i64, .int .i64, .int .i64], .val true [.int .i64, .int .i64, .int .i64, .int .i64, .int .i64, .int .i64, .int .i64], .val true [.int .i64, .int .i64, .int .i64]], [.val true [.int .i64, .int .i64, .int .i64, .int .i64, .int .i64, .int .i64, .int .i64], .val false [.int .i64]], []⟩
def vStep_T : T (List X) :=
  (.call 150 [(.V 0), (.V 1), (.V 2), (.V 3), (.V 4), (.V 5), (.V 6), (.V 7), (.V 8), (.V 9), (.V 10), (.V 11), (.V 12), (.V 13), (.V 14), (.V 15), (.V 16), (.V 17), (.V 18), (.V 19), (.V 20), (.V 21), (.V 22)] 1
  (.ite (.eq (.V 23) (.N 0))
   (.sub (.sub (.need (.not (.eq (.V 9) (.N 0)))
      (.ite (.lt (.rem (.wr .i64 (.sub (.wr .i64 (.mul (.N 10000) (.V 20))) (.wr .i64 (.mul (.V 11) (.V 17))))) (.V 9)) (.N 0))
       (.ret [(.wr .i64 (.sub (.wr .i64 (.quo (.wr .i64 (.sub (.wr .i64 (.mul (.N 10000) (.V 20))) (.wr .i64 (.mul (.V 11) (.V 17))))) (.V 9))) (.N 1))), (.wr .i64 (.add (.rem (.wr .i64 (.sub (.wr .i64 (.mul (.N 10000) (.V 20))) (.wr .i64 (.mul (.V 11) (.V 17))))) (.V 9)) (.V 9)))])
       (.ret [(.wr .i64 (.quo (.wr .i64 (.sub (.wr .i64 (.mul (.N 10000) (.V 20))) (.wr .i64 (.mul (.V 11) (.V 17))))) (.V 9))), (.rem (.wr .i64 (.sub (.wr .i64 (.mul (.N 10000) (.V 20))) (.wr .i64 (.mul (.V 11) (.V 17))))) (.V 9))]))) 2
     (.ite (.lt (.wr .i64 (.mul (.N 2) (.V 25))) (.V 9))
      (.ret [(.V 24)])
      (.ret [(.wr .i64 (.add (.V 24) (.N 1)))]))) 1
    (.sub (.sub (.need (.not (.eq (.V 9) (.N 0)))
       (.ite (.lt (.rem (.wr .i64 (.sub (.wr .i64 (.mul (.N 10000) (.V 21))) (.wr .i64 (.mul (.V 11) (.V 18))))) (.V 9)) (.N 0))
        (.ret [(.wr .i64 (.sub (.wr .i64 (.quo (.wr .i64 (.sub (.wr .i64 (.mul (.N 10000) (.V 21))) (.wr .i64 (.mul (.V 11) (.V 18))))) (.V 9))) (.N 1))), (.wr .i64 (.add (.rem (.wr .i64 (.sub (.wr .i64 (.mul (.N 10000) (.V 21))) (.wr .i64 (.mul (.V 11) (.V 18))))) (.V 9)) (.V 9)))])
        (.ret [(.wr .i64 (.quo (.wr .i64 (.sub (.wr .i64 (.mul (.N 10000) (.V 21))) (.wr .i64 (.mul (.V 11) (.V 18))))) (.V 9))), (.rem (.wr .i64 (.sub (.wr .i64 (.mul (.N 10000) (.V 21))) (.wr .i64 (.mul (.V 11) (.V 18))))) (.V 9))]))) 2
      (.ite (.lt (.wr .i64 (.mul (.N 2) (.V 26))) (.V 9))
       (.ret [(.V 25)])
       (.ret [(.wr .i64 (.add (.V 25) (.N 1)))]))) 1
     (.sub (.sub (.need (.not (.eq (.V 10) (.N 0)))
        (.ite (.lt (.rem (.wr .i64 (.sub (.wr .i64 (.mul (.N 10000) (.V 22))) (.wr .i64 (.mul (.V 12) (.V 19))))) (.V 10)) (.N 0))
         (.ret [(.wr .i64 (.sub (.wr .i64 (.quo (.wr .i64 (.sub (.wr .i64 (.mul (.N 10000) (.V 22))) (.wr .i64 (.mul (.V 12) (.V 19))))) (.V 10))) (.N 1))), (.wr .i64 (.add (.rem (.wr .i64 (.sub (.wr .i64 (.mul (.N 10000) (.V 22))) (.wr .i64 (.mul (.V 12) (.V 19))))) (.V 10)) (.V 10)))])
         (.ret [(.wr .i64 (.quo (.wr .i64 (.sub (.wr .i64 (.mul (.N 10000) (.V 22))) (.wr .i64 (.mul (.V 12) (.V 19))))) (.V 10))), (.rem (.wr .i64 (.sub (.wr .i64 (.mul (.N 10000) (.V 22))) (.wr .i64 (.mul (.V 12) (.V 19))))) (.V 10))]))) 2
       (.ite (.lt (.wr .i64 (.mul (.N 2) (.V 27))) (.V 10))
        (.ret [(.V 26)])
        (.ret [(.wr .i64 (.add (.V 26) (.N 1)))]))) 1
      (.sub (.ite (.lt (.rem (.wr .i64 (.add (.V 16) (.wr .i64 (.add (.V 19) (.V 26))))) (.N 360000)) (.N 0))
        (.ret [(.sub (.quo (.wr .i64 (.add (.V 16) (.wr .i64 (.add (.V 19) (.V 26))))) (.N 360000)) (.N 1)), (.add (.rem (.wr .i64 (.add (.V 16) (.wr .i64 (.add (.V 19) (.V 26))))) (.N 360000)) (.N 360000))])
        (.ret [(.quo (.wr .i64 (.add (.V 16) (.wr .i64 (.add (.V 19) (.V 26))))) (.N 360000)), (.rem (.wr .i64 (.add (.V 16) (.wr .i64 (.add (.V 19) (.V 26))))) (.N 360000))])) 2
       (.sub (.ite (.lt (.rem (.V 28) (.N 100)) (.N 0))
         (.ret [(.sub (.quo (.V 28) (.N 100)) (.N 1)), (.add (.rem (.V 28) (.N 100)) (.N 100))])
         (.ret [(.quo (.V 28) (.N 100)), (.rem (.V 28) (.N 100))])) 2
        (.sub (.ite (.lt (.rem (.V 29) (.N 3600)) (.N 0))
          (.ret [(.add (.rem (.V 29) (.N 3600)) (.N 3600))])
          (.ret [(.rem (.V 29) (.N 3600))])) 1
         (.call 14 [(.V 31)] 1
          (.call 16 [(.V 31)] 1
           (.sub (.sub (.ite (.lt (.wr .i64 (.sub (.wr .i64 (.mul (.wr .i64 (.add (.V 17) (.V 24))) (.V 33))) (.wr .i64 (.mul (.wr .i64 (.add (.V 18) (.V 25))) (.V 32))))) (.N (-1000000000000000000)))
              (.ret [(.B true)])
              (.ite (.lt (.N 1000000000000000000) (.wr .i64 (.sub (.wr .i64 (.mul (.wr .i64 (.add (.V 17) (.V 24))) (.V 33))) (.wr .i64 (.mul (.wr .i64 (.add (.V 18) (.V 25))) (.V 32))))))
               (.ret [(.B true)])
               (.ret [(.B false)]))) 1
             (.ite (.V 34)
              (.ret [(.N 0), (.N 1)])
              (.sub (.ite (.lt (.rem (.wr .i64 (.sub (.wr .i64 (.mul (.wr .i64 (.add (.V 17) (.V 24))) (.V 33))) (.wr .i64 (.mul (.wr .i64 (.add (.V 18) (.V 25))) (.V 32))))) (.N 10000)) (.N 0))
                (.ret [(.sub (.quo (.wr .i64 (.sub (.wr .i64 (.mul (.wr .i64 (.add (.V 17) (.V 24))) (.V 33))) (.wr .i64 (.mul (.wr .i64 (.add (.V 18) (.V 25))) (.V 32))))) (.N 10000)) (.N 1)), (.add (.rem (.wr .i64 (.sub (.wr .i64 (.mul (.wr .i64 (.add (.V 17) (.V 24))) (.V 33))) (.wr .i64 (.mul (.wr .i64 (.add (.V 18) (.V 25))) (.V 32))))) (.N 10000)) (.N 10000))])
                (.ret [(.quo (.wr .i64 (.sub (.wr .i64 (.mul (.wr .i64 (.add (.V 17) (.V 24))) (.V 33))) (.wr .i64 (.mul (.wr .i64 (.add (.V 18) (.V 25))) (.V 32))))) (.N 10000)), (.rem (.wr .i64 (.sub (.wr .i64 (.mul (.wr .i64 (.add (.V 17) (.V 24))) (.V 33))) (.wr .i64 (.mul (.wr .i64 (.add (.V 18) (.V 25))) (.V 32))))) (.N 10000))])) 2
               (.sub (.ite (.lt (.mul (.N 2) (.V 36)) (.N 10000))
                 (.ret [(.V 35)])
                 (.ret [(.add (.V 35) (.N 1))])) 1
                (.ret [(.V 37), (.N 0)]))))) 2
            (.sub (.sub (.ite (.lt (.wr .i64 (.add (.wr .i64 (.mul (.wr .i64 (.add (.V 17) (.V 24))) (.V 32))) (.wr .i64 (.mul (.wr .i64 (.add (.V 18) (.V 25))) (.V 33))))) (.N (-1000000000000000000)))
               (.ret [(.B true)])
               (.ite (.lt (.N 1000000000000000000) (.wr .i64 (.add (.wr .i64 (.mul (.wr .i64 (.add (.V 17) (.V 24))) (.V 32))) (.wr .i64 (.mul (.wr .i64 (.add (.V 18) (.V 25))) (.V 33))))))
                (.ret [(.B true)])
                (.ret [(.B false)]))) 1
              (.ite (.V 36)
               (.ret [(.N 0), (.N 1)])
               (.sub (.ite (.lt (.rem (.wr .i64 (.add (.wr .i64 (.mul (.wr .i64 (.add (.V 17) (.V 24))) (.V 32))) (.wr .i64 (.mul (.wr .i64 (.add (.V 18) (.V 25))) (.V 33))))) (.N 10000)) (.N 0))
                 (.ret [(.sub (.quo (.wr .i64 (.add (.wr .i64 (.mul (.wr .i64 (.add (.V 17) (.V 24))) (.V 32))) (.wr .i64 (.mul (.wr .i64 (.add (.V 18) (.V 25))) (.V 33))))) (.N 10000)) (.N 1)), (.add (.rem (.wr .i64 (.add (.wr .i64 (.mul (.wr .i64 (.add (.V 17) (.V 24))) (.V 32))) (.wr .i64 (.mul (.wr .i64 (.add (.V 18) (.V 25))) (.V 33))))) (.N 10000)) (.N 10000))])
                 (.ret [(.quo (.wr .i64 (.add (.wr .i64 (.mul (.wr .i64 (.add (.V 17) (.V 24))) (.V 32))) (.wr .i64 (.mul (.wr .i64 (.add (.V 18) (.V 25))) (.V 33))))) (.N 10000)), (.rem (.wr .i64 (.add (.wr .i64 (.mul (.wr .i64 (.add (.V 17) (.V 24))) (.V 32))) (.wr .i64 (.mul (.wr .i64 (.add (.V 18) (.V 25))) (.V 33))))) (.N 10000))])) 2
                (.sub (.ite (.lt (.mul (.N 2) (.V 38)) (.N 10000))
                  (.ret [(.V 37)])
                  (.ret [(.add (.V 37) (.N 1))])) 1
                 (.ret [(.V 39), (.N 0)]))))) 2
             (.sub (.ite (.lt (.wr .i64 (.add (.V 13) (.N 1))) (.N 0))
               (.ret [(.B false)])
               (.ite (.lt (.N 2147483648) (.wr .i64 (.add (.V 13) (.N 1))))
                (.ret [(.B false)])
                (.sub (.ite (.lt (.wr .i64 (.add (.V 14) (.V 34))) (.N (-10000000000)))
                  (.ret [(.B false)])
                  (.ret [(.not (.lt (.N 10000000000) (.wr .i64 (.add (.V 14) (.V 34)))))])) 1
                 (.ite (.V 38)
                  (.sub (.ite (.lt (.wr .i64 (.add (.V 15) (.V 36))) (.N (-10000000000)))
                    (.ret [(.B false)])
                    (.ret [(.not (.lt (.N 10000000000) (.wr .i64 (.add (.V 15) (.V 36)))))])) 1
                   (.ite (.V 39)
                    (.ite (.lt (.V 28) (.N 0))
                     (.ret [(.B false)])
                     (.ite (.lt (.V 28) (.N 360000))
                      (.sub (.ite (.lt (.wr .i64 (.add (.V 17) (.V 24))) (.N (-100000)))
                        (.ret [(.B false)])
                        (.ret [(.not (.lt (.N 100000) (.wr .i64 (.add (.V 17) (.V 24)))))])) 1
                       (.ite (.V 40)
                        (.sub (.ite (.lt (.wr .i64 (.add (.V 18) (.V 25))) (.N (-100000)))
                          (.ret [(.B false)])
                          (.ret [(.not (.lt (.N 100000) (.wr .i64 (.add (.V 18) (.V 25)))))])) 1
                         (.ite (.V 41)
                          (.sub (.ite (.lt (.wr .i64 (.add (.V 19) (.V 26))) (.N (-10000)))
                            (.ret [(.B false)])
                            (.ret [(.not (.lt (.N 10000) (.wr .i64 (.add (.V 19) (.V 26)))))])) 1
                           (.ret [(.V 42)]))
                          (.ret [(.B false)])))
                        (.ret [(.B false)])))
                      (.ret [(.B false)])))
                    (.ret [(.B false)])))
                  (.ret [(.B false)]))))) 1
              (.ite (.V 38)
               (.ret [(.wr .i64 (.add (.V 13) (.N 1))), (.wr .i64 (.add (.V 14) (.V 34))), (.wr .i64 (.add (.V 15) (.V 36))), (.V 28), (.wr .i64 (.add (.V 17) (.V 24))), (.wr .i64 (.add (.V 18) (.V 25))), (.wr .i64 (.add (.V 19) (.V 26))), (.N 0)])
               (.ret [(.N 0), (.N 0), (.N 0), (.N 0), (.N 0), (.N 0), (.N 0), (.N 2)])))))))))))))
   (.ret [(.N 0), (.N 0), (.N 0), (.N 0), (.N 0), (.N 0), (.N 0), (.V 23)])))
set_option maxRecDepth 100000 in
theorem vStep_t : runS Try.prog [vCheck_K.to [], fxSin_K.to [], fxCos_K.to []] [] vStep_K = vStep_T := by kernel_rfl
def vRun_H : List Hint := [
  ⟨1099507435376, 26, [], ⟨[.und, .und, .und, .und, .ptr 0 0, .ptr 1 0, .ptr 2 0, .und, .ptr 3 0, .int .i64 (.N 0), .int .i64 (.V 33), .und, .und, .und, .und, .und, .und, .und, .und, .und, .und, .und, .int .i64 (.V 23), .int .i64 (.V 34), .und, .und, .und, .und, .und, .und, .und, .und, .und, .und, .und, .und, .und, .und, .und, .und], [.fix [.var 0, .var 1, .var 2, .var 3, .var 4, .var 5, .var 6, .var 7, .var 8, .int .i64 (.V 9), .int .i64 (.V 10), .int .i64 (.V 11), .int .i64 (.V 12)] true, .fix [.int .i64 (.V 26), .int .i64 (.V 27), .int .i64 (.V 28), .int .i64 (.V 29), .int .i64 (.V 30), .int .i64 (.V 31), .int .i64 (.V 32)] true, .fix [.int .i64 (.V 20), .int .i64 (.V 21), .int .i64 (.V 22)] true, .fix [.int .i64 (.N 0), .int .i64 (.N 0), .int .i64 (.N 0), .int .i64 (.N 0), .int .i64 (.N 0), .int .i64 (.N 0), .int .i64 (.N 0)] true], 35, 9, [none, none, none, none, none, none, none, none, none, none, none, none, none, none, none, none, none, none, none, none, none, none, none, none, none, none, none, none, none, none, none, none, none, none, none], [], [⟨0, [.int .i64], (.V 0)⟩, ⟨1, [.int .i64], (.V 1)⟩, ⟨2, [.int .i64], (.V 2)⟩, ⟨3, [.int .i64], (.V 3)⟩, ⟨4, [.int .i64], (.V 4)⟩, ⟨5, [.int .i64], (.V 5)⟩, ⟨6, [.int .i64], (.V 6)⟩, ⟨7, [.int .i64], (.V 7)⟩, ⟨8, [.int .i64], (.V 8)⟩]⟩⟩]
def vRun_K : Con := ⟨101, [.val true [.sl [.int .i64], .sl [.int .i64], .sl [.int .i64], .sl [.int .i64], .sl [.int .i64], .sl [.int .i64], .sl [.int .i64], .sl [.int .i64], .sl [.int .i64], .int .i64, .int .i64, .int .i64, .int .i64], .val true [.int .i64, .int .i64, .int .i64, .int .i64, .int .i64, .int .i64, .int .i64], .val true [.int .i64, .int .i64, .int .i64], .val false [.int .i64]], [.val true [.int .i64, .int .i64, .int .i64, .int .i64, .int .i64, .int .i64, .int .i64], .val false [.int .i64]], []⟩
def vRun_T : T (List X) :=
  (.sub (.ite (.lt (.V 23) (.N 0))
   (.ret [(.B true)])
   (.ret [(.lt (.N 400) (.V 23))])) 1
  (.ite (.V 24)
   (.ret [(.N 0), (.N 0), (.N 0), (.N 0), (.N 0), (.N 0), (.N 0), (.N 2)])
   (.call 150 [(.V 0), (.V 1), (.V 2), (.V 3), (.V 4), (.V 5), (.V 6), (.V 7), (.V 8), (.V 9), (.V 10), (.V 11), (.V 12), (.V 13), (.V 14), (.V 15), (.V 16), (.V 17), (.V 18), (.V 19), (.V 20), (.V 21), (.V 22)] 1
    (.loop [(.V 13), (.V 14), (.V 15), (.V 16), (.V 17), (.V 18), (.V 19), (.V 25), (.N 0)]
     (.ite (.lt (.V 34) (.V 23))
      (.ite (.eq (.V 33) (.N 0))
       (.call 99 [(.V 0), (.V 1), (.V 2), (.V 3), (.V 4), (.V 5), (.V 6), (.V 7), (.V 8), (.V 9), (.V 10), (.V 11), (.V 12), (.V 26), (.V 27), (.V 28), (.V 29), (.V 30), (.V 31), (.V 32), (.V 20), (.V 21), (.V 22)] 8
        (.ret (true, [(.V 35), (.V 36), (.V 37), (.V 38), (.V 39), (.V 40), (.V 41), (.V 42), (.wr .i64 (.add (.V 34) (.N 1)))])))
       (.ret (false, [(.V 26), (.V 27), (.V 28), (.V 29), (.V 30), (.V 31), (.V 32), (.V 33)])))
      (.ret (false, [(.V 26), (.V 27), (.V 28), (.V 29), (.V 30), (.V 31), (.V 32), (.V 33)]))) 8
     (.ite (.eq (.V 33) (.N 0))
      (.ret [(.V 26), (.V 27), (.V 28), (.V 29), (.V 30), (.V 31), (.V 32), (.N 0)])
      (.ret [(.N 0), (.N 0), (.N 0), (.N 0), (.N 0), (.N 0), (.N 0), (.V 33)]))))))
set_option maxRecDepth 100000 in
theorem vRun_t : runS Try.prog [vCheck_K.to [], vStep_K.to []] [(101, vRun_H)] vRun_K = vRun_T := by kernel_rfl
end Go.Proofs.Ytdkamfkpmplaoaa
