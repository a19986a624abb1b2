/- The trees of the laws of layer 22. -/
import Derived.Test.YtcogndnencabhaaWeaT
set_option linter.unusedVariables false
namespace Go.Proofs.Ytcogndnencabhaa
open Go.RowKit Fx
def wTurns_K : Con := ⟨4, [.val false [.sl [.int .i64]], .val false [.int .i64]], [.val false [.bool]], []⟩
def wTurns_T : T (List X) :=
  (.ite (.lt (.N 600) (.len (.V 0)))
  (.call 15 [] 1
   (.ret [(.V 2)]))
  (.need (.not (.lt (.len (.V 0)) (.mn (.len (.V 0)) (.N 600))))
   (.call 17 [(.take (.V 0) (.mn (.len (.V 0)) (.N 600))), (.N 0)] 15
    (.call 18 [(.V 15), (.V 16)] 8
     (.call 23 [(.V 23), (.V 24), (.N 3600)] 3
      (.call 24 [(.V 2), (.V 3), (.V 4), (.V 5), (.V 6), (.V 7), (.V 8), (.V 9), (.V 10), (.V 11), (.V 12), (.V 13), (.V 14), (.V 17), (.V 18), (.V 19), (.V 20), (.V 21), (.V 22), (.V 25)] 4
       (.call 24 [(.V 2), (.V 3), (.V 4), (.V 5), (.V 6), (.V 7), (.V 8), (.V 9), (.V 10), (.V 11), (.V 12), (.V 13), (.V 14), (.rem (.wr .i64 (.add (.V 17) (.rem (.add (.rem (.V 1) (.N 3600)) (.N 3600)) (.N 3600)))) (.N 3600)), (.V 18), (.rem (.wr .i64 (.add (.V 19) (.rem (.add (.rem (.V 1) (.N 3600)) (.N 3600)) (.N 3600)))) (.N 3600)), (.V 20), (.rem (.wr .i64 (.add (.V 21) (.rem (.add (.rem (.V 1) (.N 3600)) (.N 3600)) (.N 3600)))) (.N 3600)), (.V 22), (.rem (.wr .i64 (.add (.V 25) (.rem (.add (.rem (.V 1) (.N 3600)) (.N 3600)) (.N 3600)))) (.N 3600))] 4
        (.sub (.ite (.eq (.V 31) (.N 0))
          (.ite (.eq (.V 35) (.N 0))
           (.ite (.and (.eq (.V 28) (.V 32)) (.and (.eq (.V 29) (.V 33)) (.eq (.V 30) (.V 34))))
            (.call 15 [] 1
             (.ret [(.V 36)]))
            (.ret [(.B false)]))
           (.ret [(.B false)]))
          (.ret [(.B false)])) 1
         (.ret [(.V 36)])))))))))
set_option maxRecDepth 100000 in
theorem wTurns_t : runS Try.prog [srcHull_K.to [], srcWeather_K.to [], srcN_K.to [], wTotal_K.to [], sane22_K.to []] [] wTurns_K = wTurns_T := by kernel_rfl
def wCalm_K : Con := ⟨5, [.val false [.sl [.int .i64]]], [.val false [.bool]], []⟩
def wCalm_T : T (List X) :=
  (.ite (.lt (.N 600) (.len (.V 0)))
  (.call 15 [] 1
   (.ret [(.V 1)]))
  (.need (.not (.lt (.len (.V 0)) (.mn (.len (.V 0)) (.N 600))))
   (.call 17 [(.take (.V 0) (.mn (.len (.V 0)) (.N 600))), (.N 0)] 15
    (.call 18 [(.V 14), (.V 15)] 8
     (.call 23 [(.V 22), (.V 23), (.N 3600)] 3
      (.call 24 [(.V 1), (.V 2), (.V 3), (.V 4), (.V 5), (.V 6), (.V 7), (.V 8), (.V 9), (.V 10), (.V 11), (.V 12), (.V 13), (.V 16), (.N 0), (.V 18), (.N 0), (.V 20), (.N 0), (.V 24)] 4
       (.sub (.ite (.eq (.V 30) (.N 0))
         (.ret [(.not (.and (.eq (.V 27) (.N 0)) (.and (.eq (.V 28) (.N 0)) (.eq (.V 29) (.N 0)))))])
         (.ret [(.B true)])) 1
        (.ite (.V 31)
         (.ret [(.B false)])
         (.call 24 [(.V 1), (.V 2), (.V 3), (.V 4), (.V 5), (.V 6), (.V 7), (.V 8), (.V 9), (.V 10), (.V 11), (.V 12), (.V 13), (.V 16), (.V 17), (.V 18), (.V 19), (.V 20), (.V 21), (.V 24)] 4
          (.call 24 [(.V 1), (.V 2), (.V 3), (.V 4), (.V 5), (.V 6), (.V 7), (.V 8), (.V 9), (.V 10), (.V 11), (.V 12), (.V 13), (.V 16), (.V 17), (.N 0), (.N 0), (.N 0), (.N 0), (.V 24)] 4
           (.call 24 [(.V 1), (.V 2), (.V 3), (.V 4), (.V 5), (.V 6), (.V 7), (.V 8), (.V 9), (.V 10), (.V 11), (.V 12), (.V 13), (.N 0), (.N 0), (.V 18), (.V 19), (.N 0), (.N 0), (.V 24)] 4
            (.call 24 [(.V 1), (.V 2), (.V 3), (.V 4), (.V 5), (.V 6), (.V 7), (.V 8), (.V 9), (.V 10), (.V 11), (.V 12), (.V 13), (.N 0), (.N 0), (.N 0), (.N 0), (.V 20), (.V 21), (.V 24)] 4
             (.sub (.ite (.eq (.V 32) (.wr .i64 (.add (.wr .i64 (.add (.V 36) (.V 40))) (.V 44))))
               (.ite (.eq (.V 33) (.wr .i64 (.add (.wr .i64 (.add (.V 37) (.V 41))) (.V 45))))
                (.ite (.eq (.V 34) (.wr .i64 (.add (.wr .i64 (.add (.V 38) (.V 42))) (.V 46))))
                 (.call 15 [] 1
                  (.ret [(.V 48)]))
                 (.ret [(.B false)]))
                (.ret [(.B false)]))
               (.ret [(.B false)])) 1
              (.ret [(.V 48)]))))))))))))))
set_option maxRecDepth 100000 in
theorem wCalm_t : runS Try.prog [srcHull_K.to [], srcWeather_K.to [], srcN_K.to [], wTotal_K.to [], sane22_K.to []] [] wCalm_K = wCalm_T := by kernel_rfl
def wBetween_K : Con := ⟨6, [.val false [.sl [.int .i64]], .val false [.int .i64]], [.val false [.bool]], []⟩
def wBetween_T : T (List X) :=
  (.ite (.lt (.N 600) (.len (.V 0)))
  (.call 15 [] 1
   (.ret [(.V 2)]))
  (.need (.not (.lt (.len (.V 0)) (.mn (.len (.V 0)) (.N 600))))
   (.call 52 [(.take (.V 0) (.mn (.len (.V 0)) (.N 600))), (.N 0)] 3
    (.call 52 [(.V 3), (.V 4)] 3
     (.call 52 [(.V 6), (.V 7)] 3
      (.need (.lt (.quo (.rem (.add (.rem (.V 1) (.N 3600)) (.N 3600)) (.N 3600)) (.N 300)) (.len (.V 8)))
       (.need (.lt (.rem (.add (.quo (.rem (.add (.rem (.V 1) (.N 3600)) (.N 3600)) (.N 3600)) (.N 300)) (.N 1)) (.N 12)) (.len (.V 8)))
        (.call 31 [(.V 8), (.rem (.add (.rem (.V 1) (.N 3600)) (.N 3600)) (.N 3600))] 1
         (.sub (.ite (.lt (.V 11) (.mn (.at (.V 8) (.quo (.rem (.add (.rem (.V 1) (.N 3600)) (.N 3600)) (.N 3600)) (.N 300)) 0) (.at (.V 8) (.rem (.add (.quo (.rem (.add (.rem (.V 1) (.N 3600)) (.N 3600)) (.N 3600)) (.N 300)) (.N 1)) (.N 12)) 0)))
           (.ret [(.B false)])
           (.ite (.lt (.mx (.at (.V 8) (.quo (.rem (.add (.rem (.V 1) (.N 3600)) (.N 3600)) (.N 3600)) (.N 300)) 0) (.at (.V 8) (.rem (.add (.quo (.rem (.add (.rem (.V 1) (.N 3600)) (.N 3600)) (.N 3600)) (.N 300)) (.N 1)) (.N 12)) 0)) (.V 11))
            (.ret [(.B false)])
            (.call 31 [(.V 8), (.mul (.N 300) (.quo (.rem (.add (.rem (.V 1) (.N 3600)) (.N 3600)) (.N 3600)) (.N 300)))] 1
             (.ite (.eq (.V 12) (.at (.V 8) (.quo (.rem (.add (.rem (.V 1) (.N 3600)) (.N 3600)) (.N 3600)) (.N 300)) 0))
              (.call 15 [] 1
               (.ret [(.V 13)]))
              (.ret [(.B false)]))))) 1
          (.ret [(.V 12)]))))))))))
set_option maxRecDepth 100000 in
theorem wBetween_t : runS Try.prog [srcList_K.to [], wFactor_K.to [], sane22_K.to []] [] wBetween_K = wBetween_T := by kernel_rfl
def wGrows_K : Con := ⟨8, [.val false [.sl [.int .i64]], .val false [.int .u16]], [.val false [.bool]], []⟩
def wGrows_T : T (List X) :=
  (.ite (.lt (.N 600) (.len (.V 0)))
  (.call 15 [] 1
   (.ret [(.V 2)]))
  (.need (.not (.lt (.len (.V 0)) (.mn (.len (.V 0)) (.N 600))))
   (.call 52 [(.take (.V 0) (.mn (.len (.V 0)) (.N 600))), (.N 0)] 3
    (.call 52 [(.V 3), (.V 4)] 3
     (.call 52 [(.V 6), (.V 7)] 3
      (.call 23 [(.V 9), (.V 10), (.N 3600)] 3
       (.call 23 [(.V 12), (.V 13), (.N 3600)] 3
        (.call 28 [(.V 2), (.V 5), (.V 8), (.V 14), (.rem (.wr .i64 (.V 1)) (.N 9000)), (.V 11)] 3
         (.call 23 [(.V 15), (.V 16), (.N 900)] 3
          (.call 28 [(.V 2), (.V 5), (.V 8), (.V 14), (.wr .i64 (.add (.add (.rem (.wr .i64 (.V 1)) (.N 9000)) (.N 1)) (.V 20))), (.V 11)] 3
           (.sub (.sub (.ite (.lt (.N 0) (.V 17))
              (.ite (.lt (.V 23) (.V 17))
               (.ret [(.lt (.V 23) (.V 17)), (.lt (.V 23) (.V 17)), (.B true)])
               (.ite (.lt (.V 17) (.N 0))
                (.ret [(.lt (.V 23) (.V 17)), (.lt (.V 23) (.V 17)), (.lt (.V 17) (.V 23))])
                (.ret [(.lt (.V 23) (.V 17)), (.lt (.V 23) (.V 17)), (.B false)])))
              (.ite (.lt (.V 17) (.N 0))
               (.ret [(.B false), (.B false), (.lt (.V 17) (.V 23))])
               (.ret [(.B false), (.B false), (.B false)]))) 3
             (.ite (.V 28)
              (.ret [(.N 0)])
              (.sub (.ite (.lt (.N 0) (.V 18))
                (.ite (.lt (.V 24) (.V 18))
                 (.ret [(.lt (.V 24) (.V 18)), (.lt (.V 24) (.V 18)), (.B true)])
                 (.ite (.lt (.V 18) (.N 0))
                  (.ret [(.lt (.V 24) (.V 18)), (.lt (.V 24) (.V 18)), (.lt (.V 18) (.V 24))])
                  (.ret [(.lt (.V 24) (.V 18)), (.lt (.V 24) (.V 18)), (.B false)])))
                (.ite (.lt (.V 18) (.N 0))
                 (.ret [(.B false), (.B false), (.lt (.V 18) (.V 24))])
                 (.ret [(.B false), (.B false), (.B false)]))) 3
               (.ite (.V 31)
                (.ret [(.N 0)])
                (.sub (.ite (.lt (.N 0) (.V 19))
                  (.ite (.lt (.V 25) (.V 19))
                   (.ret [(.lt (.V 25) (.V 19)), (.lt (.V 25) (.V 19)), (.B true)])
                   (.ite (.lt (.V 19) (.N 0))
                    (.ret [(.lt (.V 25) (.V 19)), (.lt (.V 25) (.V 19)), (.lt (.V 19) (.V 25))])
                    (.ret [(.lt (.V 25) (.V 19)), (.lt (.V 25) (.V 19)), (.B false)])))
                  (.ite (.lt (.V 19) (.N 0))
                   (.ret [(.B false), (.B false), (.lt (.V 19) (.V 25))])
                   (.ret [(.B false), (.B false), (.B false)]))) 3
                 (.ite (.V 34)
                  (.ret [(.N 0)])
                  (.ret [(.N 1)]))))))) 1
            (.ite (.eq (.V 26) (.N 0))
             (.ret [(.B false)])
             (.call 15 [] 1
              (.ret [(.V 27)]))))))))))))))
set_option maxRecDepth 100000 in
theorem wGrows_t : runS Try.prog [srcN_K.to [], srcList_K.to [], wLoad_K.to [], sane22_K.to []] [] wGrows_K = wGrows_T := by kernel_rfl
end Go.Proofs.Ytcogndnencabhaa
