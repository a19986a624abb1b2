/- The trees of the laws of layer 23. -/
import Derived.Test.YtcogndnencabhaaVesM
import Derived.Test.YtcogndnencabhaaSane23
set_option linter.unusedVariables false
namespace Go.Proofs.Ytcogndnencabhaa
open Go.RowKit Fx
def splits_K : Con := ⟨10, [.val false [.sl [.int .i64]], .val false [.int .u8], .val false [.int .u8]], [.val false [.bool]], []⟩
def splits_T : T (List X) :=
  (.ite (.lt (.N 600) (.len (.V 0)))
  (.call 35 [] 1
   (.ret [(.V 3)]))
  (.need (.not (.lt (.len (.V 0)) (.mn (.len (.V 0)) (.N 600))))
   (.call 17 [(.take (.V 0) (.mn (.len (.V 0)) (.N 600))), (.N 0)] 15
    (.call 36 [(.V 16), (.V 17)] 9
     (.call 46 [(.V 25), (.V 26)] 5
      (.call 49 [(.V 3), (.V 4), (.V 5), (.V 6), (.V 7), (.V 8), (.V 9), (.V 10), (.V 11), (.V 12), (.V 13), (.V 14), (.V 15), (.V 18), (.V 19), (.V 20), (.V 21), (.V 22), (.V 23), (.V 24), (.V 27), (.V 28), (.V 29), (.add (.rem (.wr .i64 (.V 1)) (.N 20)) (.rem (.wr .i64 (.V 2)) (.N 20)))] 8
       (.call 49 [(.V 3), (.V 4), (.V 5), (.V 6), (.V 7), (.V 8), (.V 9), (.V 10), (.V 11), (.V 12), (.V 13), (.V 14), (.V 15), (.V 18), (.V 19), (.V 20), (.V 21), (.V 22), (.V 23), (.V 24), (.V 27), (.V 28), (.V 29), (.rem (.wr .i64 (.V 1)) (.N 20))] 8
        (.ite (.eq (.V 47) (.N 0))
         (.call 49 [(.V 3), (.V 4), (.V 5), (.V 6), (.V 7), (.V 8), (.V 9), (.V 10), (.V 11), (.V 12), (.V 13), (.V 14), (.V 15), (.V 40), (.V 41), (.V 42), (.V 43), (.V 44), (.V 45), (.V 46), (.V 27), (.V 28), (.V 29), (.rem (.wr .i64 (.V 2)) (.N 20))] 8
          (.sub (.ite (.and (.eq (.V 48) (.V 32)) (.and (.eq (.V 49) (.V 33)) (.and (.eq (.V 50) (.V 34)) (.and (.eq (.V 51) (.V 35)) (.and (.eq (.V 52) (.V 36)) (.and (.eq (.V 53) (.V 37)) (.eq (.V 54) (.V 38))))))))
            (.ite (.eq (.V 55) (.V 39))
             (.call 35 [] 1
              (.ret [(.V 56)]))
             (.ret [(.B false)]))
            (.ret [(.B false)])) 1
           (.ret [(.V 56)])))
         (.sub (.ite (.eq (.V 39) (.V 47))
           (.call 35 [] 1
            (.ret [(.V 48)]))
           (.ret [(.B false)])) 1
          (.ret [(.V 48)]))))))))))
set_option maxRecDepth 100000 in
theorem splits_t : runS Try.prog [srcHull_K.to [], srcMotion_K.to [], srcForce_K.to [], vRun_K.to [], sane23_K.to []] [] splits_K = splits_T := by kernel_rfl
def rests_K : Con := ⟨11, [.val false [.sl [.int .i64]], .val false [.int .u8]], [.val false [.bool]], []⟩
def rests_T : T (List X) :=
  (.ite (.lt (.N 600) (.len (.V 0)))
  (.call 35 [] 1
   (.ret [(.V 2)]))
  (.need (.not (.lt (.len (.V 0)) (.mn (.len (.V 0)) (.N 600))))
   (.call 17 [(.take (.V 0) (.mn (.len (.V 0)) (.N 600))), (.N 0)] 15
    (.call 36 [(.V 15), (.V 16)] 9
     (.call 49 [(.V 2), (.V 3), (.V 4), (.V 5), (.V 6), (.V 7), (.V 8), (.V 9), (.V 10), (.V 11), (.V 12), (.V 13), (.V 14), (.V 17), (.V 18), (.V 19), (.V 20), (.N 0), (.N 0), (.N 0), (.N 0), (.N 0), (.N 0), (.wr .i64 (.V 1))] 8
      (.sub (.ite (.eq (.V 33) (.N 0))
        (.ite (.and (.eq (.V 26) (.wr .i64 (.add (.V 17) (.wr .i64 (.V 1))))) (.and (.eq (.V 27) (.V 18)) (.and (.eq (.V 28) (.V 19)) (.and (.eq (.V 29) (.V 20)) (.and (.eq (.V 30) (.N 0)) (.and (.eq (.V 31) (.N 0)) (.eq (.V 32) (.N 0))))))))
         (.sub (.ite (.eq (.V 30) (.N 0))
           (.ite (.eq (.V 31) (.N 0))
            (.ret [(.eq (.V 32) (.N 0))])
            (.ret [(.B false)]))
           (.ret [(.B false)])) 1
          (.ite (.V 34)
           (.call 35 [] 1
            (.ret [(.V 35)]))
           (.ret [(.B false)])))
         (.ret [(.B false)]))
        (.ret [(.B false)])) 1
       (.ret [(.V 34)])))))))
set_option maxRecDepth 100000 in
theorem rests_t : runS Try.prog [srcHull_K.to [], srcMotion_K.to [], vRun_K.to [], sane23_K.to []] [] rests_K = rests_T := by kernel_rfl
def steers_K : Con := ⟨14, [.val false [.sl [.int .i64]]], [.val false [.bool]], []⟩
def steers_T : T (List X) :=
  (.ite (.lt (.N 600) (.len (.V 0)))
  (.call 35 [] 1
   (.ret [(.V 1)]))
  (.need (.not (.lt (.len (.V 0)) (.mn (.len (.V 0)) (.N 600))))
   (.call 17 [(.take (.V 0) (.mn (.len (.V 0)) (.N 600))), (.N 0)] 15
    (.call 36 [(.V 14), (.V 15)] 9
     (.call 47 [(.V 1), (.V 2), (.V 3), (.V 4), (.V 5), (.V 6), (.V 7), (.V 8), (.V 9), (.V 10), (.V 11), (.V 12), (.N 0), (.V 16), (.V 17), (.V 18), (.N 0), (.V 20), (.V 21), (.N 0), (.N 0), (.N 0), (.N 0)] 8
      (.call 47 [(.V 1), (.V 2), (.V 3), (.V 4), (.V 5), (.V 6), (.V 7), (.V 8), (.V 9), (.V 10), (.V 11), (.V 12), (.N 0), (.V 16), (.V 17), (.V 18), (.N 90000), (.V 20), (.V 21), (.N 0), (.N 0), (.N 0), (.N 0)] 8
       (.sub (.ite (.eq (.V 32) (.N 0))
         (.ite (.eq (.V 40) (.N 0))
          (.ite (.eq (.V 26) (.wr .i64 (.add (.V 17) (.V 29))))
           (.ite (.eq (.V 27) (.wr .i64 (.add (.V 18) (.V 30))))
            (.ite (.eq (.V 34) (.wr .i64 (.sub (.V 17) (.V 38))))
             (.ite (.eq (.V 35) (.wr .i64 (.add (.V 18) (.V 37))))
              (.call 35 [] 1
               (.ret [(.V 41)]))
              (.ret [(.B false)]))
             (.ret [(.B false)]))
            (.ret [(.B false)]))
           (.ret [(.B false)]))
          (.ret [(.B false)]))
         (.ret [(.B false)])) 1
        (.ret [(.V 41)]))))))))
set_option maxRecDepth 100000 in
theorem steers_t : runS Try.prog [srcHull_K.to [], srcMotion_K.to [], vStep_K.to [], sane23_K.to []] [] steers_K = steers_T := by kernel_rfl
def returns_K : Con := ⟨12, [.val false [.sl [.int .i64]], .val false [.int .i64]], [.val false [.bool]], []⟩
def returns_T : T (List X) :=
  (.ite (.lt (.N 600) (.len (.V 0)))
  (.call 35 [] 1
   (.ret [(.V 2)]))
  (.need (.not (.lt (.len (.V 0)) (.mn (.len (.V 0)) (.N 600))))
   (.call 23 [(.take (.V 0) (.mn (.len (.V 0)) (.N 600))), (.N 0), (.N 4)] 3
    (.need (.and (.not (.lt (.V 2) (.N 0))) (.lt (.V 2) (.N 4)))
     (.call 36 [(.V 3), (.V 4)] 9
      (.sub (.need (.not (.eq (.at (.rows [[(.N 1)], [(.N 10)], [(.N 100)], [(.N 1000)]]) (.V 2) 0) (.N 0)))
        (.ite (.lt (.N 30000) (.wr .i64 (.quo (.N 40000) (.at (.rows [[(.N 1)], [(.N 10)], [(.N 100)], [(.N 1000)]]) (.V 2) 0))))
         (.ret [(.rem (.sub (.rem (.add (.rem (.V 1) (.N 9)) (.N 9)) (.N 9)) (.N 4)) (.N 2)), (.N 1)])
         (.ret [(.sub (.rem (.add (.rem (.V 1) (.N 9)) (.N 9)) (.N 9)) (.N 4)), (.sub (.N 3) (.sub (.rem (.add (.rem (.V 1) (.N 9)) (.N 9)) (.N 9)) (.N 4)))]))) 2
       (.call 47 [(.rows [[(.N 0)], [(.N 0)], [(.N 0)], [(.N 0)], [(.N 0)], [(.N 0)], [(.N 0)], [(.N 0)], [(.N 0)], [(.N 0)], [(.N 0)], [(.N 0)]]), (.rows [[(.N 0)], [(.N 0)], [(.N 0)], [(.N 0)], [(.N 0)], [(.N 0)], [(.N 0)], [(.N 0)], [(.N 0)], [(.N 0)], [(.N 0)], [(.N 0)]]), (.rows [[(.N 0)], [(.N 0)], [(.N 0)], [(.N 0)], [(.N 0)], [(.N 0)], [(.N 0)], [(.N 0)], [(.N 0)], [(.N 0)], [(.N 0)], [(.N 0)]]), (.rows [[(.N 0)], [(.N 0)], [(.N 0)], [(.N 0)], [(.N 0)], [(.N 0)], [(.N 0)], [(.N 0)], [(.N 0)], [(.N 0)], [(.N 0)], [(.N 0)]]), (.rows [[(.N 0)], [(.N 0)], [(.N 0)], [(.N 0)], [(.N 0)], [(.N 0)], [(.N 0)], [(.N 0)], [(.N 0)], [(.N 0)], [(.N 0)], [(.N 0)]]), (.rows [[(.N 0)], [(.N 0)], [(.N 0)], [(.N 0)], [(.N 0)], [(.N 0)], [(.N 0)], [(.N 0)], [(.N 0)], [(.N 0)], [(.N 0)], [(.N 0)]]), (.rows [[(.N 0)], [(.N 0)], [(.N 0)], [(.N 0)], [(.N 0)], [(.N 0)], [(.N 0)], [(.N 0)], [(.N 0)], [(.N 0)], [(.N 0)], [(.N 0)]]), (.rows [[(.N 0)], [(.N 0)], [(.N 0)], [(.N 0)], [(.N 0)], [(.N 0)], [(.N 0)], [(.N 0)], [(.N 0)], [(.N 0)], [(.N 0)], [(.N 0)]]), (.rows [[(.N 0)], [(.N 0)], [(.N 0)], [(.N 0)], [(.N 0)], [(.N 0)], [(.N 0)], [(.N 0)], [(.N 0)], [(.N 0)], [(.N 0)], [(.N 0)]]), (.at (.rows [[(.N 1)], [(.N 10)], [(.N 100)], [(.N 1000)]]) (.V 2) 0), (.N 500), (.N 0), (.N 0), (.V 5), (.V 6), (.V 7), (.V 8), (.rem (.V 9) (.N 100)), (.rem (.V 10) (.N 100)), (.V 11), (.V 14), (.V 15), (.N 0)] 8
        (.call 47 [(.rows [[(.N 0)], [(.N 0)], [(.N 0)], [(.N 0)], [(.N 0)], [(.N 0)], [(.N 0)], [(.N 0)], [(.N 0)], [(.N 0)], [(.N 0)], [(.N 0)]]), (.rows [[(.N 0)], [(.N 0)], [(.N 0)], [(.N 0)], [(.N 0)], [(.N 0)], [(.N 0)], [(.N 0)], [(.N 0)], [(.N 0)], [(.N 0)], [(.N 0)]]), (.rows [[(.N 0)], [(.N 0)], [(.N 0)], [(.N 0)], [(.N 0)], [(.N 0)], [(.N 0)], [(.N 0)], [(.N 0)], [(.N 0)], [(.N 0)], [(.N 0)]]), (.rows [[(.N 0)], [(.N 0)], [(.N 0)], [(.N 0)], [(.N 0)], [(.N 0)], [(.N 0)], [(.N 0)], [(.N 0)], [(.N 0)], [(.N 0)], [(.N 0)]]), (.rows [[(.N 0)], [(.N 0)], [(.N 0)], [(.N 0)], [(.N 0)], [(.N 0)], [(.N 0)], [(.N 0)], [(.N 0)], [(.N 0)], [(.N 0)], [(.N 0)]]), (.rows [[(.N 0)], [(.N 0)], [(.N 0)], [(.N 0)], [(.N 0)], [(.N 0)], [(.N 0)], [(.N 0)], [(.N 0)], [(.N 0)], [(.N 0)], [(.N 0)]]), (.rows [[(.N 0)], [(.N 0)], [(.N 0)], [(.N 0)], [(.N 0)], [(.N 0)], [(.N 0)], [(.N 0)], [(.N 0)], [(.N 0)], [(.N 0)], [(.N 0)]]), (.rows [[(.N 0)], [(.N 0)], [(.N 0)], [(.N 0)], [(.N 0)], [(.N 0)], [(.N 0)], [(.N 0)], [(.N 0)], [(.N 0)], [(.N 0)], [(.N 0)]]), (.rows [[(.N 0)], [(.N 0)], [(.N 0)], [(.N 0)], [(.N 0)], [(.N 0)], [(.N 0)], [(.N 0)], [(.N 0)], [(.N 0)], [(.N 0)], [(.N 0)]]), (.at (.rows [[(.N 1)], [(.N 10)], [(.N 100)], [(.N 1000)]]) (.V 2) 0), (.N 500), (.N 0), (.N 0), (.V 16), (.V 17), (.V 18), (.V 19), (.V 20), (.V 21), (.V 22), (.sub (.N 0) (.V 14)), (.sub (.N 0) (.V 15)), (.N 0)] 8
         (.sub (.ite (.eq (.V 23) (.N 0))
           (.ite (.eq (.V 31) (.N 0))
            (.ite (.eq (.V 28) (.rem (.V 9) (.N 100)))
             (.ite (.eq (.V 29) (.rem (.V 10) (.N 100)))
              (.ite (.eq (.V 30) (.V 11))
               (.call 35 [] 1
                (.ret [(.V 32)]))
               (.ret [(.B false)]))
              (.ret [(.B false)]))
             (.ret [(.B false)]))
            (.ret [(.B false)]))
           (.ret [(.B false)])) 1
          (.ret [(.V 32)]))))))))))
set_option maxRecDepth 100000 in
theorem returns_t : runS Try.prog [srcN_K.to [], srcMotion_K.to [], vStep_K.to [], sane23_K.to []] [] returns_K = returns_T := by kernel_rfl
end Go.Proofs.Ytcogndnencabhaa
