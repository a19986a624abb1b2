/- The tree of VesselDrags. -/
import Derived.Test.YtcogndnencabhaaVesL
set_option linter.unusedVariables false
namespace Go.Proofs.Ytcogndnencabhaa
open Go.RowKit Fx
def drags_K : Con := ⟨13, [.val false [.sl [.int .i64]]], [.val false [.bool]], []⟩
def drags_T : T (List X) :=
  (.ite (.lt (.N 600) (.len (.V 0)))
  (.call 35 [] 1
   (.ret [(.V 1)]))
  (.need (.not (.lt (.len (.V 0)) (.mn (.len (.V 0)) (.N 600))))
   (.call 17 [(.take (.V 0) (.mn (.len (.V 0)) (.N 600))), (.N 0)] 15
    (.call 36 [(.V 14), (.V 15)] 9
     (.call 47 [(.V 1), (.V 2), (.V 3), (.V 4), (.V 5), (.V 6), (.V 7), (.V 8), (.V 9), (.V 10), (.V 11), (.V 12), (.V 13), (.V 16), (.V 17), (.V 18), (.V 19), (.V 20), (.V 21), (.V 22), (.N 0), (.N 0), (.N 0)] 8
      (.ite (.eq (.V 32) (.N 0))
       (.sub (.sub (.ite (.lt (.V 20) (.N 0))
          (.ite (.lt (.N 0) (.V 29))
           (.ret [(.B false), (.B false), (.B true)])
           (.ret [(.B false), (.B false), (.lt (.V 29) (.V 20))]))
          (.ite (.lt (.V 29) (.N 0))
           (.ret [(.B true), (.B true), (.B true)])
           (.ite (.lt (.V 20) (.V 29))
            (.ret [(.lt (.V 20) (.V 29)), (.lt (.V 20) (.V 29)), (.B true)])
            (.ret [(.lt (.V 20) (.V 29)), (.lt (.V 20) (.V 29)), (.B false)])))) 3
         (.ite (.V 35)
          (.ret [(.N 0)])
          (.sub (.ite (.lt (.V 21) (.N 0))
            (.ite (.lt (.N 0) (.V 30))
             (.ret [(.B false), (.B false), (.B true)])
             (.ret [(.B false), (.B false), (.lt (.V 30) (.V 21))]))
            (.ite (.lt (.V 30) (.N 0))
             (.ret [(.B true), (.B true), (.B true)])
             (.ite (.lt (.V 21) (.V 30))
              (.ret [(.lt (.V 21) (.V 30)), (.lt (.V 21) (.V 30)), (.B true)])
              (.ret [(.lt (.V 21) (.V 30)), (.lt (.V 21) (.V 30)), (.B false)])))) 3
           (.ite (.V 38)
            (.ret [(.N 0)])
            (.sub (.ite (.lt (.V 22) (.N 0))
              (.ite (.lt (.N 0) (.V 31))
               (.ret [(.B false), (.B false), (.B true)])
               (.ret [(.B false), (.B false), (.lt (.V 31) (.V 22))]))
              (.ite (.lt (.V 31) (.N 0))
               (.ret [(.B true), (.B true), (.B true)])
               (.ite (.lt (.V 22) (.V 31))
                (.ret [(.lt (.V 22) (.V 31)), (.lt (.V 22) (.V 31)), (.B true)])
                (.ret [(.lt (.V 22) (.V 31)), (.lt (.V 22) (.V 31)), (.B false)])))) 3
             (.ite (.V 41)
              (.ret [(.N 0)])
              (.ret [(.N 1)]))))))) 1
        (.ite (.eq (.V 33) (.N 0))
         (.ret [(.B false)])
         (.call 47 [(.V 1), (.V 2), (.V 3), (.V 4), (.V 5), (.V 6), (.V 7), (.V 8), (.V 9), (.V 10), (.V 11), (.V 10), (.V 11), (.V 16), (.V 17), (.V 18), (.V 19), (.V 20), (.V 21), (.V 22), (.N 0), (.N 0), (.N 0)] 8
          (.sub (.ite (.eq (.V 41) (.N 0))
            (.sub (.ite (.eq (.V 38) (.N 0))
              (.ite (.eq (.V 39) (.N 0))
               (.ret [(.eq (.V 40) (.N 0))])
               (.ret [(.B false)]))
              (.ret [(.B false)])) 1
             (.ite (.V 42)
              (.sub (.sub (.ite (.lt (.rem (.V 35) (.N 100)) (.N 0))
                 (.ret [(.wr .i64 (.sub (.wr .i64 (.quo (.V 35) (.N 100))) (.N 1))), (.add (.rem (.V 35) (.N 100)) (.N 100))])
                 (.ret [(.wr .i64 (.quo (.V 35) (.N 100))), (.rem (.V 35) (.N 100))])) 2
                (.ite (.lt (.mul (.N 2) (.V 44)) (.N 100))
                 (.ret [(.V 43)])
                 (.ret [(.wr .i64 (.add (.V 43) (.N 1)))]))) 1
               (.sub (.sub (.ite (.lt (.rem (.V 36) (.N 100)) (.N 0))
                  (.ret [(.wr .i64 (.sub (.wr .i64 (.quo (.V 36) (.N 100))) (.N 1))), (.add (.rem (.V 36) (.N 100)) (.N 100))])
                  (.ret [(.wr .i64 (.quo (.V 36) (.N 100))), (.rem (.V 36) (.N 100))])) 2
                 (.ite (.lt (.mul (.N 2) (.V 45)) (.N 100))
                  (.ret [(.V 44)])
                  (.ret [(.wr .i64 (.add (.V 44) (.N 1)))]))) 1
                (.sub (.sub (.ite (.lt (.rem (.V 17) (.N 100)) (.N 0))
                   (.ret [(.wr .i64 (.sub (.wr .i64 (.quo (.V 17) (.N 100))) (.N 1))), (.add (.rem (.V 17) (.N 100)) (.N 100))])
                   (.ret [(.wr .i64 (.quo (.V 17) (.N 100))), (.rem (.V 17) (.N 100))])) 2
                  (.ite (.lt (.mul (.N 2) (.V 46)) (.N 100))
                   (.ret [(.V 45)])
                   (.ret [(.wr .i64 (.add (.V 45) (.N 1)))]))) 1
                 (.sub (.sub (.ite (.lt (.rem (.V 18) (.N 100)) (.N 0))
                    (.ret [(.wr .i64 (.sub (.wr .i64 (.quo (.V 18) (.N 100))) (.N 1))), (.add (.rem (.V 18) (.N 100)) (.N 100))])
                    (.ret [(.wr .i64 (.quo (.V 18) (.N 100))), (.rem (.V 18) (.N 100))])) 2
                   (.ite (.lt (.mul (.N 2) (.V 47)) (.N 100))
                    (.ret [(.V 46)])
                    (.ret [(.wr .i64 (.add (.V 46) (.N 1)))]))) 1
                  (.ite (.and (.eq (.V 43) (.V 45)) (.eq (.V 44) (.V 46)))
                   (.call 35 [] 1
                    (.ret [(.V 47)]))
                   (.ret [(.B false)]))))))
              (.ret [(.B false)])))
            (.ret [(.B false)])) 1
           (.ret [(.V 42)])))))
       (.ret [(.B false)])))))))
set_option maxRecDepth 100000 in
theorem drags_t : runS Try.prog [srcHull_K.to [], srcMotion_K.to [], vStep_K.to [], sane23_K.to []] [] drags_K = drags_T := by kernel_rfl
end Go.Proofs.Ytcogndnencabhaa
