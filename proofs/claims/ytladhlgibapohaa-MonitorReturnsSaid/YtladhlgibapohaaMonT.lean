/- The tree of MonitorReturns. -/
import Derived.Test.YtladhlgibapohaaStepM
import Derived.Test.YtladhlgibapohaaSane07
set_option linter.unusedVariables false
namespace Go.Proofs.Ytladhlgibapohaa
open Go.RowKit Fx
def mReturns_K : Con := ⟨3, [.val false [.sl [.int .i64]], .val false [.int .u16]], [.val false [.bool]], [none, some (0, 65535)]⟩
def mReturns_T : T (List X) :=
  (.need (.not (.lt (.len (.V 0)) (.mn (.len (.V 0)) (.N 600))))
  (.call 21 [(.take (.V 0) (.mn (.len (.V 0)) (.N 600))), (.N 0), (.N 100)] 3
   (.sub (.call 18 [(.N 0), (.wr .i64 (.add (.N 1) (.V 2))), (.N 100), (.N 0), (.N 0), (.N 0), (.N 0), (.N 0), (.N 0), (.N 0), (.N 0), (.N 0), (.B false), (.N 0), (.N 0), (.N 1), (.N 0), (.N 0), (.N 10)] 12
     (.ite (.eq (.V 16) (.N 0))
      (.ret [(.V 5), (.V 6), (.V 7), (.V 8), (.V 9), (.V 10), (.V 11), (.V 12), (.V 13), (.V 14), (.V 15), (.V 5), (.V 6), (.V 7), (.V 8), (.V 9), (.V 10), (.V 11), (.V 12), (.V 13), (.V 14), (.V 15), (.V 5), (.V 6), (.V 7), (.V 8), (.V 9), (.V 10), (.V 11), (.V 12), (.V 13), (.V 14), (.V 15), (.V 5), (.V 6), (.V 7), (.V 8), (.V 9), (.V 10), (.V 11), (.V 12), (.V 13), (.V 14), (.V 15), (.N 0)])
      (.ret [(.N 0), (.N 0), (.N 0), (.N 0), (.N 0), (.N 0), (.N 0), (.N 0), (.B false), (.N 0), (.N 0), (.N 0), (.N 0), (.N 0), (.N 0), (.N 0), (.N 0), (.N 0), (.N 0), (.B false), (.N 0), (.N 0), (.V 5), (.V 6), (.V 7), (.V 8), (.V 9), (.V 10), (.V 11), (.V 12), (.V 13), (.V 14), (.V 15), (.N 0), (.N 0), (.N 0), (.N 0), (.N 0), (.N 0), (.N 0), (.N 0), (.B false), (.N 0), (.N 0), (.V 16)]))) 45
    (.need (.not (.eq (.wr .i64 (.add (.N 1) (.V 2))) (.N 0)))
     (.call 18 [(.N 0), (.wr .i64 (.add (.N 1) (.V 2))), (.N 100), (.N 0), (.V 38), (.V 39), (.V 40), (.V 41), (.V 42), (.V 43), (.V 44), (.V 45), (.V 46), (.V 47), (.V 48), (.wr .i64 (.quo (.wr .i64 (.sub (.wr .i64 (.add (.sub (.add (.N 21) (.rem (.V 1) (.N 5000))) (.N 20)) (.wr .i64 (.add (.N 1) (.V 2))))) (.N 1))) (.wr .i64 (.add (.N 1) (.V 2))))), (.add (.N 21) (.rem (.V 1) (.N 5000))), (.N 0), (.N 10)] 12
      (.call 18 [(.N 0), (.wr .i64 (.add (.N 1) (.V 2))), (.N 100), (.N 0), (.V 38), (.V 39), (.V 40), (.V 41), (.V 42), (.V 43), (.V 44), (.V 45), (.V 46), (.V 47), (.V 48), (.wr .i64 (.add (.wr .i64 (.quo (.wr .i64 (.sub (.wr .i64 (.add (.sub (.add (.N 21) (.rem (.V 1) (.N 5000))) (.N 20)) (.wr .i64 (.add (.N 1) (.V 2))))) (.N 1))) (.wr .i64 (.add (.N 1) (.V 2))))) (.N 1))), (.add (.N 21) (.rem (.V 1) (.N 5000))), (.N 0), (.N 10)] 12
       (.ite (.eq (.V 61) (.N 16))
        (.sub (.ite (.lt (.N 1) (.wr .i64 (.quo (.wr .i64 (.sub (.wr .i64 (.add (.sub (.add (.N 21) (.rem (.V 1) (.N 5000))) (.N 20)) (.wr .i64 (.add (.N 1) (.V 2))))) (.N 1))) (.wr .i64 (.add (.N 1) (.V 2))))))
          (.ret [(.B false)])
          (.call 19 [] 1
           (.ret [(.V 74)]))) 1
         (.ret [(.V 74)]))
        (.call 18 [(.N 0), (.wr .i64 (.add (.N 1) (.V 2))), (.N 100), (.N 0), (.V 50), (.V 51), (.V 52), (.V 53), (.V 54), (.V 55), (.V 56), (.V 57), (.V 58), (.V 59), (.V 60), (.wr .i64 (.add (.wr .i64 (.quo (.wr .i64 (.sub (.wr .i64 (.add (.sub (.add (.N 21) (.rem (.V 1) (.N 5000))) (.N 20)) (.wr .i64 (.add (.N 1) (.V 2))))) (.N 1))) (.wr .i64 (.add (.N 1) (.V 2))))) (.N 1))), (.N 3), (.N 0), (.N 10)] 12
         (.sub (.ite (.eq (.V 61) (.N 0))
           (.ite (.eq (.V 73) (.N 0))
            (.ite (.eq (.V 85) (.N 0))
             (.ite (.eq (.V 60) (.N 4))
              (.ite (.and (.eq (.V 54) (.N 1)) (.and (.eq (.V 55) (.N 0)) (.and (.eq (.V 56) (.N 0)) (.eq (.V 57) (.N 10)))))
               (.ite (.eq (.V 72) (.N 1))
                (.ite (.eq (.V 84) (.N 1))
                 (.call 19 [] 1
                  (.ret [(.V 86)]))
                 (.ret [(.B false)]))
                (.ret [(.B false)]))
               (.ret [(.B false)]))
              (.ret [(.B false)]))
             (.ret [(.B false)]))
            (.ret [(.B false)]))
           (.ret [(.B false)])) 1
          (.ret [(.V 86)]))))))))))
set_option maxRecDepth 100000 in
theorem mReturns_t : runS Try.prog [srcN_K.to [], sane07_K.to [], mStep_K.to []] [] mReturns_K = mReturns_T := by kernel_rfl
end Go.Proofs.Ytladhlgibapohaa
