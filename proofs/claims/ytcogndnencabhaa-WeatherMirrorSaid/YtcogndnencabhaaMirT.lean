/- The tree of WeatherMirror. -/
import Derived.Test.YtcogndnencabhaaWeaL
set_option linter.unusedVariables false
namespace Go.Proofs.Ytcogndnencabhaa
open Go.RowKit Fx
def wMirror_K : Con := ⟨7, [.val false [.sl [.int .i64]], .val false [.int .i64]], [.val false [.bool]], []⟩
def wMirror_T : T (List X) :=
  (.ite (.lt (.N 600) (.len (.V 0)))
  (.call 15 [] 1
   (.ret [(.V 2)]))
  (.need (.not (.lt (.len (.V 0)) (.mn (.len (.V 0)) (.N 600))))
   (.loop [(.rows [[(.N 0)], [(.N 0)], [(.N 0)], [(.N 0)], [(.N 0)], [(.N 0)], [(.N 0)], [(.N 0)], [(.N 0)], [(.N 0)], [(.N 0)], [(.N 0)]]), (.N 0)]
    (.ite (.lt (.V 3) (.N 12))
     (.need (.lt (.V 3) (.len (.V 2)))
      (.ret (true, [(.put (.V 2) (.V 3) 0 (.sub (.rem (.add (.rem (.V 1) (.N 2001)) (.N 2001)) (.N 2001)) (.N 1000))), (.add (.V 3) (.N 1))])))
     (.ret (false, [(.V 2)]))) 1
    (.call 34 [(.take (.V 0) (.mn (.len (.V 0)) (.N 600))), (.N 0)] 4
     (.call 23 [(.V 5), (.V 6), (.N 3600)] 3
      (.call 28 [(.V 2), (.V 2), (.V 2), (.V 3), (.V 4), (.V 7)] 3
       (.call 28 [(.V 2), (.V 2), (.V 2), (.V 3), (.V 4), (.N 0)] 3
        (.ite (.and (.eq (.V 10) (.V 13)) (.and (.eq (.V 11) (.V 14)) (.eq (.V 12) (.V 15))))
         (.call 52 [(.V 8), (.V 9)] 3
          (.call 52 [(.V 17), (.V 18)] 3
           (.call 52 [(.V 20), (.V 21)] 3
            (.loop [(.rows []), (.rows []), (.rows []), (.N 0)]
             (.ite (.lt (.V 28) (.len (.V 16)))
              (.need (.and (.not (.lt (.V 28) (.N 0))) (.lt (.V 28) (.len (.V 16))))
               (.need (.not (.lt (.N 17592186044416) (.add (.len (.V 25)) (.N 1))))
                (.need (.and (.not (.lt (.V 28) (.N 0))) (.lt (.V 28) (.len (.V 19))))
                 (.need (.not (.lt (.N 17592186044416) (.add (.len (.V 26)) (.N 1))))
                  (.need (.and (.not (.lt (.V 28) (.N 0))) (.lt (.V 28) (.len (.V 22))))
                   (.need (.not (.lt (.N 17592186044416) (.add (.len (.V 27)) (.N 1))))
                    (.ret (true, [(.app (.V 25) (.rows [[(.wr .i64 (.sub (.N 0) (.at (.V 16) (.V 28) 0)))]])), (.app (.V 26) (.rows [[(.wr .i64 (.sub (.N 0) (.at (.V 19) (.V 28) 0)))]])), (.app (.V 27) (.rows [[(.wr .i64 (.sub (.N 0) (.at (.V 22) (.V 28) 0)))]])), (.wr .i64 (.add (.V 28) (.N 1)))]))))))))
              (.ret (false, [(.V 25), (.V 26), (.V 27)]))) 3
             (.call 23 [(.V 23), (.V 24), (.N 12)] 3
              (.call 28 [(.V 16), (.V 19), (.V 22), (.wr .i64 (.mul (.wr .i64 (.quo (.V 3) (.N 300))) (.N 300))), (.V 4), (.wr .i64 (.mul (.N 300) (.V 28)))] 3
               (.call 28 [(.V 25), (.V 26), (.V 27), (.wr .i64 (.mul (.wr .i64 (.quo (.V 3) (.N 300))) (.N 300))), (.V 4), (.wr .i64 (.mul (.N 300) (.V 28)))] 3
                (.loop [(.N 0)]
                 (.ite (.lt (.V 37) (.N 3))
                  (.sub (.ite (.eq (.V 37) (.N 0))
                    (.ret [(.wr .i64 (.add (.V 31) (.V 34))), (.wr .i64 (.add (.V 31) (.V 34)))])
                    (.ite (.eq (.V 37) (.N 1))
                     (.ret [(.wr .i64 (.add (.V 32) (.V 35))), (.wr .i64 (.add (.V 32) (.V 35)))])
                     (.ret [(.wr .i64 (.add (.V 33) (.V 36))), (.wr .i64 (.add (.V 33) (.V 36)))]))) 2
                   (.sub (.ite (.lt (.V 38) (.N 0))
                     (.ret [(.B true)])
                     (.ret [(.lt (.N 1) (.V 38))])) 1
                    (.ite (.V 40)
                     (.ret (false, [(.N 0)]))
                     (.ret (true, [(.add (.V 37) (.N 1))])))))
                  (.ret (false, [(.N 1)]))) 1
                 (.ite (.eq (.V 37) (.N 0))
                  (.ret [(.B false)])
                  (.call 15 [] 1
                   (.ret [(.V 38)])))))))))))
         (.ret [(.B false)])))))))))
set_option maxRecDepth 100000 in
theorem wMirror_t : runS Try.prog [srcN_K.to [], srcList_K.to [], srcFlow_K.to [], wLoad_K.to [], sane22_K.to []] [7] wMirror_K = wMirror_T := by kernel_rfl
end Go.Proofs.Ytcogndnencabhaa
