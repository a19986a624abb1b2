/- Trees: factors, loads, what the source gives of flows. -/
import Derived.Test.YtdkamfkpmplaoaaVesM
import Derived.Test.YtdkamfkpmplaoaaRnd
set_option linter.unusedVariables false
namespace Go.Proofs.Ytdkamfkpmplaoaa
open Go.RowKit Fx
def wFactor_K : Con := ⟨85, [.val false [.sl [.int .i64]], .val false [.int .i64]], [.val false [.int .i64]], []⟩
def wFactor_T : T (List X) :=
  (.sub (.call 142 [(.V 0)] 1
   (.ite (.V 2)
    (.sub (.ite (.lt (.V 1) (.N 0))
      (.ret [(.B false)])
      (.ret [(.not (.lt (.N 3599) (.V 1)))])) 1
     (.ret [(.not (.V 3))]))
    (.ret [(.B true)]))) 1
  (.ite (.V 2)
   (.ret [(.N 0)])
   (.need (.lt (.N 0) (.len (.V 0)))
    (.need (.and (.not (.lt (.wr .i64 (.quo (.V 1) (.N 300))) (.N 0))) (.lt (.wr .i64 (.quo (.V 1) (.N 300))) (.N 13)))
     (.need (.and (.not (.lt (.wr .i64 (.add (.wr .i64 (.quo (.V 1) (.N 300))) (.N 1))) (.N 0))) (.lt (.wr .i64 (.add (.wr .i64 (.quo (.V 1) (.N 300))) (.N 1))) (.N 13)))
      (.sub (.sub (.ite (.lt (.wr .i64 (.add (.wr .i64 (.mul (.sub (.N 300) (.rem (.V 1) (.N 300))) (.at (.rows [[(.cond (.lt (.N 0) (.mn (.N 13) (.len (.V 0)))) (.at (.V 0) (.N 0) 0) (.N 0))], [(.cond (.lt (.N 1) (.mn (.N 13) (.len (.V 0)))) (.at (.V 0) (.N 1) 0) (.N 0))], [(.cond (.lt (.N 2) (.mn (.N 13) (.len (.V 0)))) (.at (.V 0) (.N 2) 0) (.N 0))], [(.cond (.lt (.N 3) (.mn (.N 13) (.len (.V 0)))) (.at (.V 0) (.N 3) 0) (.N 0))], [(.cond (.lt (.N 4) (.mn (.N 13) (.len (.V 0)))) (.at (.V 0) (.N 4) 0) (.N 0))], [(.cond (.lt (.N 5) (.mn (.N 13) (.len (.V 0)))) (.at (.V 0) (.N 5) 0) (.N 0))], [(.cond (.lt (.N 6) (.mn (.N 13) (.len (.V 0)))) (.at (.V 0) (.N 6) 0) (.N 0))], [(.cond (.lt (.N 7) (.mn (.N 13) (.len (.V 0)))) (.at (.V 0) (.N 7) 0) (.N 0))], [(.cond (.lt (.N 8) (.mn (.N 13) (.len (.V 0)))) (.at (.V 0) (.N 8) 0) (.N 0))], [(.cond (.lt (.N 9) (.mn (.N 13) (.len (.V 0)))) (.at (.V 0) (.N 9) 0) (.N 0))], [(.cond (.lt (.N 10) (.mn (.N 13) (.len (.V 0)))) (.at (.V 0) (.N 10) 0) (.N 0))], [(.cond (.lt (.N 11) (.mn (.N 13) (.len (.V 0)))) (.at (.V 0) (.N 11) 0) (.N 0))], [(.at (.V 0) (.N 0) 0)]]) (.wr .i64 (.quo (.V 1) (.N 300))) 0))) (.wr .i64 (.mul (.rem (.V 1) (.N 300)) (.at (.rows [[(.cond (.lt (.N 0) (.mn (.N 13) (.len (.V 0)))) (.at (.V 0) (.N 0) 0) (.N 0))], [(.cond (.lt (.N 1) (.mn (.N 13) (.len (.V 0)))) (.at (.V 0) (.N 1) 0) (.N 0))], [(.cond (.lt (.N 2) (.mn (.N 13) (.len (.V 0)))) (.at (.V 0) (.N 2) 0) (.N 0))], [(.cond (.lt (.N 3) (.mn (.N 13) (.len (.V 0)))) (.at (.V 0) (.N 3) 0) (.N 0))], [(.cond (.lt (.N 4) (.mn (.N 13) (.len (.V 0)))) (.at (.V 0) (.N 4) 0) (.N 0))], [(.cond (.lt (.N 5) (.mn (.N 13) (.len (.V 0)))) (.at (.V 0) (.N 5) 0) (.N 0))], [(.cond (.lt (.N 6) (.mn (.N 13) (.len (.V 0)))) (.at (.V 0) (.N 6) 0) (.N 0))], [(.cond (.lt (.N 7) (.mn (.N 13) (.len (.V 0)))) (.at (.V 0) (.N 7) 0) (.N 0))], [(.cond (.lt (.N 8) (.mn (.N 13) (.len (.V 0)))) (.at (.V 0) (.N 8) 0) (.N 0))], [(.cond (.lt (.N 9) (.mn (.N 13) (.len (.V 0)))) (.at (.V 0) (.N 9) 0) (.N 0))], [(.cond (.lt (.N 10) (.mn (.N 13) (.len (.V 0)))) (.at (.V 0) (.N 10) 0) (.N 0))], [(.cond (.lt (.N 11) (.mn (.N 13) (.len (.V 0)))) (.at (.V 0) (.N 11) 0) (.N 0))], [(.at (.V 0) (.N 0) 0)]]) (.wr .i64 (.add (.wr .i64 (.quo (.V 1) (.N 300))) (.N 1))) 0))))) (.N (-1000000000000000000)))
         (.ret [(.B true)])
         (.ite (.lt (.N 1000000000000000000) (.wr .i64 (.add (.wr .i64 (.mul (.sub (.N 300) (.rem (.V 1) (.N 300))) (.at (.rows [[(.cond (.lt (.N 0) (.mn (.N 13) (.len (.V 0)))) (.at (.V 0) (.N 0) 0) (.N 0))], [(.cond (.lt (.N 1) (.mn (.N 13) (.len (.V 0)))) (.at (.V 0) (.N 1) 0) (.N 0))], [(.cond (.lt (.N 2) (.mn (.N 13) (.len (.V 0)))) (.at (.V 0) (.N 2) 0) (.N 0))], [(.cond (.lt (.N 3) (.mn (.N 13) (.len (.V 0)))) (.at (.V 0) (.N 3) 0) (.N 0))], [(.cond (.lt (.N 4) (.mn (.N 13) (.len (.V 0)))) (.at (.V 0) (.N 4) 0) (.N 0))], [(.cond (.lt (.N 5) (.mn (.N 13) (.len (.V 0)))) (.at (.V 0) (.N 5) 0) (.N 0))], [(.cond (.lt (.N 6) (.mn (.N 13) (.len (.V 0)))) (.at (.V 0) (.N 6) 0) (.N 0))], [(.cond (.lt (.N 7) (.mn (.N 13) (.len (.V 0)))) (.at (.V 0) (.N 7) 0) (.N 0))], [(.cond (.lt (.N 8) (.mn (.N 13) (.len (.V 0)))) (.at (.V 0) (.N 8) 0) (.N 0))], [(.cond (.lt (.N 9) (.mn (.N 13) (.len (.V 0)))) (.at (.V 0) (.N 9) 0) (.N 0))], [(.cond (.lt (.N 10) (.mn (.N 13) (.len (.V 0)))) (.at (.V 0) (.N 10) 0) (.N 0))], [(.cond (.lt (.N 11) (.mn (.N 13) (.len (.V 0)))) (.at (.V 0) (.N 11) 0) (.N 0))], [(.at (.V 0) (.N 0) 0)]]) (.wr .i64 (.quo (.V 1) (.N 300))) 0))) (.wr .i64 (.mul (.rem (.V 1) (.N 300)) (.at (.rows [[(.cond (.lt (.N 0) (.mn (.N 13) (.len (.V 0)))) (.at (.V 0) (.N 0) 0) (.N 0))], [(.cond (.lt (.N 1) (.mn (.N 13) (.len (.V 0)))) (.at (.V 0) (.N 1) 0) (.N 0))], [(.cond (.lt (.N 2) (.mn (.N 13) (.len (.V 0)))) (.at (.V 0) (.N 2) 0) (.N 0))], [(.cond (.lt (.N 3) (.mn (.N 13) (.len (.V 0)))) (.at (.V 0) (.N 3) 0) (.N 0))], [(.cond (.lt (.N 4) (.mn (.N 13) (.len (.V 0)))) (.at (.V 0) (.N 4) 0) (.N 0))], [(.cond (.lt (.N 5) (.mn (.N 13) (.len (.V 0)))) (.at (.V 0) (.N 5) 0) (.N 0))], [(.cond (.lt (.N 6) (.mn (.N 13) (.len (.V 0)))) (.at (.V 0) (.N 6) 0) (.N 0))], [(.cond (.lt (.N 7) (.mn (.N 13) (.len (.V 0)))) (.at (.V 0) (.N 7) 0) (.N 0))], [(.cond (.lt (.N 8) (.mn (.N 13) (.len (.V 0)))) (.at (.V 0) (.N 8) 0) (.N 0))], [(.cond (.lt (.N 9) (.mn (.N 13) (.len (.V 0)))) (.at (.V 0) (.N 9) 0) (.N 0))], [(.cond (.lt (.N 10) (.mn (.N 13) (.len (.V 0)))) (.at (.V 0) (.N 10) 0) (.N 0))], [(.cond (.lt (.N 11) (.mn (.N 13) (.len (.V 0)))) (.at (.V 0) (.N 11) 0) (.N 0))], [(.at (.V 0) (.N 0) 0)]]) (.wr .i64 (.add (.wr .i64 (.quo (.V 1) (.N 300))) (.N 1))) 0))))))
          (.ret [(.B true)])
          (.ret [(.B false)]))) 1
        (.ite (.V 3)
         (.ret [(.N 0), (.N 1)])
         (.sub (.ite (.lt (.rem (.wr .i64 (.add (.wr .i64 (.mul (.sub (.N 300) (.rem (.V 1) (.N 300))) (.at (.rows [[(.cond (.lt (.N 0) (.mn (.N 13) (.len (.V 0)))) (.at (.V 0) (.N 0) 0) (.N 0))], [(.cond (.lt (.N 1) (.mn (.N 13) (.len (.V 0)))) (.at (.V 0) (.N 1) 0) (.N 0))], [(.cond (.lt (.N 2) (.mn (.N 13) (.len (.V 0)))) (.at (.V 0) (.N 2) 0) (.N 0))], [(.cond (.lt (.N 3) (.mn (.N 13) (.len (.V 0)))) (.at (.V 0) (.N 3) 0) (.N 0))], [(.cond (.lt (.N 4) (.mn (.N 13) (.len (.V 0)))) (.at (.V 0) (.N 4) 0) (.N 0))], [(.cond (.lt (.N 5) (.mn (.N 13) (.len (.V 0)))) (.at (.V 0) (.N 5) 0) (.N 0))], [(.cond (.lt (.N 6) (.mn (.N 13) (.len (.V 0)))) (.at (.V 0) (.N 6) 0) (.N 0))], [(.cond (.lt (.N 7) (.mn (.N 13) (.len (.V 0)))) (.at (.V 0) (.N 7) 0) (.N 0))], [(.cond (.lt (.N 8) (.mn (.N 13) (.len (.V 0)))) (.at (.V 0) (.N 8) 0) (.N 0))], [(.cond (.lt (.N 9) (.mn (.N 13) (.len (.V 0)))) (.at (.V 0) (.N 9) 0) (.N 0))], [(.cond (.lt (.N 10) (.mn (.N 13) (.len (.V 0)))) (.at (.V 0) (.N 10) 0) (.N 0))], [(.cond (.lt (.N 11) (.mn (.N 13) (.len (.V 0)))) (.at (.V 0) (.N 11) 0) (.N 0))], [(.at (.V 0) (.N 0) 0)]]) (.wr .i64 (.quo (.V 1) (.N 300))) 0))) (.wr .i64 (.mul (.rem (.V 1) (.N 300)) (.at (.rows [[(.cond (.lt (.N 0) (.mn (.N 13) (.len (.V 0)))) (.at (.V 0) (.N 0) 0) (.N 0))], [(.cond (.lt (.N 1) (.mn (.N 13) (.len (.V 0)))) (.at (.V 0) (.N 1) 0) (.N 0))], [(.cond (.lt (.N 2) (.mn (.N 13) (.len (.V 0)))) (.at (.V 0) (.N 2) 0) (.N 0))], [(.cond (.lt (.N 3) (.mn (.N 13) (.len (.V 0)))) (.at (.V 0) (.N 3) 0) (.N 0))], [(.cond (.lt (.N 4) (.mn (.N 13) (.len (.V 0)))) (.at (.V 0) (.N 4) 0) (.N 0))], [(.cond (.lt (.N 5) (.mn (.N 13) (.len (.V 0)))) (.at (.V 0) (.N 5) 0) (.N 0))], [(.cond (.lt (.N 6) (.mn (.N 13) (.len (.V 0)))) (.at (.V 0) (.N 6) 0) (.N 0))], [(.cond (.lt (.N 7) (.mn (.N 13) (.len (.V 0)))) (.at (.V 0) (.N 7) 0) (.N 0))], [(.cond (.lt (.N 8) (.mn (.N 13) (.len (.V 0)))) (.at (.V 0) (.N 8) 0) (.N 0))], [(.cond (.lt (.N 9) (.mn (.N 13) (.len (.V 0)))) (.at (.V 0) (.N 9) 0) (.N 0))], [(.cond (.lt (.N 10) (.mn (.N 13) (.len (.V 0)))) (.at (.V 0) (.N 10) 0) (.N 0))], [(.cond (.lt (.N 11) (.mn (.N 13) (.len (.V 0)))) (.at (.V 0) (.N 11) 0) (.N 0))], [(.at (.V 0) (.N 0) 0)]]) (.wr .i64 (.add (.wr .i64 (.quo (.V 1) (.N 300))) (.N 1))) 0))))) (.N 300)) (.N 0))
           (.ret [(.sub (.quo (.wr .i64 (.add (.wr .i64 (.mul (.sub (.N 300) (.rem (.V 1) (.N 300))) (.at (.rows [[(.cond (.lt (.N 0) (.mn (.N 13) (.len (.V 0)))) (.at (.V 0) (.N 0) 0) (.N 0))], [(.cond (.lt (.N 1) (.mn (.N 13) (.len (.V 0)))) (.at (.V 0) (.N 1) 0) (.N 0))], [(.cond (.lt (.N 2) (.mn (.N 13) (.len (.V 0)))) (.at (.V 0) (.N 2) 0) (.N 0))], [(.cond (.lt (.N 3) (.mn (.N 13) (.len (.V 0)))) (.at (.V 0) (.N 3) 0) (.N 0))], [(.cond (.lt (.N 4) (.mn (.N 13) (.len (.V 0)))) (.at (.V 0) (.N 4) 0) (.N 0))], [(.cond (.lt (.N 5) (.mn (.N 13) (.len (.V 0)))) (.at (.V 0) (.N 5) 0) (.N 0))], [(.cond (.lt (.N 6) (.mn (.N 13) (.len (.V 0)))) (.at (.V 0) (.N 6) 0) (.N 0))], [(.cond (.lt (.N 7) (.mn (.N 13) (.len (.V 0)))) (.at (.V 0) (.N 7) 0) (.N 0))], [(.cond (.lt (.N 8) (.mn (.N 13) (.len (.V 0)))) (.at (.V 0) (.N 8) 0) (.N 0))], [(.cond (.lt (.N 9) (.mn (.N 13) (.len (.V 0)))) (.at (.V 0) (.N 9) 0) (.N 0))], [(.cond (.lt (.N 10) (.mn (.N 13) (.len (.V 0)))) (.at (.V 0) (.N 10) 0) (.N 0))], [(.cond (.lt (.N 11) (.mn (.N 13) (.len (.V 0)))) (.at (.V 0) (.N 11) 0) (.N 0))], [(.at (.V 0) (.N 0) 0)]]) (.wr .i64 (.quo (.V 1) (.N 300))) 0))) (.wr .i64 (.mul (.rem (.V 1) (.N 300)) (.at (.rows [[(.cond (.lt (.N 0) (.mn (.N 13) (.len (.V 0)))) (.at (.V 0) (.N 0) 0) (.N 0))], [(.cond (.lt (.N 1) (.mn (.N 13) (.len (.V 0)))) (.at (.V 0) (.N 1) 0) (.N 0))], [(.cond (.lt (.N 2) (.mn (.N 13) (.len (.V 0)))) (.at (.V 0) (.N 2) 0) (.N 0))], [(.cond (.lt (.N 3) (.mn (.N 13) (.len (.V 0)))) (.at (.V 0) (.N 3) 0) (.N 0))], [(.cond (.lt (.N 4) (.mn (.N 13) (.len (.V 0)))) (.at (.V 0) (.N 4) 0) (.N 0))], [(.cond (.lt (.N 5) (.mn (.N 13) (.len (.V 0)))) (.at (.V 0) (.N 5) 0) (.N 0))], [(.cond (.lt (.N 6) (.mn (.N 13) (.len (.V 0)))) (.at (.V 0) (.N 6) 0) (.N 0))], [(.cond (.lt (.N 7) (.mn (.N 13) (.len (.V 0)))) (.at (.V 0) (.N 7) 0) (.N 0))], [(.cond (.lt (.N 8) (.mn (.N 13) (.len (.V 0)))) (.at (.V 0) (.N 8) 0) (.N 0))], [(.cond (.lt (.N 9) (.mn (.N 13) (.len (.V 0)))) (.at (.V 0) (.N 9) 0) (.N 0))], [(.cond (.lt (.N 10) (.mn (.N 13) (.len (.V 0)))) (.at (.V 0) (.N 10) 0) (.N 0))], [(.cond (.lt (.N 11) (.mn (.N 13) (.len (.V 0)))) (.at (.V 0) (.N 11) 0) (.N 0))], [(.at (.V 0) (.N 0) 0)]]) (.wr .i64 (.add (.wr .i64 (.quo (.V 1) (.N 300))) (.N 1))) 0))))) (.N 300)) (.N 1)), (.add (.rem (.wr .i64 (.add (.wr .i64 (.mul (.sub (.N 300) (.rem (.V 1) (.N 300))) (.at (.rows [[(.cond (.lt (.N 0) (.mn (.N 13) (.len (.V 0)))) (.at (.V 0) (.N 0) 0) (.N 0))], [(.cond (.lt (.N 1) (.mn (.N 13) (.len (.V 0)))) (.at (.V 0) (.N 1) 0) (.N 0))], [(.cond (.lt (.N 2) (.mn (.N 13) (.len (.V 0)))) (.at (.V 0) (.N 2) 0) (.N 0))], [(.cond (.lt (.N 3) (.mn (.N 13) (.len (.V 0)))) (.at (.V 0) (.N 3) 0) (.N 0))], [(.cond (.lt (.N 4) (.mn (.N 13) (.len (.V 0)))) (.at (.V 0) (.N 4) 0) (.N 0))], [(.cond (.lt (.N 5) (.mn (.N 13) (.len (.V 0)))) (.at (.V 0) (.N 5) 0) (.N 0))], [(.cond (.lt (.N 6) (.mn (.N 13) (.len (.V 0)))) (.at (.V 0) (.N 6) 0) (.N 0))], [(.cond (.lt (.N 7) (.mn (.N 13) (.len (.V 0)))) (.at (.V 0) (.N 7) 0) (.N 0))], [(.cond (.lt (.N 8) (.mn (.N 13) (.len (.V 0)))) (.at (.V 0) (.N 8) 0) (.N 0))], [(.cond (.lt (.N 9) (.mn (.N 13) (.len (.V 0)))) (.at (.V 0) (.N 9) 0) (.N 0))], [(.cond (.lt (.N 10) (.mn (.N 13) (.len (.V 0)))) (.at (.V 0) (.N 10) 0) (.N 0))], [(.cond (.lt (.N 11) (.mn (.N 13) (.len (.V 0)))) (.at (.V 0) (.N 11) 0) (.N 0))], [(.at (.V 0) (.N 0) 0)]]) (.wr .i64 (.quo (.V 1) (.N 300))) 0))) (.wr .i64 (.mul (.rem (.V 1) (.N 300)) (.at (.rows [[(.cond (.lt (.N 0) (.mn (.N 13) (.len (.V 0)))) (.at (.V 0) (.N 0) 0) (.N 0))], [(.cond (.lt (.N 1) (.mn (.N 13) (.len (.V 0)))) (.at (.V 0) (.N 1) 0) (.N 0))], [(.cond (.lt (.N 2) (.mn (.N 13) (.len (.V 0)))) (.at (.V 0) (.N 2) 0) (.N 0))], [(.cond (.lt (.N 3) (.mn (.N 13) (.len (.V 0)))) (.at (.V 0) (.N 3) 0) (.N 0))], [(.cond (.lt (.N 4) (.mn (.N 13) (.len (.V 0)))) (.at (.V 0) (.N 4) 0) (.N 0))], [(.cond (.lt (.N 5) (.mn (.N 13) (.len (.V 0)))) (.at (.V 0) (.N 5) 0) (.N 0))], [(.cond (.lt (.N 6) (.mn (.N 13) (.len (.V 0)))) (.at (.V 0) (.N 6) 0) (.N 0))], [(.cond (.lt (.N 7) (.mn (.N 13) (.len (.V 0)))) (.at (.V 0) (.N 7) 0) (.N 0))], [(.cond (.lt (.N 8) (.mn (.N 13) (.len (.V 0)))) (.at (.V 0) (.N 8) 0) (.N 0))], [(.cond (.lt (.N 9) (.mn (.N 13) (.len (.V 0)))) (.at (.V 0) (.N 9) 0) (.N 0))], [(.cond (.lt (.N 10) (.mn (.N 13) (.len (.V 0)))) (.at (.V 0) (.N 10) 0) (.N 0))], [(.cond (.lt (.N 11) (.mn (.N 13) (.len (.V 0)))) (.at (.V 0) (.N 11) 0) (.N 0))], [(.at (.V 0) (.N 0) 0)]]) (.wr .i64 (.add (.wr .i64 (.quo (.V 1) (.N 300))) (.N 1))) 0))))) (.N 300)) (.N 300))])
           (.ret [(.quo (.wr .i64 (.add (.wr .i64 (.mul (.sub (.N 300) (.rem (.V 1) (.N 300))) (.at (.rows [[(.cond (.lt (.N 0) (.mn (.N 13) (.len (.V 0)))) (.at (.V 0) (.N 0) 0) (.N 0))], [(.cond (.lt (.N 1) (.mn (.N 13) (.len (.V 0)))) (.at (.V 0) (.N 1) 0) (.N 0))], [(.cond (.lt (.N 2) (.mn (.N 13) (.len (.V 0)))) (.at (.V 0) (.N 2) 0) (.N 0))], [(.cond (.lt (.N 3) (.mn (.N 13) (.len (.V 0)))) (.at (.V 0) (.N 3) 0) (.N 0))], [(.cond (.lt (.N 4) (.mn (.N 13) (.len (.V 0)))) (.at (.V 0) (.N 4) 0) (.N 0))], [(.cond (.lt (.N 5) (.mn (.N 13) (.len (.V 0)))) (.at (.V 0) (.N 5) 0) (.N 0))], [(.cond (.lt (.N 6) (.mn (.N 13) (.len (.V 0)))) (.at (.V 0) (.N 6) 0) (.N 0))], [(.cond (.lt (.N 7) (.mn (.N 13) (.len (.V 0)))) (.at (.V 0) (.N 7) 0) (.N 0))], [(.cond (.lt (.N 8) (.mn (.N 13) (.len (.V 0)))) (.at (.V 0) (.N 8) 0) (.N 0))], [(.cond (.lt (.N 9) (.mn (.N 13) (.len (.V 0)))) (.at (.V 0) (.N 9) 0) (.N 0))], [(.cond (.lt (.N 10) (.mn (.N 13) (.len (.V 0)))) (.at (.V 0) (.N 10) 0) (.N 0))], [(.cond (.lt (.N 11) (.mn (.N 13) (.len (.V 0)))) (.at (.V 0) (.N 11) 0) (.N 0))], [(.at (.V 0) (.N 0) 0)]]) (.wr .i64 (.quo (.V 1) (.N 300))) 0))) (.wr .i64 (.mul (.rem (.V 1) (.N 300)) (.at (.rows [[(.cond (.lt (.N 0) (.mn (.N 13) (.len (.V 0)))) (.at (.V 0) (.N 0) 0) (.N 0))], [(.cond (.lt (.N 1) (.mn (.N 13) (.len (.V 0)))) (.at (.V 0) (.N 1) 0) (.N 0))], [(.cond (.lt (.N 2) (.mn (.N 13) (.len (.V 0)))) (.at (.V 0) (.N 2) 0) (.N 0))], [(.cond (.lt (.N 3) (.mn (.N 13) (.len (.V 0)))) (.at (.V 0) (.N 3) 0) (.N 0))], [(.cond (.lt (.N 4) (.mn (.N 13) (.len (.V 0)))) (.at (.V 0) (.N 4) 0) (.N 0))], [(.cond (.lt (.N 5) (.mn (.N 13) (.len (.V 0)))) (.at (.V 0) (.N 5) 0) (.N 0))], [(.cond (.lt (.N 6) (.mn (.N 13) (.len (.V 0)))) (.at (.V 0) (.N 6) 0) (.N 0))], [(.cond (.lt (.N 7) (.mn (.N 13) (.len (.V 0)))) (.at (.V 0) (.N 7) 0) (.N 0))], [(.cond (.lt (.N 8) (.mn (.N 13) (.len (.V 0)))) (.at (.V 0) (.N 8) 0) (.N 0))], [(.cond (.lt (.N 9) (.mn (.N 13) (.len (.V 0)))) (.at (.V 0) (.N 9) 0) (.N 0))], [(.cond (.lt (.N 10) (.mn (.N 13) (.len (.V 0)))) (.at (.V 0) (.N 10) 0) (.N 0))], [(.cond (.lt (.N 11) (.mn (.N 13) (.len (.V 0)))) (.at (.V 0) (.N 11) 0) (.N 0))], [(.at (.V 0) (.N 0) 0)]]) (.wr .i64 (.add (.wr .i64 (.quo (.V 1) (.N 300))) (.N 1))) 0))))) (.N 300)), (.rem (.wr .i64 (.add (.wr .i64 (.mul (.sub (.N 300) (.rem (.V 1) (.N 300))) (.at (.rows [[(.cond (.lt (.N 0) (.mn (.N 13) (.len (.V 0)))) (.at (.V 0) (.N 0) 0) (.N 0))], [(.cond (.lt (.N 1) (.mn (.N 13) (.len (.V 0)))) (.at (.V 0) (.N 1) 0) (.N 0))], [(.cond (.lt (.N 2) (.mn (.N 13) (.len (.V 0)))) (.at (.V 0) (.N 2) 0) (.N 0))], [(.cond (.lt (.N 3) (.mn (.N 13) (.len (.V 0)))) (.at (.V 0) (.N 3) 0) (.N 0))], [(.cond (.lt (.N 4) (.mn (.N 13) (.len (.V 0)))) (.at (.V 0) (.N 4) 0) (.N 0))], [(.cond (.lt (.N 5) (.mn (.N 13) (.len (.V 0)))) (.at (.V 0) (.N 5) 0) (.N 0))], [(.cond (.lt (.N 6) (.mn (.N 13) (.len (.V 0)))) (.at (.V 0) (.N 6) 0) (.N 0))], [(.cond (.lt (.N 7) (.mn (.N 13) (.len (.V 0)))) (.at (.V 0) (.N 7) 0) (.N 0))], [(.cond (.lt (.N 8) (.mn (.N 13) (.len (.V 0)))) (.at (.V 0) (.N 8) 0) (.N 0))], [(.cond (.lt (.N 9) (.mn (.N 13) (.len (.V 0)))) (.at (.V 0) (.N 9) 0) (.N 0))], [(.cond (.lt (.N 10) (.mn (.N 13) (.len (.V 0)))) (.at (.V 0) (.N 10) 0) (.N 0))], [(.cond (.lt (.N 11) (.mn (.N 13) (.len (.V 0)))) (.at (.V 0) (.N 11) 0) (.N 0))], [(.at (.V 0) (.N 0) 0)]]) (.wr .i64 (.quo (.V 1) (.N 300))) 0))) (.wr .i64 (.mul (.rem (.V 1) (.N 300)) (.at (.rows [[(.cond (.lt (.N 0) (.mn (.N 13) (.len (.V 0)))) (.at (.V 0) (.N 0) 0) (.N 0))], [(.cond (.lt (.N 1) (.mn (.N 13) (.len (.V 0)))) (.at (.V 0) (.N 1) 0) (.N 0))], [(.cond (.lt (.N 2) (.mn (.N 13) (.len (.V 0)))) (.at (.V 0) (.N 2) 0) (.N 0))], [(.cond (.lt (.N 3) (.mn (.N 13) (.len (.V 0)))) (.at (.V 0) (.N 3) 0) (.N 0))], [(.cond (.lt (.N 4) (.mn (.N 13) (.len (.V 0)))) (.at (.V 0) (.N 4) 0) (.N 0))], [(.cond (.lt (.N 5) (.mn (.N 13) (.len (.V 0)))) (.at (.V 0) (.N 5) 0) (.N 0))], [(.cond (.lt (.N 6) (.mn (.N 13) (.len (.V 0)))) (.at (.V 0) (.N 6) 0) (.N 0))], [(.cond (.lt (.N 7) (.mn (.N 13) (.len (.V 0)))) (.at (.V 0) (.N 7) 0) (.N 0))], [(.cond (.lt (.N 8) (.mn (.N 13) (.len (.V 0)))) (.at (.V 0) (.N 8) 0) (.N 0))], [(.cond (.lt (.N 9) (.mn (.N 13) (.len (.V 0)))) (.at (.V 0) (.N 9) 0) (.N 0))], [(.cond (.lt (.N 10) (.mn (.N 13) (.len (.V 0)))) (.at (.V 0) (.N 10) 0) (.N 0))], [(.cond (.lt (.N 11) (.mn (.N 13) (.len (.V 0)))) (.at (.V 0) (.N 11) 0) (.N 0))], [(.at (.V 0) (.N 0) 0)]]) (.wr .i64 (.add (.wr .i64 (.quo (.V 1) (.N 300))) (.N 1))) 0))))) (.N 300))])) 2
          (.sub (.ite (.lt (.mul (.N 2) (.V 5)) (.N 300))
            (.ret [(.V 4)])
            (.ret [(.add (.V 4) (.N 1))])) 1
           (.ret [(.V 6), (.N 0)]))))) 2
       (.ret [(.V 3)])))))))
set_option maxRecDepth 100000 in
theorem wFactor_t : runS Try.prog [wFactors_K.to []] [] wFactor_K = wFactor_T := by kernel_rfl
def wLoad_K : Con := ⟨82, [.val true [.sl [.int .i64], .sl [.int .i64], .sl [.int .i64]], .val true [.int .i64, .int .i64], .val false [.int .i64]], [.val true [.int .i64, .int .i64, .int .i64]], []⟩
def wLoad_T : T (List X) :=
  (.sub (.sub (.call 142 [(.V 0)] 1
    (.ite (.V 6)
     (.call 142 [(.V 1)] 1
      (.ite (.V 7)
       (.call 142 [(.V 2)] 1
        (.ret [(.V 8)]))
       (.ret [(.B false)])))
     (.ret [(.B false)]))) 1
   (.ite (.V 6)
    (.sub (.sub (.ite (.lt (.V 3) (.N 0))
       (.ret [(.B false)])
       (.ret [(.not (.lt (.N 3599) (.V 3)))])) 1
      (.ite (.V 7)
       (.sub (.ite (.lt (.V 4) (.N 0))
         (.ret [(.B false)])
         (.ret [(.not (.lt (.N 10000) (.V 4)))])) 1
        (.ret [(.V 8)]))
       (.ret [(.B false)]))) 1
     (.ite (.V 7)
      (.sub (.ite (.lt (.V 5) (.N 0))
        (.ret [(.B false)])
        (.ret [(.not (.lt (.N 3599) (.V 5)))])) 1
       (.ret [(.not (.V 8))]))
      (.ret [(.B true)])))
    (.ret [(.B true)]))) 1
  (.ite (.V 6)
   (.ret [(.N 0), (.N 0), (.N 0)])
   (.sub (.ite (.lt (.rem (.wr .i64 (.sub (.V 3) (.V 5))) (.N 3600)) (.N 0))
     (.ret [(.add (.rem (.wr .i64 (.sub (.V 3) (.V 5))) (.N 3600)) (.N 3600))])
     (.ret [(.rem (.wr .i64 (.sub (.V 3) (.V 5))) (.N 3600))])) 1
    (.call 85 [(.V 0), (.V 7)] 1
     (.sub (.sub (.ite (.lt (.wr .i64 (.mul (.wr .i64 (.mul (.V 8) (.V 4))) (.V 4))) (.N (-1000000000000000000)))
        (.ret [(.B true)])
        (.ite (.lt (.N 1000000000000000000) (.wr .i64 (.mul (.wr .i64 (.mul (.V 8) (.V 4))) (.V 4))))
         (.ret [(.B true)])
         (.ret [(.B false)]))) 1
       (.ite (.V 9)
        (.ret [(.N 0), (.N 1)])
        (.sub (.ite (.lt (.rem (.wr .i64 (.mul (.wr .i64 (.mul (.V 8) (.V 4))) (.V 4))) (.N 1000000)) (.N 0))
          (.ret [(.sub (.quo (.wr .i64 (.mul (.wr .i64 (.mul (.V 8) (.V 4))) (.V 4))) (.N 1000000)) (.N 1)), (.add (.rem (.wr .i64 (.mul (.wr .i64 (.mul (.V 8) (.V 4))) (.V 4))) (.N 1000000)) (.N 1000000))])
          (.ret [(.quo (.wr .i64 (.mul (.wr .i64 (.mul (.V 8) (.V 4))) (.V 4))) (.N 1000000)), (.rem (.wr .i64 (.mul (.wr .i64 (.mul (.V 8) (.V 4))) (.V 4))) (.N 1000000))])) 2
         (.sub (.ite (.lt (.mul (.N 2) (.V 11)) (.N 1000000))
           (.ret [(.V 10)])
           (.ret [(.add (.V 10) (.N 1))])) 1
          (.ret [(.V 12), (.N 0)]))))) 2
      (.call 85 [(.V 1), (.V 7)] 1
       (.sub (.sub (.ite (.lt (.wr .i64 (.mul (.wr .i64 (.mul (.V 11) (.V 4))) (.V 4))) (.N (-1000000000000000000)))
          (.ret [(.B true)])
          (.ite (.lt (.N 1000000000000000000) (.wr .i64 (.mul (.wr .i64 (.mul (.V 11) (.V 4))) (.V 4))))
           (.ret [(.B true)])
           (.ret [(.B false)]))) 1
         (.ite (.V 12)
          (.ret [(.N 0), (.N 1)])
          (.sub (.ite (.lt (.rem (.wr .i64 (.mul (.wr .i64 (.mul (.V 11) (.V 4))) (.V 4))) (.N 1000000)) (.N 0))
            (.ret [(.sub (.quo (.wr .i64 (.mul (.wr .i64 (.mul (.V 11) (.V 4))) (.V 4))) (.N 1000000)) (.N 1)), (.add (.rem (.wr .i64 (.mul (.wr .i64 (.mul (.V 11) (.V 4))) (.V 4))) (.N 1000000)) (.N 1000000))])
            (.ret [(.quo (.wr .i64 (.mul (.wr .i64 (.mul (.V 11) (.V 4))) (.V 4))) (.N 1000000)), (.rem (.wr .i64 (.mul (.wr .i64 (.mul (.V 11) (.V 4))) (.V 4))) (.N 1000000))])) 2
           (.sub (.ite (.lt (.mul (.N 2) (.V 14)) (.N 1000000))
             (.ret [(.V 13)])
             (.ret [(.add (.V 13) (.N 1))])) 1
            (.ret [(.V 15), (.N 0)]))))) 2
        (.call 85 [(.V 2), (.V 7)] 1
         (.sub (.sub (.ite (.lt (.wr .i64 (.mul (.wr .i64 (.mul (.V 14) (.V 4))) (.V 4))) (.N (-1000000000000000000)))
            (.ret [(.B true)])
            (.ite (.lt (.N 1000000000000000000) (.wr .i64 (.mul (.wr .i64 (.mul (.V 14) (.V 4))) (.V 4))))
             (.ret [(.B true)])
             (.ret [(.B false)]))) 1
           (.ite (.V 15)
            (.ret [(.N 0), (.N 1)])
            (.sub (.ite (.lt (.rem (.wr .i64 (.mul (.wr .i64 (.mul (.V 14) (.V 4))) (.V 4))) (.N 1000000)) (.N 0))
              (.ret [(.sub (.quo (.wr .i64 (.mul (.wr .i64 (.mul (.V 14) (.V 4))) (.V 4))) (.N 1000000)) (.N 1)), (.add (.rem (.wr .i64 (.mul (.wr .i64 (.mul (.V 14) (.V 4))) (.V 4))) (.N 1000000)) (.N 1000000))])
              (.ret [(.quo (.wr .i64 (.mul (.wr .i64 (.mul (.V 14) (.V 4))) (.V 4))) (.N 1000000)), (.rem (.wr .i64 (.mul (.wr .i64 (.mul (.V 14) (.V 4))) (.V 4))) (.N 1000000))])) 2
             (.sub (.ite (.lt (.mul (.N 2) (.V 17)) (.N 1000000))
               (.ret [(.V 16)])
               (.ret [(.add (.V 16) (.N 1))])) 1
              (.ret [(.V 18), (.N 0)]))))) 2
          (.ret [(.V 9), (.V 12), (.V 15)]))))))))))
set_option maxRecDepth 100000 in
theorem wLoad_t : runS Try.prog [wFactors_K.to [], wFactor_K.to []] [] wLoad_K = wLoad_T := by kernel_rfl
def wTotal_K : Con := ⟨78, [.val true [.sl [.int .i64], .sl [.int .i64], .sl [.int .i64], .sl [.int .i64], .sl [.int .i64], .sl [.int .i64], .sl [.int .i64], .sl [.int .i64], .sl [.int .i64], .int .i64, .int .i64, .int .i64, .int .i64], .val true [.int .i64, .int .i64, .int .i64, .int .i64, .int .i64, .int .i64], .val false [.int .i64]], [.val true [.int .i64, .int .i64, .int .i64], .val false [.int .i64]], []⟩
def wTotal_T : T (List X) :=
  (.call 75 [(.V 0), (.V 1), (.V 2), (.V 3), (.V 4), (.V 5), (.V 6), (.V 7), (.V 8), (.V 9), (.V 10), (.V 11), (.V 12)] 1
  (.ite (.eq (.V 20) (.N 0))
   (.sub (.sub (.sub (.sub (.ite (.lt (.V 13) (.N 0))
        (.ret [(.B false)])
        (.ret [(.not (.lt (.N 3599) (.V 13)))])) 1
       (.ite (.V 21)
        (.sub (.ite (.lt (.V 14) (.N 0))
          (.ret [(.B false)])
          (.ret [(.not (.lt (.N 10000) (.V 14)))])) 1
         (.ret [(.V 22)]))
        (.ret [(.B false)]))) 1
      (.ite (.V 21)
       (.sub (.sub (.ite (.lt (.V 15) (.N 0))
          (.ret [(.B false)])
          (.ret [(.not (.lt (.N 3599) (.V 15)))])) 1
         (.ite (.V 22)
          (.sub (.ite (.lt (.V 16) (.N 0))
            (.ret [(.B false)])
            (.ret [(.not (.lt (.N 10000) (.V 16)))])) 1
           (.ret [(.V 23)]))
          (.ret [(.B false)]))) 1
        (.ite (.V 22)
         (.sub (.sub (.ite (.lt (.V 17) (.N 0))
            (.ret [(.B false)])
            (.ret [(.not (.lt (.N 3599) (.V 17)))])) 1
           (.ite (.V 23)
            (.sub (.ite (.lt (.V 18) (.N 0))
              (.ret [(.B false)])
              (.ret [(.not (.lt (.N 10000) (.V 18)))])) 1
             (.ret [(.V 24)]))
            (.ret [(.B false)]))) 1
          (.ret [(.V 23)]))
         (.ret [(.B false)])))
       (.ret [(.B false)]))) 1
     (.ite (.V 21)
      (.sub (.ite (.lt (.V 19) (.N 0))
        (.ret [(.B false)])
        (.ret [(.not (.lt (.N 3599) (.V 19)))])) 1
       (.ret [(.not (.V 22))]))
      (.ret [(.B true)]))) 1
    (.ite (.V 21)
     (.ret [(.N 0), (.N 0), (.N 0), (.N 1)])
     (.call 82 [(.V 0), (.V 1), (.V 2), (.V 13), (.V 14), (.V 19)] 3
      (.call 82 [(.V 3), (.V 4), (.V 5), (.V 15), (.V 16), (.V 19)] 3
       (.call 82 [(.V 6), (.V 7), (.V 8), (.V 17), (.V 18), (.V 19)] 3
        (.ret [(.wr .i64 (.add (.wr .i64 (.add (.V 22) (.V 25))) (.V 28))), (.wr .i64 (.add (.wr .i64 (.add (.V 23) (.V 26))) (.V 29))), (.wr .i64 (.add (.wr .i64 (.add (.V 24) (.V 27))) (.V 30))), (.N 0)]))))))
   (.ret [(.N 0), (.N 0), (.N 0), (.V 20)])))
set_option maxRecDepth 100000 in
theorem wTotal_t : runS Try.prog [wCheck_K.to [], wLoad_K.to []] [] wTotal_K = wTotal_T := by kernel_rfl
def srcFlow_K : Con := ⟨130, [.ptr [.sl [.int .i64], .int .i64]], [.val true [.int .i64, .int .i64]], []⟩
def srcFlow_T : T (List X) :=
  (.call 10 [(.V 0), (.V 1), (.N 9)] 3
  (.need (.and (.not (.lt (.V 2) (.N 0))) (.lt (.V 2) (.N 9)))
   (.call 10 [(.V 3), (.V 4), (.N 6)] 3
    (.need (.and (.not (.lt (.V 5) (.N 0))) (.lt (.V 5) (.N 6)))
     (.ret [(.at (.rows [[(.N 0)], [(.N 1)], [(.N 299)], [(.N 300)], [(.N 450)], [(.N 900)], [(.N 1800)], [(.N 2701)], [(.N 3599)]]) (.V 2) 0), (.at (.rows [[(.N 0)], [(.N 0)], [(.N 50)], [(.N 100)], [(.N 200)], [(.N 1000)]]) (.V 5) 0), (.V 6), (.V 7)])))))
set_option maxRecDepth 100000 in
theorem srcFlow_t : runS Try.prog [srcN_K.to []] [] srcFlow_K = srcFlow_T := by kernel_rfl
def srcWeather_K : Con := ⟨73, [.ptr [.sl [.int .i64], .int .i64]], [.val true [.int .i64, .int .i64, .int .i64, .int .i64, .int .i64, .int .i64]], []⟩
def srcWeather_T : T (List X) :=
  (.call 130 [(.V 0), (.V 1)] 4
  (.call 130 [(.V 4), (.V 5)] 4
   (.call 130 [(.V 8), (.V 9)] 4
    (.ret [(.V 2), (.V 3), (.V 6), (.V 7), (.V 10), (.V 11), (.V 12), (.V 13)]))))
set_option maxRecDepth 100000 in
theorem srcWeather_t : runS Try.prog [srcFlow_K.to []] [] srcWeather_K = srcWeather_T := by kernel_rfl
def sane22_K : Con := ⟨71, [], [.val false [.bool]], []⟩
def sane22_T : T (List X) :=
  (.sub (.call 85 [(.put (.rows [[(.N 0)], [(.N 0)], [(.N 0)], [(.N 0)], [(.N 0)], [(.N 0)], [(.N 0)], [(.N 0)], [(.N 0)], [(.N 0)], [(.N 0)], [(.N 0)]]) (.N 1) 0 (.N 300)), (.N 150)] 1
   (.ite (.eq (.V 0) (.N 150))
    (.call 85 [(.put (.rows [[(.N 0)], [(.N 0)], [(.N 0)], [(.N 0)], [(.N 0)], [(.N 0)], [(.N 0)], [(.N 0)], [(.N 0)], [(.N 0)], [(.N 0)], [(.N 0)]]) (.N 1) 0 (.N 300)), (.N 450)] 1
     (.ite (.eq (.V 1) (.N 150))
      (.call 82 [(.put (.rows [[(.N 0)], [(.N 0)], [(.N 0)], [(.N 0)], [(.N 0)], [(.N 0)], [(.N 0)], [(.N 0)], [(.N 0)], [(.N 0)], [(.N 0)], [(.N 0)]]) (.N 1) 0 (.N 300)), (.rows [[(.N 0)], [(.N 0)], [(.N 0)], [(.N 0)], [(.N 0)], [(.N 0)], [(.N 0)], [(.N 0)], [(.N 0)], [(.N 0)], [(.N 0)], [(.N 0)]]), (.rows [[(.N 0)], [(.N 0)], [(.N 0)], [(.N 0)], [(.N 0)], [(.N 0)], [(.N 0)], [(.N 0)], [(.N 0)], [(.N 0)], [(.N 0)], [(.N 0)]]), (.N 150), (.N 1000), (.N 0)] 3
       (.ite (.and (.eq (.V 2) (.N 150)) (.and (.eq (.V 3) (.N 0)) (.eq (.V 4) (.N 0))))
        (.call 82 [(.put (.rows [[(.N 0)], [(.N 0)], [(.N 0)], [(.N 0)], [(.N 0)], [(.N 0)], [(.N 0)], [(.N 0)], [(.N 0)], [(.N 0)], [(.N 0)], [(.N 0)]]) (.N 1) 0 (.N 300)), (.rows [[(.N 0)], [(.N 0)], [(.N 0)], [(.N 0)], [(.N 0)], [(.N 0)], [(.N 0)], [(.N 0)], [(.N 0)], [(.N 0)], [(.N 0)], [(.N 0)]]), (.rows [[(.N 0)], [(.N 0)], [(.N 0)], [(.N 0)], [(.N 0)], [(.N 0)], [(.N 0)], [(.N 0)], [(.N 0)], [(.N 0)], [(.N 0)], [(.N 0)]]), (.N 0), (.N 1000), (.N 3300)] 3
         (.ret [(.and (.eq (.V 5) (.N 300)) (.and (.eq (.V 6) (.N 0)) (.eq (.V 7) (.N 0))))]))
        (.ret [(.B false)])))
      (.ret [(.B false)])))
    (.ret [(.B false)]))) 1
  (.ret [(.V 0)]))
set_option maxRecDepth 100000 in
theorem sane22_t : runS Try.prog [wFactor_K.to [], wLoad_K.to []] [] sane22_K = sane22_T := by kernel_rfl
end Go.Proofs.Ytdkamfkpmplaoaa
