/- Fixes that are merged, in full: the reference's. -/
import Derived.Test.YtlhnhidoljfnnaaFuZ
set_option linter.unusedVariables false
set_option linter.unusedSimpArgs false
namespace Go.Proofs.Ytlhnhidoljfnnaa
open Go.RowKit Fx Sh
def rWei_K : Con := ⟨46, [.val false [.int .i64]], [.val false [.int .i64]], []⟩
def rWei_T : T (List X) :=
  (.sub (.ite (.lt (.V 0) (.N 1))
   (.ret [(.B true)])
   (.ret [(.lt (.N 100000) (.V 0))])) 1
  (.ite (.V 1)
   (.ret [(.N 0)])
   (.need (.not (.eq (.wr .i64 (.mul (.V 0) (.V 0))) (.N 0)))
    (.ret [(.mx (.N 1) (.wr .i64 (.quo (.N 1000000000) (.wr .i64 (.mul (.V 0) (.V 0))))))]))))
set_option maxRecDepth 100000 in
theorem rWei_t : runS Try.prog [] [] rWei_K = rWei_T := by kernel_rfl
def rUp09_K : Con := ⟨84, [.val false [.int .i64], .val false [.int .i64]], [.val false [.int .i64], .val false [.int .i64]], []⟩
def rUp09_T : T (List X) :=
  (.sub (.sub (.ite (.lt (.V 0) (.N (-1000000000000000000)))
    (.ret [(.B false)])
    (.ret [(.not (.lt (.N 1000000000000000000) (.V 0)))])) 1
   (.ite (.V 2)
    (.ite (.lt (.V 1) (.N 1))
     (.ret [(.B false)])
     (.ret [(.not (.lt (.N 1000000000) (.V 1)))]))
    (.ret [(.B false)]))) 1
  (.ite (.V 2)
   (.need (.not (.eq (.V 1) (.N 0)))
    (.sub (.ite (.lt (.rem (.wr .i64 (.sub (.N 0) (.V 0))) (.V 1)) (.N 0))
      (.ret [(.wr .i64 (.sub (.wr .i64 (.quo (.wr .i64 (.sub (.N 0) (.V 0))) (.V 1))) (.N 1)))])
      (.ret [(.wr .i64 (.quo (.wr .i64 (.sub (.N 0) (.V 0))) (.V 1)))])) 1
     (.ret [(.wr .i64 (.sub (.N 0) (.V 3))), (.N 0)])))
   (.ret [(.N 0), (.N 1)])))
set_option maxRecDepth 100000 in
theorem rUp09_t : runS Try.prog [] [] rUp09_K = rUp09_T := by kernel_rfl
def rBox09_K : Con := ⟨85, [.val true [.int .i64, .int .i64], .val true [.int .i64, .int .i64]], [.val false [.int .i64], .val false [.int .i64]], []⟩
def rBox09_T : T (List X) :=
  (.sub (.sub (.ite (.lt (.V 0) (.N (-100000000)))
    (.ret [(.B false)])
    (.ite (.lt (.N 100000000) (.V 0))
     (.ret [(.B false)])
     (.ite (.lt (.V 1) (.N (-100000000)))
      (.ret [(.B false)])
      (.ret [(.not (.lt (.N 100000000) (.V 1)))])))) 1
   (.ite (.V 4)
    (.sub (.ite (.lt (.V 2) (.N (-100000000)))
      (.ret [(.B false)])
      (.ite (.lt (.N 100000000) (.V 2))
       (.ret [(.B false)])
       (.ite (.lt (.V 3) (.N (-100000000)))
        (.ret [(.B false)])
        (.ret [(.not (.lt (.N 100000000) (.V 3)))])))) 1
     (.ret [(.not (.V 5))]))
    (.ret [(.B true)]))) 1
  (.ite (.V 4)
   (.ret [(.N 0), (.N 1)])
   (.sub (.ite (.lt (.wr .i64 (.sub (.V 0) (.V 2))) (.N 0))
     (.ret [(.wr .i64 (.sub (.N 0) (.wr .i64 (.sub (.V 0) (.V 2)))))])
     (.ret [(.wr .i64 (.sub (.V 0) (.V 2)))])) 1
    (.sub (.ite (.lt (.wr .i64 (.sub (.V 1) (.V 3))) (.N 0))
      (.ret [(.wr .i64 (.sub (.N 0) (.wr .i64 (.sub (.V 1) (.V 3)))))])
      (.ret [(.wr .i64 (.sub (.V 1) (.V 3)))])) 1
     (.ret [(.mx (.V 5) (.V 6)), (.N 0)])))))
set_option maxRecDepth 100000 in
theorem rBox09_t : runS Try.prog [] [] rBox09_K = rBox09_T := by kernel_rfl
def rChk09_H : List Hint := [
  ⟨2147481620, 1, [], ⟨[.und, .und, .int .i64 (.N 0), .und, .und, .und, .und, .und, .und, .und, .und, .var 0, .int .i64 (.len (.V 0)), .int .i64 (.V 1), .und, .und, .und, .und, .und, .und, .und, .und, .und, .und, .und, .und, .und, .und, .und, .und, .und], [], 2, 1, [none, none], [], [⟨0, [.int .i64, .int .i64, .int .i64, .int .i64], (.V 0)⟩]⟩⟩]
def rChk09_K : Con := ⟨83, [.val false [.sl [.int .i64, .int .i64, .int .i64, .int .i64]]], [.val false [.int .i64]], []⟩
def rChk09_T : T (List X) :=
  (.ite (.eq (.len (.V 0)) (.N 0))
  (.ret [(.N 9)])
  (.ite (.lt (.N 8) (.len (.V 0)))
   (.ret [(.N 2)])
   (.loop [(.N 0)]
    (.ite (.lt (.V 1) (.len (.V 0)))
     (.need (.and (.not (.lt (.V 1) (.N 0))) (.lt (.V 1) (.len (.V 0))))
      (.sub (.sub (.ite (.lt (.at (.V 0) (.V 1) 1) (.N (-100000000)))
         (.ret [(.B false)])
         (.ite (.lt (.N 100000000) (.at (.V 0) (.V 1) 1))
          (.ret [(.B false)])
          (.ite (.lt (.at (.V 0) (.V 1) 2) (.N (-100000000)))
           (.ret [(.B false)])
           (.ret [(.not (.lt (.N 100000000) (.at (.V 0) (.V 1) 2)))])))) 1
        (.ite (.V 2)
         (.call 46 [(.at (.V 0) (.V 1) 3)] 1
          (.ret [(.V 2), (.not (.V 2)), (.not (.V 2)), (.eq (.V 3) (.N 0))]))
         (.ret [(.V 2), (.not (.V 2)), (.not (.V 2)), (.B true)]))) 4
       (.ite (.V 5)
        (.ret (false, [(.N 0), (.at (.V 0) (.V 1) 0), (.at (.V 0) (.V 1) 1), (.at (.V 0) (.V 1) 2), (.at (.V 0) (.V 1) 3), (.at (.V 0) (.V 1) 1), (.at (.V 0) (.V 1) 2)]))
        (.ret (true, [(.wr .i64 (.add (.V 1) (.N 1)))])))))
     (.ret (false, [(.N 1), (.N 0), (.N 0), (.N 0), (.N 0), (.N 0), (.N 0)]))) 7
    (.ite (.eq (.V 1) (.N 0))
     (.ret [(.N 1)])
     (.ret [(.N 0)])))))
set_option maxRecDepth 100000 in
theorem rChk09_t : runS Try.prog [rWei_K.to []] [(83, rChk09_H)] rChk09_K = rChk09_T := by kernel_rfl
def rFus09_H : List Hint := [
  ⟨36028792752664413, 2, [], ⟨[.var 0, .und, .ptr 0 0, .int .i64 (.N 0), .int .i64 (.N 0), .und, .int .i64 (.V 2), .und, .und, .und, .und, .und, .und, .und, .und, .und, .und, .und, .und, .und, .und, .und, .und, .und, .und, .und, .und, .und, .und, .und, .und, .und, .var 0, .int .i64 (.len (.V 0)), .int .i64 (.V 3), .und, .und, .und, .und, .und, .und, .und, .und, .und, .und, .und, .und, .und, .und, .und, .und, .und, .und, .und, .und, .und, .und, .und, .und, .und, .und, .und, .und, .und, .und, .und, .und, .und, .und, .und, .und, .und, .und, .und, .und, .und, .und, .und, .und, .und, .und, .und, .und, .und, .und, .und, .und, .und, .und, .und, .und, .und, .und, .und, .und, .und, .und, .und, .und, .und, .und, .und, .und, .und, .und, .und, .und, .und, .und, .und, .und, .und, .und, .und, .und], [.fix [.int .i64 (.N 0), .int .i64 (.N 0)] true], 4, 1, [none, none, none, none], [], [⟨0, [.int .i64, .int .i64, .int .i64, .int .i64], (.V 0)⟩]⟩⟩,
  ⟨36011204861587037, 3, [], ⟨[.var 0, .und, .ptr 0 0, .int .i64 (.N 0), .int .i64 (.N 0), .und, .int .i64 (.V 2), .und, .und, .int .i64 (.V 3), .int .i64 (.V 4), .int .i64 (.V 5), .und, .und, .und, .und, .und, .und, .und, .und, .und, .und, .und, .und, .und, .und, .und, .und, .und, .und, .und, .und, .und, .und, .und, .und, .und, .und, .und, .und, .und, .und, .und, .und, .var 0, .int .i64 (.len (.V 0)), .int .i64 (.V 6), .und, .und, .und, .und, .und, .und, .und, .und, .und, .und, .und, .und, .und, .und, .und, .und, .und, .und, .und, .und, .und, .und, .und, .und, .und, .und, .und, .und, .und, .und, .und, .und, .und, .und, .und, .und, .und, .und, .und, .und, .und, .und, .und, .und, .und, .und, .und, .und, .und, .und, .und, .und, .und, .und, .und, .und, .und, .und, .und, .und, .und, .und, .und, .und, .und, .und, .und, .und], [.fix [.int .i64 (.N 0), .int .i64 (.N 0)] true], 7, 1, [none, none, none, none, none, none, none], [], [⟨0, [.int .i64, .int .i64, .int .i64, .int .i64], (.V 0)⟩]⟩⟩,
  ⟨36028795973533724, 10, [], ⟨[.und, .und, .ptr 0 0, .int .i64 (.N 0), .int .i64 (.N 0), .und, .und, .und, .und, .und, .und, .und, .und, .und, .und, .und, .und, .und, .und, .und, .ptr 1 0, .int .i64 (.V 10), .und, .und, .und, .und, .und, .und, .und, .und, .und, .und, .und, .und, .und, .und, .und, .und, .und, .und, .und, .und, .und, .und, .und, .und, .und, .und, .und, .und, .und, .und, .und, .und, .und, .und, .und, .und, .und, .und, .und, .und, .und, .und, .und, .und, .und, .und, .und, .und, .und, .und, .und, .und, .und, .und, .und, .und, .und, .und, .und, .und, .und, .und, .und, .und, .und, .und, .und, .und, .var 0, .int .i64 (.len (.V 0)), .int .i64 (.V 11), .und, .und, .und, .und, .und, .und, .und, .und, .und, .und, .und, .und, .und, .und, .und, .und, .und, .und, .und, .und, .und, .und], [.fix [.int .i64 (.N 0), .int .i64 (.N 0)] true, .fix [.int .i64 (.V 6), .int .i64 (.V 8)] true], 12, 1, [none, none, none, none, none, none, none, none, none, none, none, none], [], [⟨0, [.int .i64, .int .i64, .int .i64, .int .i64], (.V 0)⟩]⟩⟩]
def rFus09_K : Con := ⟨38, [.val false [.sl [.int .i64, .int .i64, .int .i64, .int .i64]]], [.val true [.int .i64, .int .i64], .val false [.int .i64], .val false [.int .i64]], []⟩
def rFus09_T : T (List X) :=
  (.call 83 [(.V 0)] 1
  (.ite (.eq (.V 1) (.N 0))
   (.loop [(.N 0), (.N 0)]
    (.ite (.lt (.V 3) (.len (.V 0)))
     (.need (.and (.not (.lt (.V 3) (.N 0))) (.lt (.V 3) (.len (.V 0))))
      (.call 46 [(.at (.V 0) (.V 3) 3)] 1
       (.ret (true, [(.mx (.V 2) (.V 4)), (.wr .i64 (.add (.V 3) (.N 1)))]))))
     (.ret (false, [(.V 2)]))) 1
    (.loop [(.N 0), (.N 0), (.N 0), (.N 0)]
     (.ite (.lt (.V 6) (.len (.V 0)))
      (.need (.and (.not (.lt (.V 6) (.N 0))) (.lt (.V 6) (.len (.V 0))))
       (.call 46 [(.at (.V 0) (.V 6) 3)] 1
        (.call 84 [(.wr .i64 (.mul (.N 1000) (.V 7))), (.V 2)] 2
         (.ret (true, [(.wr .i64 (.add (.V 3) (.wr .i64 (.mul (.V 8) (.at (.V 0) (.V 6) 1))))), (.wr .i64 (.add (.V 4) (.wr .i64 (.mul (.V 8) (.at (.V 0) (.V 6) 2))))), (.wr .i64 (.add (.V 5) (.V 8))), (.wr .i64 (.add (.V 6) (.N 1)))])))))
      (.ret (false, [(.V 3), (.V 4), (.V 5)]))) 3
     (.call 47 [(.V 3), (.V 5)] 2
      (.call 47 [(.V 4), (.V 5)] 2
       (.loop [(.N 0), (.N 0)]
        (.ite (.lt (.V 11) (.len (.V 0)))
         (.need (.and (.not (.lt (.V 11) (.N 0))) (.lt (.V 11) (.len (.V 0))))
          (.call 85 [(.V 6), (.V 8), (.at (.V 0) (.V 11) 1), (.at (.V 0) (.V 11) 2)] 2
           (.ret (true, [(.mx (.V 10) (.wr .i64 (.add (.V 12) (.at (.V 0) (.V 11) 3)))), (.wr .i64 (.add (.V 11) (.N 1)))]))))
         (.ret (false, [(.V 10)]))) 1
        (.ret [(.V 6), (.V 8), (.V 10), (.N 0)]))))))
   (.ret [(.N 0), (.N 0), (.N 0), (.V 1)])))
set_option maxRecDepth 100000 in
theorem rFus09_t : runS Try.prog [rChk09_K.to [], rWei_K.to [], rUp09_K.to [], rHlf09_K.to [], rBox09_K.to []] [(38, rFus09_H)] rFus09_K = rFus09_T := by kernel_rfl
def rCom09_H : List Hint := [
  ⟨1152920542534173403, 2, [], ⟨[.und, .und, .ptr 0 0, .ptr 1 0, .bool (.B false), .und, .ptr 3 0, .ptr 4 0, .und, .und, .und, .und, .und, .und, .und, .und, .und, .und, .und, .und, .und, .und, .und, .und, .und, .und, .und, .und, .und, .und, .und, .und, .und, .und, .und, .und, .und, .und, .und, .und, .var 0, .int .i64 (.len (.V 0)), .int .i64 (.V 6), .und, .und, .und, .und, .und, .und, .und, .und, .und, .und, .und, .und, .und, .und, .und, .und, .und, .und, .und, .und, .und, .und, .und, .und, .und, .und, .und, .und, .und, .und, .und, .und, .und, .und, .und, .und, .und, .und, .und, .und, .und, .und, .und, .und, .und, .und, .und, .und, .und, .und, .und, .und, .und, .und], [.fix [.int .i64 (.N 0), .int .i64 (.N 0)] true, .fix [.int .i64 (.N 0), .int .i64 (.N 0)] true, .fix [.int .i64 (.at (.V 0) (.N 0) 0), .int .i64 (.at (.V 0) (.N 0) 1), .int .i64 (.at (.V 0) (.N 0) 2), .int .i64 (.at (.V 0) (.N 0) 3)] true, .fix [.int .i64 (.V 2), .int .i64 (.V 3)] true, .fix [.int .i64 (.V 4), .int .i64 (.V 5)] true], 7, 1, [none, none, none, none, none, none, none], [], [⟨0, [.int .i64, .int .i64, .int .i64, .int .i64], (.V 0)⟩]⟩⟩]
def rCom09_K : Con := ⟨40, [.val false [.sl [.int .i64, .int .i64, .int .i64, .int .i64]]], [.val true [.int .i64, .int .i64], .val true [.int .i64, .int .i64], .val false [.bool]], []⟩
def rCom09_T : T (List X) :=
  (.call 83 [(.V 0)] 1
  (.ite (.eq (.V 1) (.N 0))
   (.need (.lt (.N 0) (.len (.V 0)))
    (.loop [(.wr .i64 (.sub (.at (.V 0) (.N 0) 1) (.at (.V 0) (.N 0) 3))), (.wr .i64 (.sub (.at (.V 0) (.N 0) 2) (.at (.V 0) (.N 0) 3))), (.wr .i64 (.add (.at (.V 0) (.N 0) 1) (.at (.V 0) (.N 0) 3))), (.wr .i64 (.add (.at (.V 0) (.N 0) 2) (.at (.V 0) (.N 0) 3))), (.N 0)]
     (.ite (.lt (.V 6) (.len (.V 0)))
      (.need (.and (.not (.lt (.V 6) (.N 0))) (.lt (.V 6) (.len (.V 0))))
       (.ret (true, [(.mx (.V 2) (.wr .i64 (.sub (.at (.V 0) (.V 6) 1) (.at (.V 0) (.V 6) 3)))), (.mx (.V 3) (.wr .i64 (.sub (.at (.V 0) (.V 6) 2) (.at (.V 0) (.V 6) 3)))), (.mn (.V 4) (.wr .i64 (.add (.at (.V 0) (.V 6) 1) (.at (.V 0) (.V 6) 3)))), (.mn (.V 5) (.wr .i64 (.add (.at (.V 0) (.V 6) 2) (.at (.V 0) (.V 6) 3)))), (.wr .i64 (.add (.V 6) (.N 1)))])))
      (.ret (false, [(.V 2), (.V 3), (.V 4), (.V 5)]))) 4
     (.sub (.ite (.lt (.V 4) (.V 2))
       (.ret [(.B true)])
       (.ret [(.lt (.V 5) (.V 3))])) 1
      (.ite (.V 6)
       (.ret [(.N 0), (.N 0), (.N 0), (.N 0), (.B false)])
       (.ret [(.V 2), (.V 3), (.V 4), (.V 5), (.B true)])))))
   (.ret [(.N 0), (.N 0), (.N 0), (.N 0), (.B false)])))
set_option maxRecDepth 100000 in
theorem rCom09_t : runS Try.prog [rChk09_K.to []] [(40, rCom09_H)] rCom09_K = rCom09_T := by kernel_rfl
def rHul09_H : List Hint := [
  ⟨1152920405103608539, 2, [], ⟨[.und, .und, .ptr 0 0, .ptr 1 0, .bool (.B false), .und, .ptr 3 0, .ptr 4 0, .und, .und, .und, .und, .und, .und, .und, .und, .und, .und, .und, .und, .und, .und, .und, .und, .und, .und, .und, .und, .und, .und, .und, .und, .und, .und, .und, .und, .und, .und, .und, .und, .var 0, .int .i64 (.len (.V 0)), .int .i64 (.V 6), .und, .und, .und, .und, .und, .und, .und, .und, .und, .und, .und, .und, .und, .und, .und, .und, .und, .und, .und, .und, .und, .und, .und, .und, .und, .und, .und, .und, .und, .und, .und, .und, .und, .und, .und, .und, .und, .und, .und, .und], [.fix [.int .i64 (.N 0), .int .i64 (.N 0)] true, .fix [.int .i64 (.N 0), .int .i64 (.N 0)] true, .fix [.int .i64 (.at (.V 0) (.N 0) 0), .int .i64 (.at (.V 0) (.N 0) 1), .int .i64 (.at (.V 0) (.N 0) 2), .int .i64 (.at (.V 0) (.N 0) 3)] true, .fix [.int .i64 (.V 2), .int .i64 (.V 3)] true, .fix [.int .i64 (.V 4), .int .i64 (.V 5)] true], 7, 1, [none, none, none, none, none, none, none], [], [⟨0, [.int .i64, .int .i64, .int .i64, .int .i64], (.V 0)⟩]⟩⟩]
def rHul09_K : Con := ⟨42, [.val false [.sl [.int .i64, .int .i64, .int .i64, .int .i64]]], [.val true [.int .i64, .int .i64], .val true [.int .i64, .int .i64], .val false [.bool]], []⟩
def rHul09_T : T (List X) :=
  (.call 83 [(.V 0)] 1
  (.ite (.eq (.V 1) (.N 0))
   (.need (.lt (.N 0) (.len (.V 0)))
    (.loop [(.wr .i64 (.sub (.at (.V 0) (.N 0) 1) (.at (.V 0) (.N 0) 3))), (.wr .i64 (.sub (.at (.V 0) (.N 0) 2) (.at (.V 0) (.N 0) 3))), (.wr .i64 (.add (.at (.V 0) (.N 0) 1) (.at (.V 0) (.N 0) 3))), (.wr .i64 (.add (.at (.V 0) (.N 0) 2) (.at (.V 0) (.N 0) 3))), (.N 0)]
     (.ite (.lt (.V 6) (.len (.V 0)))
      (.need (.and (.not (.lt (.V 6) (.N 0))) (.lt (.V 6) (.len (.V 0))))
       (.ret (true, [(.mn (.V 2) (.wr .i64 (.sub (.at (.V 0) (.V 6) 1) (.at (.V 0) (.V 6) 3)))), (.mn (.V 3) (.wr .i64 (.sub (.at (.V 0) (.V 6) 2) (.at (.V 0) (.V 6) 3)))), (.mx (.V 4) (.wr .i64 (.add (.at (.V 0) (.V 6) 1) (.at (.V 0) (.V 6) 3)))), (.mx (.V 5) (.wr .i64 (.add (.at (.V 0) (.V 6) 2) (.at (.V 0) (.V 6) 3)))), (.wr .i64 (.add (.V 6) (.N 1)))])))
      (.ret (false, [(.V 2), (.V 3), (.V 4), (.V 5)]))) 4
     (.ret [(.V 2), (.V 3), (.V 4), (.V 5), (.B true)])))
   (.ret [(.N 0), (.N 0), (.N 0), (.N 0), (.B false)])))
set_option maxRecDepth 100000 in
theorem rHul09_t : runS Try.prog [rChk09_K.to []] [(42, rHul09_H)] rHul09_K = rHul09_T := by kernel_rfl
def gGro_K : Con := ⟨43, [.val false [.int .i64], .val false [.int .i64], .val false [.int .i64]], [.val false [.int .i64], .val false [.int .i64]], []⟩
def gGro_T : T (List X) :=
  (.sub (.ite (.lt (.V 0) (.N 0))
   (.ret [(.B true)])
   (.ite (.lt (.N 200000000) (.V 0))
    (.ret [(.B true)])
    (.ite (.lt (.V 1) (.N 0))
     (.ret [(.B true)])
     (.ite (.lt (.N 1000) (.V 1))
      (.ret [(.B true)])
      (.ite (.lt (.V 2) (.N 0))
       (.ret [(.B true)])
       (.ret [(.lt (.N 2147483648) (.V 2))])))))) 1
  (.ite (.V 3)
   (.ret [(.N 0), (.N 1)])
   (.ret [(.mn (.wr .i64 (.add (.V 0) (.wr .i64 (.mul (.V 1) (.V 2))))) (.N 200000000)), (.N 0)])))
set_option maxRecDepth 100000 in
theorem gGro_t : runS Try.prog [] [] gGro_K = gGro_T := by kernel_rfl
def rGro09_K : Con := ⟨44, [.val false [.int .i64], .val false [.int .i64], .val false [.int .i64]], [.val false [.int .i64], .val false [.int .i64]], []⟩
def rGro09_T : T (List X) :=
  (.sub (.ite (.lt (.V 0) (.N 0))
   (.ret [(.B true)])
   (.ite (.lt (.N 200000000) (.V 0))
    (.ret [(.B true)])
    (.ite (.lt (.V 1) (.N 0))
     (.ret [(.B true)])
     (.ite (.lt (.N 1000) (.V 1))
      (.ret [(.B true)])
      (.ite (.lt (.V 2) (.N 0))
       (.ret [(.B true)])
       (.ret [(.lt (.N 2147483648) (.V 2))])))))) 1
  (.ite (.V 3)
   (.ret [(.N 0), (.N 1)])
   (.ret [(.mn (.wr .i64 (.add (.V 0) (.wr .i64 (.mul (.V 1) (.V 2))))) (.N 200000000)), (.N 0)])))
set_option maxRecDepth 100000 in
theorem rGro09_t : runS Try.prog [] [] rGro09_K = rGro09_T := by kernel_rfl
theorem rweight_gen {d : D} : ∃ l, rWei_T.run noM 0 [d] = some l ∧ l = [.i (wtx d.int)] := by
  obtain ⟨e, he⟩ : ∃ e, d.int = e := ⟨_, rfl⟩
  rw [he]
  by_cases hr : 1 ≤ e ∧ e ≤ 100000
  · obtain ⟨s1, s2, s3, s4, s5⟩ := sq_err hr.1 hr.2
    refine run_to ?_
    unfold rWei_T
    (repeat' (first
        
        | (refine To.subK (fun K hK => ?_))
        | (refine To.need (by simp (disch := omega) only [X.den, X.dens, X.denss, D.int_i, D.boo_b, D.str_s, D.rows_l, List.getD_cons_zero, List.getD_cons_succ, List.cons_append, List.nil_append, List.append_nil, List.length_cons, List.length_nil, decide_eq_true_eq, decide_eq_false_iff_not, Bool.not_eq_true', Bool.not_eq_false', Bool.and_eq_true, Bool.and_eq_false_iff, Bool.true_eq_false, Bool.false_eq_true, Bool.not_true, Bool.not_false, eq_self, D.len_l, wr64, not_true_eq_false, not_false_eq_true, s3, he] <;> omega) ?_)
        | (refine To.ite (fun c => ?_) (fun c => ?_) <;> ((try simp (disch := omega) only [X.den, X.dens, X.denss, D.int_i, D.boo_b, D.str_s, D.rows_l, List.getD_cons_zero, List.getD_cons_succ, List.cons_append, List.nil_append, List.append_nil, List.length_cons, List.length_nil, decide_eq_true_eq, decide_eq_false_iff_not, Bool.not_eq_true', Bool.not_eq_false', Bool.and_eq_true, Bool.and_eq_false_iff, Bool.true_eq_false, Bool.false_eq_true, Bool.not_true, Bool.not_false, eq_self, D.len_l, wr64, not_true_eq_false, not_false_eq_true, s3, he] at c) <;> (try (exfalso; omega))))
        | (refine To.ret ⟨rfl, ?_⟩; (try simp (disch := omega) only [X.den, X.dens, X.denss, D.int_i, D.boo_b, D.str_s, D.rows_l, List.getD_cons_zero, List.getD_cons_succ, List.cons_append, List.nil_append, List.append_nil, List.length_cons, List.length_nil, decide_eq_true_eq, decide_eq_false_iff_not, Bool.not_eq_true', Bool.not_eq_false', Bool.and_eq_true, Bool.and_eq_false_iff, Bool.true_eq_false, Bool.false_eq_true, Bool.not_true, Bool.not_false, eq_self, D.len_l, wr64, not_true_eq_false, not_false_eq_true, s3, he]); refine hK _ _ (by simp only [List.cons_append, List.nil_append]; first | done | rfl) ?_; clear hK; clear K)))
    all_goals (refine To.ret ?_; simp (disch := omega) only [X.den, X.dens, X.denss, D.int_i, D.boo_b, D.str_s, D.rows_l, List.getD_cons_zero, List.getD_cons_succ, List.cons_append, List.nil_append, List.append_nil, List.length_cons, List.length_nil, wr64, s3, he, wtx, if_pos hr]; rfl)
  · refine run_to ?_
    unfold rWei_T
    refine To.joinK (fun o => o = [.b true]) ?_ ?_
    · refine To.ite (fun c => ?_) (fun c => ?_) <;> simp only [X.den, X.dens, X.denss, D.int_i, D.boo_b, D.str_s, D.rows_l, List.getD_cons_zero, List.getD_cons_succ, List.cons_append, List.nil_append, List.append_nil, List.length_cons, List.length_nil, decide_eq_true_eq, decide_eq_false_iff_not, Bool.not_eq_true', Bool.not_eq_false', Bool.and_eq_true, Bool.and_eq_false_iff, Bool.true_eq_false, Bool.false_eq_true, Bool.not_true, Bool.not_false, eq_self, he] at c
      · exact To.ret ⟨rfl, by simp only [X.den, X.dens, X.denss, D.int_i, D.boo_b, D.str_s, D.rows_l, List.getD_cons_zero, List.getD_cons_succ, List.cons_append, List.nil_append, List.append_nil, List.length_cons, List.length_nil]⟩
      · refine To.ret ⟨rfl, ?_⟩
        simp only [X.den, X.dens, X.denss, D.int_i, D.boo_b, D.str_s, D.rows_l, List.getD_cons_zero, List.getD_cons_succ, List.cons_append, List.nil_append, List.append_nil, List.length_cons, List.length_nil, he]
        rw [decide_eq_true (by omega)]
    rintro o ρ2 rfl eρ
    simp only [List.cons_append, List.nil_append] at eρ
    subst eρ
    refine To.yes rfl (To.ret ?_)
    simp only [X.den, X.dens, X.denss, D.int_i, D.boo_b, D.str_s, D.rows_l, List.getD_cons_zero, List.getD_cons_succ, List.cons_append, List.nil_append, List.append_nil, List.length_cons, List.length_nil, wtx, if_neg hr]
theorem rWei_ok : ConOk Try.prog rWei_K (rWei_T.run noM 0) := con_run follows no_cons rWei_t rfl 0
theorem rup_full {n d : Int} (n0 : 0 ≤ n) (n1 : n ≤ 1000000000000000000) (d0 : 1 ≤ d) (d1 : d ≤ 1000000000) : ∃ l, rUp09_T.run noM 0 [.i n, .i d] = some l ∧ l = [.i (updv n d), .i 0] := by
  obtain ⟨N, hN⟩ : ∃ N, 0 - n = N := ⟨_, rfl⟩
  obtain ⟨q1, q2⟩ := tdiv_down (n := N) (show 0 < d by omega)
  have eN := Int.mul_ediv_add_emod N d
  have rN := Int.emod_nonneg N (show d ≠ 0 by omega)
  have sN := Int.emod_lt_of_pos N (show 0 < d by omega)
  have en := Int.mul_ediv_add_emod n d
  have rn := Int.emod_nonneg n (show d ≠ 0 by omega)
  have sn := Int.emod_lt_of_pos n (show 0 < d by omega)
  have t1 := Int.lt_tmod_of_pos N (show 0 < d by omega)
  have t2 := Int.tmod_lt_of_pos N (show 0 < d by omega)
  have ab : -1000000000000000000 ≤ N.tdiv d ∧ N.tdiv d ≤ 1000000000000000000 := by
    have := Int.natAbs_tdiv_le_natAbs N d
    omega
  have key : 0 - N / d = updv n d := by
    have s : d * (N / d + n / d) = - (N % d + n % d) := by rw [Int.mul_add]; omega
    have a : N / d + n / d = 0 ∨ N / d + n / d = -1 := by
      generalize N / d + n / d = u at *
      have h1 : u ≤ 0 := by
        apply Int.not_lt.1
        intro h
        have := Int.mul_le_mul_of_nonneg_left (show 1 ≤ u by omega) (show 0 ≤ d by omega)
        omega
      have h2 : -2 < u := by
        apply Int.not_le.1
        intro h
        have := Int.mul_le_mul_of_nonneg_left h (show 0 ≤ d by omega)
        omega
      omega
    unfold updv
    rcases a with a | a
    · rw [a] at s
      have : n % d = 0 := by omega
      rw [if_pos this]
      omega
    · rw [a] at s
      have : ¬ n % d = 0 := by omega
      rw [if_neg this]
      omega
  refine run_to ?_
  unfold rUp09_T
  by_cases hneg : N.tmod d < 0
  · rw [if_pos hneg] at q1 q2
    (repeat' (first
        
        | (refine To.subK (fun K hK => ?_))
        | (refine To.need (by simp (disch := omega) only [X.den, X.dens, X.denss, D.int_i, D.boo_b, D.str_s, D.rows_l, List.getD_cons_zero, List.getD_cons_succ, List.cons_append, List.nil_append, List.append_nil, List.length_cons, List.length_nil, decide_eq_true_eq, decide_eq_false_iff_not, Bool.not_eq_true', Bool.not_eq_false', Bool.and_eq_true, Bool.and_eq_false_iff, Bool.true_eq_false, Bool.false_eq_true, Bool.not_true, Bool.not_false, eq_self, D.len_l, wr64, not_true_eq_false, not_false_eq_true, hN] <;> omega) ?_)
        | (refine To.ite (fun c => ?_) (fun c => ?_) <;> ((try simp (disch := omega) only [X.den, X.dens, X.denss, D.int_i, D.boo_b, D.str_s, D.rows_l, List.getD_cons_zero, List.getD_cons_succ, List.cons_append, List.nil_append, List.append_nil, List.length_cons, List.length_nil, decide_eq_true_eq, decide_eq_false_iff_not, Bool.not_eq_true', Bool.not_eq_false', Bool.and_eq_true, Bool.and_eq_false_iff, Bool.true_eq_false, Bool.false_eq_true, Bool.not_true, Bool.not_false, eq_self, D.len_l, wr64, not_true_eq_false, not_false_eq_true, hN] at c) <;> (try (exfalso; omega))))
        | (refine To.ret ⟨rfl, ?_⟩; (try simp (disch := omega) only [X.den, X.dens, X.denss, D.int_i, D.boo_b, D.str_s, D.rows_l, List.getD_cons_zero, List.getD_cons_succ, List.cons_append, List.nil_append, List.append_nil, List.length_cons, List.length_nil, decide_eq_true_eq, decide_eq_false_iff_not, Bool.not_eq_true', Bool.not_eq_false', Bool.and_eq_true, Bool.and_eq_false_iff, Bool.true_eq_false, Bool.false_eq_true, Bool.not_true, Bool.not_false, eq_self, D.len_l, wr64, not_true_eq_false, not_false_eq_true, hN]); refine hK _ _ (by simp only [List.cons_append, List.nil_append]; first | done | rfl) ?_; clear hK; clear K)))
    all_goals (refine To.ret ?_; simp (disch := omega) only [X.den, X.dens, X.denss, D.int_i, D.boo_b, D.str_s, D.rows_l, List.getD_cons_zero, List.getD_cons_succ, List.cons_append, List.nil_append, List.append_nil, List.length_cons, List.length_nil, wr64]; simp only [List.cons.injEq, D.i.injEq, and_true]; omega)
  · rw [if_neg hneg] at q1 q2
    (repeat' (first
        
        | (refine To.subK (fun K hK => ?_))
        | (refine To.need (by simp (disch := omega) only [X.den, X.dens, X.denss, D.int_i, D.boo_b, D.str_s, D.rows_l, List.getD_cons_zero, List.getD_cons_succ, List.cons_append, List.nil_append, List.append_nil, List.length_cons, List.length_nil, decide_eq_true_eq, decide_eq_false_iff_not, Bool.not_eq_true', Bool.not_eq_false', Bool.and_eq_true, Bool.and_eq_false_iff, Bool.true_eq_false, Bool.false_eq_true, Bool.not_true, Bool.not_false, eq_self, D.len_l, wr64, not_true_eq_false, not_false_eq_true, hN] <;> omega) ?_)
        | (refine To.ite (fun c => ?_) (fun c => ?_) <;> ((try simp (disch := omega) only [X.den, X.dens, X.denss, D.int_i, D.boo_b, D.str_s, D.rows_l, List.getD_cons_zero, List.getD_cons_succ, List.cons_append, List.nil_append, List.append_nil, List.length_cons, List.length_nil, decide_eq_true_eq, decide_eq_false_iff_not, Bool.not_eq_true', Bool.not_eq_false', Bool.and_eq_true, Bool.and_eq_false_iff, Bool.true_eq_false, Bool.false_eq_true, Bool.not_true, Bool.not_false, eq_self, D.len_l, wr64, not_true_eq_false, not_false_eq_true, hN] at c) <;> (try (exfalso; omega))))
        | (refine To.ret ⟨rfl, ?_⟩; (try simp (disch := omega) only [X.den, X.dens, X.denss, D.int_i, D.boo_b, D.str_s, D.rows_l, List.getD_cons_zero, List.getD_cons_succ, List.cons_append, List.nil_append, List.append_nil, List.length_cons, List.length_nil, decide_eq_true_eq, decide_eq_false_iff_not, Bool.not_eq_true', Bool.not_eq_false', Bool.and_eq_true, Bool.and_eq_false_iff, Bool.true_eq_false, Bool.false_eq_true, Bool.not_true, Bool.not_false, eq_self, D.len_l, wr64, not_true_eq_false, not_false_eq_true, hN]); refine hK _ _ (by simp only [List.cons_append, List.nil_append]; first | done | rfl) ?_; clear hK; clear K)))
    all_goals (refine To.ret ?_; simp (disch := omega) only [X.den, X.dens, X.denss, D.int_i, D.boo_b, D.str_s, D.rows_l, List.getD_cons_zero, List.getD_cons_succ, List.cons_append, List.nil_append, List.append_nil, List.length_cons, List.length_nil, wr64]; simp only [List.cons.injEq, D.i.injEq, and_true]; omega)
theorem rUp09_ok : ConOk Try.prog rUp09_K (rUp09_T.run noM 0) := con_run follows no_cons rUp09_t rfl 0
theorem rbox_full {a b : Int} {c d : D} (a0 : -100000000 ≤ a ∧ a ≤ 100000000) (b0 : -100000000 ≤ b ∧ b ≤ 100000000) (c0 : -100000000 ≤ c.int ∧ c.int ≤ 100000000) (d0 : -100000000 ≤ d.int ∧ d.int ≤ 100000000) :
    ∃ l, rBox09_T.run noM 0 [.i a, .i b, c, d] = some l ∧ l = [.i (max (max (a - c.int) (c.int - a)) (max (b - d.int) (d.int - b))), .i 0] := by
  obtain ⟨x, hx⟩ : ∃ x, c.int = x := ⟨_, rfl⟩
  obtain ⟨y, hy⟩ : ∃ y, d.int = y := ⟨_, rfl⟩
  rw [hx] at c0 ⊢
  rw [hy] at d0 ⊢
  refine run_to ?_
  unfold rBox09_T
  (repeat' (first
      
      | (refine To.subK (fun K hK => ?_))
      | (refine To.need (by simp (disch := omega) only [X.den, X.dens, X.denss, D.int_i, D.boo_b, D.str_s, D.rows_l, List.getD_cons_zero, List.getD_cons_succ, List.cons_append, List.nil_append, List.append_nil, List.length_cons, List.length_nil, decide_eq_true_eq, decide_eq_false_iff_not, Bool.not_eq_true', Bool.not_eq_false', Bool.and_eq_true, Bool.and_eq_false_iff, Bool.true_eq_false, Bool.false_eq_true, Bool.not_true, Bool.not_false, eq_self, D.len_l, wr64, not_true_eq_false, not_false_eq_true, hx, hy] <;> omega) ?_)
      | (refine To.ite (fun c => ?_) (fun c => ?_) <;> ((try simp (disch := omega) only [X.den, X.dens, X.denss, D.int_i, D.boo_b, D.str_s, D.rows_l, List.getD_cons_zero, List.getD_cons_succ, List.cons_append, List.nil_append, List.append_nil, List.length_cons, List.length_nil, decide_eq_true_eq, decide_eq_false_iff_not, Bool.not_eq_true', Bool.not_eq_false', Bool.and_eq_true, Bool.and_eq_false_iff, Bool.true_eq_false, Bool.false_eq_true, Bool.not_true, Bool.not_false, eq_self, D.len_l, wr64, not_true_eq_false, not_false_eq_true, hx, hy] at c) <;> (try (exfalso; omega))))
      | (refine To.ret ⟨rfl, ?_⟩; (try simp (disch := omega) only [X.den, X.dens, X.denss, D.int_i, D.boo_b, D.str_s, D.rows_l, List.getD_cons_zero, List.getD_cons_succ, List.cons_append, List.nil_append, List.append_nil, List.length_cons, List.length_nil, decide_eq_true_eq, decide_eq_false_iff_not, Bool.not_eq_true', Bool.not_eq_false', Bool.and_eq_true, Bool.and_eq_false_iff, Bool.true_eq_false, Bool.false_eq_true, Bool.not_true, Bool.not_false, eq_self, D.len_l, wr64, not_true_eq_false, not_false_eq_true, hx, hy]); refine hK _ _ (by simp only [List.cons_append, List.nil_append]; first | done | rfl) ?_; clear hK; clear K)))
  all_goals (refine To.ret ?_; simp only [X.den, X.dens, X.denss, D.int_i, D.boo_b, D.str_s, D.rows_l, List.getD_cons_zero, List.getD_cons_succ, List.cons_append, List.nil_append, List.append_nil, List.length_cons, List.length_nil]; simp only [List.cons.injEq, D.i.injEq, and_true]; omega)
theorem rBox09_ok : ConOk Try.prog rBox09_K (rBox09_T.run noM 0) := con_run follows no_cons rBox09_t rfl 0
def rcM9 : Models := Models.on rWei_K.f (rWei_T.run noM 0) noM
theorem rcheck_full {l : List (List D)} : ∃ o, rChk09_T.run rcM9 30 [.l l] = some o ∧ o = [.i (fck l)] := by
  refine run_to ?_
  unfold rChk09_T
  refine To.ite (fun c => ?_) (fun c => ?_) <;> simp only [X.den, X.dens, X.denss, D.int_i, D.boo_b, D.str_s, D.rows_l, List.getD_cons_zero, List.getD_cons_succ, List.cons_append, List.nil_append, List.append_nil, List.length_cons, List.length_nil, decide_eq_true_eq, decide_eq_false_iff_not, Bool.not_eq_true', Bool.not_eq_false', Bool.and_eq_true, Bool.and_eq_false_iff, Bool.true_eq_false, Bool.false_eq_true, Bool.not_true, Bool.not_false, eq_self, D.len_l] at c
  · refine To.ret ?_
    simp only [X.den, X.dens, X.denss, D.int_i, D.boo_b, D.str_s, D.rows_l, List.getD_cons_zero, List.getD_cons_succ, List.cons_append, List.nil_append, List.append_nil, List.length_cons, List.length_nil, fck]
    rw [if_pos (by omega)]
  refine To.ite (fun c2 => ?_) (fun c2 => ?_) <;> simp only [X.den, X.dens, X.denss, D.int_i, D.boo_b, D.str_s, D.rows_l, List.getD_cons_zero, List.getD_cons_succ, List.cons_append, List.nil_append, List.append_nil, List.length_cons, List.length_nil, decide_eq_true_eq, decide_eq_false_iff_not, Bool.not_eq_true', Bool.not_eq_false', Bool.and_eq_true, Bool.and_eq_false_iff, Bool.true_eq_false, Bool.false_eq_true, Bool.not_true, Bool.not_false, eq_self, D.len_l] at c2
  · refine To.ret ?_
    simp only [X.den, X.dens, X.denss, D.int_i, D.boo_b, D.str_s, D.rows_l, List.getD_cons_zero, List.getD_cons_succ, List.cons_append, List.nil_append, List.append_nil, List.length_cons, List.length_nil, fck]
    rw [if_neg (by omega), if_pos (by omega)]
  refine To.loopK (fun m o => ∃ i, o = [.i i] ∧ 0 ≤ i ∧ i + m = l.length ∧ ∀ j : Int, 0 ≤ j → j < i → okF l j) (fun o => ∃ rest, rest.length = 6 ∧ ((o = .i 0 :: rest ∧ fck l = 1) ∨ (o = .i 1 :: rest ∧ fck l = 0))) l.length (by omega) ?_ ?_ ?_
  · exact ⟨0, by simp only [X.den, X.dens, X.denss, D.int_i, D.boo_b, D.str_s, D.rows_l, List.getD_cons_zero, List.getD_cons_succ, List.cons_append, List.nil_append, List.append_nil, List.length_cons, List.length_nil], by omega, by omega, by intro j; omega⟩
  · rintro m o ρ2 ⟨i, rfl, i0, i1, hj⟩ eρ
    simp only [List.cons_append, List.nil_append] at eρ
    subst eρ
    refine To.ite (fun c => ?_) (fun c => ?_) <;> simp only [X.den, X.dens, X.denss, D.int_i, D.boo_b, D.str_s, D.rows_l, List.getD_cons_zero, List.getD_cons_succ, List.cons_append, List.nil_append, List.append_nil, List.length_cons, List.length_nil, decide_eq_true_eq, decide_eq_false_iff_not, Bool.not_eq_true', Bool.not_eq_false', Bool.and_eq_true, Bool.and_eq_false_iff, Bool.true_eq_false, Bool.false_eq_true, Bool.not_true, Bool.not_false, eq_self, D.len_l] at c
    · refine To.need (by simp only [X.den, X.dens, X.denss, D.int_i, D.boo_b, D.str_s, D.rows_l, List.getD_cons_zero, List.getD_cons_succ, List.cons_append, List.nil_append, List.append_nil, List.length_cons, List.length_nil, decide_eq_true_eq, decide_eq_false_iff_not, Bool.not_eq_true', Bool.not_eq_false', Bool.and_eq_true, Bool.and_eq_false_iff, Bool.true_eq_false, Bool.false_eq_true, Bool.not_true, Bool.not_false, eq_self, D.len_l]; omega) ?_
      refine To.joinK (fun o => ∃ a1 a2 a3 t, o = [a1, a2, a3, .b t] ∧ (t = true ↔ ¬ okF l i)) ?_ ?_
      · refine To.joinK (fun o => ∃ u, o = [.b u] ∧ (u = true ↔ ((-100000000 ≤ cf l 1 i ∧ cf l 1 i ≤ 100000000) ∧ (-100000000 ≤ cf l 2 i ∧ cf l 2 i ≤ 100000000)))) ?_ ?_
        · (repeat' (refine To.ite (fun c => ?_) (fun c => ?_) <;> simp only [X.den, X.dens, X.denss, D.int_i, D.boo_b, D.str_s, D.rows_l, List.getD_cons_zero, List.getD_cons_succ, List.cons_append, List.nil_append, List.append_nil, List.length_cons, List.length_nil, decide_eq_true_eq, decide_eq_false_iff_not, Bool.not_eq_true', Bool.not_eq_false', Bool.and_eq_true, Bool.and_eq_false_iff, Bool.true_eq_false, Bool.false_eq_true, Bool.not_true, Bool.not_false, eq_self, cf_def] at c))
          · exact To.ret ⟨rfl, false, by simp only [X.den, X.dens, X.denss, D.int_i, D.boo_b, D.str_s, D.rows_l, List.getD_cons_zero, List.getD_cons_succ, List.cons_append, List.nil_append, List.append_nil, List.length_cons, List.length_nil], by constructor; (intro q; cases q); (intro q; omega)⟩
          · exact To.ret ⟨rfl, false, by simp only [X.den, X.dens, X.denss, D.int_i, D.boo_b, D.str_s, D.rows_l, List.getD_cons_zero, List.getD_cons_succ, List.cons_append, List.nil_append, List.append_nil, List.length_cons, List.length_nil], by constructor; (intro q; cases q); (intro q; omega)⟩
          · exact To.ret ⟨rfl, false, by simp only [X.den, X.dens, X.denss, D.int_i, D.boo_b, D.str_s, D.rows_l, List.getD_cons_zero, List.getD_cons_succ, List.cons_append, List.nil_append, List.append_nil, List.length_cons, List.length_nil], by constructor; (intro q; cases q); (intro q; omega)⟩
          · refine To.ret ⟨rfl, !decide (100000000 < cf l 2 i), by simp only [X.den, X.dens, X.denss, D.int_i, D.boo_b, D.str_s, D.rows_l, List.getD_cons_zero, List.getD_cons_succ, List.cons_append, List.nil_append, List.append_nil, List.length_cons, List.length_nil, cf_def], ?_⟩
            rw [Bool.not_eq_true', decide_eq_false_iff_not]
            omega
        rintro o ρ2 ⟨u, rfl, hu⟩ eρ
        simp only [List.cons_append, List.nil_append] at eρ
        subst eρ
        refine To.ite (fun c => ?_) (fun c => ?_) <;> simp only [X.den, X.dens, X.denss, D.int_i, D.boo_b, D.str_s, D.rows_l, List.getD_cons_zero, List.getD_cons_succ, List.cons_append, List.nil_append, List.append_nil, List.length_cons, List.length_nil] at c
        · have hxy := hu.1 c
          refine To.viaK (by (try simp (disch := omega) only [X.den, X.dens, X.denss, D.int_i, D.boo_b, D.str_s, D.rows_l, List.getD_cons_zero, List.getD_cons_succ, List.cons_append, List.nil_append, List.append_nil, List.length_cons, List.length_nil, decide_eq_true_eq, decide_eq_false_iff_not, Bool.not_eq_true', Bool.not_eq_false', Bool.and_eq_true, Bool.and_eq_false_iff, Bool.true_eq_false, Bool.false_eq_true, Bool.not_true, Bool.not_false, eq_self, D.len_l, wr64, not_true_eq_false, not_false_eq_true]); exact rweight_gen (d := (D.l l).cell i 3)) ?_
          rintro _ ρ2 rfl eρ
          refine ⟨rfl, ?_⟩
          simp only [List.cons_append, List.nil_append] at eρ
          subst eρ
          refine To.ret ⟨rfl, _, _, _, decide (wtx (cf l 3 i) = 0), by simp only [X.den, X.dens, X.denss, D.int_i, D.boo_b, D.str_s, D.rows_l, List.getD_cons_zero, List.getD_cons_succ, List.cons_append, List.nil_append, List.append_nil, List.length_cons, List.length_nil, cf_def]; rfl, ?_⟩
          rw [decide_eq_true_eq]
          unfold wtx okF
          by_cases q : 1 ≤ cf l 3 i ∧ cf l 3 i ≤ 100000
          · rw [if_pos q]
            have := wt_rng q.1 q.2
            constructor
            · intro; omega
            · intro h; exact absurd ⟨hxy.1, hxy.2, q⟩ h
          · rw [if_neg q]
            exact ⟨fun _ h => q h.2.2, fun _ => rfl⟩
        · refine To.ret ⟨rfl, _, _, _, true, by simp only [X.den, X.dens, X.denss, D.int_i, D.boo_b, D.str_s, D.rows_l, List.getD_cons_zero, List.getD_cons_succ, List.cons_append, List.nil_append, List.append_nil, List.length_cons, List.length_nil]; rfl, ?_⟩
          refine ⟨fun _ h => ?_, fun _ => rfl⟩
          rw [hu.2 ⟨h.1, h.2.1⟩] at c
          cases c
      rintro o ρ2 ⟨a1, a2, a3, t, rfl, ht⟩ eρ
      simp only [List.cons_append, List.nil_append] at eρ
      subst eρ
      refine To.ite (fun ct => ?_) (fun ct => ?_) <;> simp only [X.den, X.dens, X.denss, D.int_i, D.boo_b, D.str_s, D.rows_l, List.getD_cons_zero, List.getD_cons_succ, List.cons_append, List.nil_append, List.append_nil, List.length_cons, List.length_nil] at ct
      · refine To.ret (.inr ⟨rfl, _, ?_, .inl ⟨by simp only [X.den, X.dens, X.denss, D.int_i, D.boo_b, D.str_s, D.rows_l, List.getD_cons_zero, List.getD_cons_succ, List.cons_append, List.nil_append, List.append_nil, List.length_cons, List.length_nil]; rfl, ?_⟩⟩)
        · rfl
        · unfold fck
          rw [if_neg (by omega), if_neg (by omega), if_neg (fun h => ht.1 ct (h i i0 (by omega)))]
      · refine To.ret (.inl ⟨rfl, m - 1, by omega, ?_⟩)
        simp (disch := omega) only [X.den, X.dens, X.denss, D.int_i, D.boo_b, D.str_s, D.rows_l, List.getD_cons_zero, List.getD_cons_succ, List.cons_append, List.nil_append, List.append_nil, List.length_cons, List.length_nil, wr64]
        refine ⟨_, rfl, by omega, by omega, fun j j0 j1 => ?_⟩
        by_cases e : j = i
        · subst e
          exact Classical.byContradiction fun q => by rw [ht.2 q] at ct; cases ct
        · exact hj j j0 (by omega)
    · refine To.ret (.inr ⟨rfl, _, ?_, .inr ⟨by simp only [X.den, X.dens, X.denss, D.int_i, D.boo_b, D.str_s, D.rows_l, List.getD_cons_zero, List.getD_cons_succ, List.cons_append, List.nil_append, List.append_nil, List.length_cons, List.length_nil]; rfl, fck_of (by omega) (by omega) fun j j0 j1 => hj j j0 (by omega)⟩⟩)
      rfl
  · rintro o ρ2 ⟨rest, hr, (⟨rfl, h⟩ | ⟨rfl, h⟩)⟩ eρ
    · simp only [List.cons_append, List.nil_append] at eρ
      subst eρ
      refine ⟨by simp only [List.length_cons, hr], To.yes rfl (To.ret ?_)⟩
      simp only [X.den, X.dens, X.denss, D.int_i, D.boo_b, D.str_s, D.rows_l, List.getD_cons_zero, List.getD_cons_succ, List.cons_append, List.nil_append, List.append_nil, List.length_cons, List.length_nil, h]
    · simp only [List.cons_append, List.nil_append] at eρ
      subst eρ
      refine ⟨by simp only [List.length_cons, hr], To.no rfl (To.ret ?_)⟩
      simp only [X.den, X.dens, X.denss, D.int_i, D.boo_b, D.str_s, D.rows_l, List.getD_cons_zero, List.getD_cons_succ, List.cons_append, List.nil_append, List.append_nil, List.length_cons, List.length_nil, h]
theorem rChk09_ok : ConOk Try.prog rChk09_K (rChk09_T.run rcM9 30) := con_run follows (one_con (rWei_ok.to _) no_cons) rChk09_t rfl 30
def rfM9 : Models := Models.on rChk09_K.f (rChk09_T.run rcM9 30) (Models.on rWei_K.f (rWei_T.run noM 0) (Models.on rUp09_K.f (rUp09_T.run noM 0) (Models.on rHlf09_K.f (rHlf09_T.run noM 0) (Models.on rBox09_K.f (rBox09_T.run noM 0) noM))))
theorem rfuse_full {l : List (List D)} (h : fck l = 0) : ∃ o, rFus09_T.run rfM9 30 [.l l] = some o ∧ o = [.i (pF l 1), .i (pF l 2), .i (bF l (pF l 1) (pF l 2) l.length), .i 0] := by
  obtain ⟨⟨h0, h1⟩, hv⟩ := fck_zero h
  have p1 := pF_rng (c := 1) h0 (fun i a b => uF_rng hv a b) fun i a b => (hv i a b).1
  have p2 := pF_rng (c := 2) h0 (fun i a b => uF_rng hv a b) fun i a b => (hv i a b).2.1
  refine run_to ?_
  unfold rFus09_T
  refine To.viaK (by (try simp (disch := omega) only [X.den, X.dens, X.denss, D.int_i, D.boo_b, D.str_s, D.rows_l, List.getD_cons_zero, List.getD_cons_succ, List.cons_append, List.nil_append, List.append_nil, List.length_cons, List.length_nil, decide_eq_true_eq, decide_eq_false_iff_not, Bool.not_eq_true', Bool.not_eq_false', Bool.and_eq_true, Bool.and_eq_false_iff, Bool.true_eq_false, Bool.false_eq_true, Bool.not_true, Bool.not_false, eq_self, D.len_l, wr64, not_true_eq_false, not_false_eq_true]); exact rcheck_full) ?_
  rintro _ ρ2 rfl eρ
  refine ⟨rfl, ?_⟩
  simp only [List.cons_append, List.nil_append] at eρ
  subst eρ
  refine To.yes (by simp only [X.den, X.dens, X.denss, D.int_i, D.boo_b, D.str_s, D.rows_l, List.getD_cons_zero, List.getD_cons_succ, List.cons_append, List.nil_append, List.append_nil, List.length_cons, List.length_nil, decide_eq_true_eq, decide_eq_false_iff_not, Bool.not_eq_true', Bool.not_eq_false', Bool.and_eq_true, Bool.and_eq_false_iff, Bool.true_eq_false, Bool.false_eq_true, Bool.not_true, Bool.not_false, eq_self]; exact h) ?_
  refine To.loopK (fun m o => ∃ k : Nat, o = [.i (gF l k), .i k] ∧ k + m = l.length) (fun o => o = [.i (gF l l.length)]) l.length (by omega) ?_ ?_ ?_
  · exact ⟨0, rfl, by omega⟩
  · rintro m o ρ2 ⟨k, rfl, hk⟩ eρ
    simp only [List.cons_append, List.nil_append] at eρ
    subst eρ
    refine To.ite (fun c => ?_) (fun c => ?_) <;> simp only [X.den, X.dens, X.denss, D.int_i, D.boo_b, D.str_s, D.rows_l, List.getD_cons_zero, List.getD_cons_succ, List.cons_append, List.nil_append, List.append_nil, List.length_cons, List.length_nil, decide_eq_true_eq, decide_eq_false_iff_not, Bool.not_eq_true', Bool.not_eq_false', Bool.and_eq_true, Bool.and_eq_false_iff, Bool.true_eq_false, Bool.false_eq_true, Bool.not_true, Bool.not_false, eq_self, D.len_l] at c
    · refine To.need (by simp only [X.den, X.dens, X.denss, D.int_i, D.boo_b, D.str_s, D.rows_l, List.getD_cons_zero, List.getD_cons_succ, List.cons_append, List.nil_append, List.append_nil, List.length_cons, List.length_nil, decide_eq_true_eq, decide_eq_false_iff_not, Bool.not_eq_true', Bool.not_eq_false', Bool.and_eq_true, Bool.and_eq_false_iff, Bool.true_eq_false, Bool.false_eq_true, Bool.not_true, Bool.not_false, eq_self, D.len_l]; omega) ?_
      refine To.viaK (by (try simp (disch := omega) only [X.den, X.dens, X.denss, D.int_i, D.boo_b, D.str_s, D.rows_l, List.getD_cons_zero, List.getD_cons_succ, List.cons_append, List.nil_append, List.append_nil, List.length_cons, List.length_nil, decide_eq_true_eq, decide_eq_false_iff_not, Bool.not_eq_true', Bool.not_eq_false', Bool.and_eq_true, Bool.and_eq_false_iff, Bool.true_eq_false, Bool.false_eq_true, Bool.not_true, Bool.not_false, eq_self, D.len_l, wr64, not_true_eq_false, not_false_eq_true]); exact rweight_gen (d := (D.l l).cell k 3)) ?_
      rintro _ ρ2 rfl eρ
      refine ⟨rfl, ?_⟩
      simp only [List.cons_append, List.nil_append] at eρ
      subst eρ
      refine To.ret (.inl ⟨rfl, m - 1, by omega, k + 1, ?_, by omega⟩)
      simp (disch := omega) only [X.den, X.dens, X.denss, D.int_i, D.boo_b, D.str_s, D.rows_l, List.getD_cons_zero, List.getD_cons_succ, List.cons_append, List.nil_append, List.append_nil, List.length_cons, List.length_nil, wr64, cf_def, nat_suc, gF, wF]
    · obtain rfl : k = l.length := by omega
      exact To.ret (.inr ⟨rfl, by simp only [X.den, X.dens, X.denss, D.int_i, D.boo_b, D.str_s, D.rows_l, List.getD_cons_zero, List.getD_cons_succ, List.cons_append, List.nil_append, List.append_nil, List.length_cons, List.length_nil]⟩)
  rintro o ρ2 rfl eρ
  simp only [List.cons_append, List.nil_append] at eρ
  subst eρ
  refine ⟨rfl, ?_⟩
  refine To.loopK (fun m o => ∃ k : Nat, o = [.i (sumf (vF l 1) k), .i (sumf (vF l 2) k), .i (sumf (uF l) k), .i k] ∧ k + m = l.length) (fun o => o = [.i (sumf (vF l 1) l.length), .i (sumf (vF l 2) l.length), .i (sumf (uF l) l.length)]) l.length (by omega) ?_ ?_ ?_
  · exact ⟨0, rfl, by omega⟩
  · rintro m o ρ2 ⟨k, rfl, hk⟩ eρ
    simp only [List.cons_append, List.nil_append] at eρ
    subst eρ
    refine To.ite (fun c => ?_) (fun c => ?_) <;> simp only [X.den, X.dens, X.denss, D.int_i, D.boo_b, D.str_s, D.rows_l, List.getD_cons_zero, List.getD_cons_succ, List.cons_append, List.nil_append, List.append_nil, List.length_cons, List.length_nil, decide_eq_true_eq, decide_eq_false_iff_not, Bool.not_eq_true', Bool.not_eq_false', Bool.and_eq_true, Bool.and_eq_false_iff, Bool.true_eq_false, Bool.false_eq_true, Bool.not_true, Bool.not_false, eq_self, D.len_l] at c
    · refine To.need (by simp only [X.den, X.dens, X.denss, D.int_i, D.boo_b, D.str_s, D.rows_l, List.getD_cons_zero, List.getD_cons_succ, List.cons_append, List.nil_append, List.append_nil, List.length_cons, List.length_nil, decide_eq_true_eq, decide_eq_false_iff_not, Bool.not_eq_true', Bool.not_eq_false', Bool.and_eq_true, Bool.and_eq_false_iff, Bool.true_eq_false, Bool.false_eq_true, Bool.not_true, Bool.not_false, eq_self, D.len_l]; omega) ?_
      have w := wF_rng (hv k (by omega) (by omega))
      have g := gF_spec hv l.length (Nat.le_refl _)
      have gw := g.2 k (by omega) (by omega)
      have ew : wtx (cf l 3 k) = wF l k := rfl
      refine To.viaK (by (try simp (disch := omega) only [X.den, X.dens, X.denss, D.int_i, D.boo_b, D.str_s, D.rows_l, List.getD_cons_zero, List.getD_cons_succ, List.cons_append, List.nil_append, List.append_nil, List.length_cons, List.length_nil, decide_eq_true_eq, decide_eq_false_iff_not, Bool.not_eq_true', Bool.not_eq_false', Bool.and_eq_true, Bool.and_eq_false_iff, Bool.true_eq_false, Bool.false_eq_true, Bool.not_true, Bool.not_false, eq_self, D.len_l, wr64, not_true_eq_false, not_false_eq_true]); exact rweight_gen (d := (D.l l).cell k 3)) ?_
      rintro _ ρ2 rfl eρ
      refine ⟨rfl, ?_⟩
      simp only [List.cons_append, List.nil_append] at eρ
      subst eρ
      refine To.viaK (by (try simp (disch := omega) only [X.den, X.dens, X.denss, D.int_i, D.boo_b, D.str_s, D.rows_l, List.getD_cons_zero, List.getD_cons_succ, List.cons_append, List.nil_append, List.append_nil, List.length_cons, List.length_nil, decide_eq_true_eq, decide_eq_false_iff_not, Bool.not_eq_true', Bool.not_eq_false', Bool.and_eq_true, Bool.and_eq_false_iff, Bool.true_eq_false, Bool.false_eq_true, Bool.not_true, Bool.not_false, eq_self, D.len_l, wr64, not_true_eq_false, not_false_eq_true, cf_def, ew]); exact rup_full (n := 1000 * wF l k) (d := gF l l.length) (by omega) (by omega) (by omega) (by omega)) ?_
      rintro _ ρ2 rfl eρ
      refine ⟨rfl, ?_⟩
      simp only [List.cons_append, List.nil_append] at eρ
      subst eρ
      have eu : updv (1000 * wF l k) (gF l l.length) = uF l k := rfl
      have ur := uF_rng hv (show (0 : Int) ≤ k by omega) (by omega)
      have v1 := vF_rng ur (hv k (by omega) (by omega)).1
      have v2 := vF_rng ur (hv k (by omega) (by omega)).2.1
      have s := sums_rng hv k (by omega)
      have e1 : uF l k * cf l 1 k = vF l 1 k := rfl
      have e2 : uF l k * cf l 2 k = vF l 2 k := rfl
      refine To.ret (.inl ⟨rfl, m - 1, by omega, k + 1, ?_, by omega⟩)
      simp (disch := omega) only [X.den, X.dens, X.denss, D.int_i, D.boo_b, D.str_s, D.rows_l, List.getD_cons_zero, List.getD_cons_succ, List.cons_append, List.nil_append, List.append_nil, List.length_cons, List.length_nil, wr64, cf_def, nat_suc, sumf, eu, e1, e2]
    · obtain rfl : k = l.length := by omega
      exact To.ret (.inr ⟨rfl, by simp only [X.den, X.dens, X.denss, D.int_i, D.boo_b, D.str_s, D.rows_l, List.getD_cons_zero, List.getD_cons_succ, List.cons_append, List.nil_append, List.append_nil, List.length_cons, List.length_nil]⟩)
  rintro o ρ2 rfl eρ
  simp only [List.cons_append, List.nil_append] at eρ
  subst eρ
  refine ⟨rfl, ?_⟩
  have s := sums_rng hv l.length (Nat.le_refl _)
  refine To.viaK (by (try simp (disch := omega) only [X.den, X.dens, X.denss, D.int_i, D.boo_b, D.str_s, D.rows_l, List.getD_cons_zero, List.getD_cons_succ, List.cons_append, List.nil_append, List.append_nil, List.length_cons, List.length_nil, decide_eq_true_eq, decide_eq_false_iff_not, Bool.not_eq_true', Bool.not_eq_false', Bool.and_eq_true, Bool.and_eq_false_iff, Bool.true_eq_false, Bool.false_eq_true, Bool.not_true, Bool.not_false, eq_self, D.len_l, wr64, not_true_eq_false, not_false_eq_true]); exact rhalf_full (n := sumf (vF l 1) l.length) (d := sumf (uF l) l.length) (by omega) (by omega) (by omega) (by omega)) ?_
  rintro _ ρ2 rfl eρ
  refine ⟨rfl, ?_⟩
  simp only [List.cons_append, List.nil_append] at eρ
  subst eρ
  refine To.viaK (by (try simp (disch := omega) only [X.den, X.dens, X.denss, D.int_i, D.boo_b, D.str_s, D.rows_l, List.getD_cons_zero, List.getD_cons_succ, List.cons_append, List.nil_append, List.append_nil, List.length_cons, List.length_nil, decide_eq_true_eq, decide_eq_false_iff_not, Bool.not_eq_true', Bool.not_eq_false', Bool.and_eq_true, Bool.and_eq_false_iff, Bool.true_eq_false, Bool.false_eq_true, Bool.not_true, Bool.not_false, eq_self, D.len_l, wr64, not_true_eq_false, not_false_eq_true]); exact rhalf_full (n := sumf (vF l 2) l.length) (d := sumf (uF l) l.length) (by omega) (by omega) (by omega) (by omega)) ?_
  rintro _ ρ2 rfl eρ
  refine ⟨rfl, ?_⟩
  simp only [List.cons_append, List.nil_append] at eρ
  subst eρ
  have e1 : hdv (sumf (vF l 1) l.length) (sumf (uF l) l.length) = pF l 1 := rfl
  have e2 : hdv (sumf (vF l 2) l.length) (sumf (uF l) l.length) = pF l 2 := rfl
  rw [e1, e2]
  generalize pF l 1 = p at *
  generalize pF l 2 = q at *
  refine To.loopK (fun m o => ∃ k : Nat, o = [.i (bF l p q k), .i k] ∧ k + m = l.length) (fun o => o = [.i (bF l p q l.length)]) l.length (by omega) ?_ ?_ ?_
  · exact ⟨0, rfl, by omega⟩
  · rintro m o ρ2 ⟨k, rfl, hk⟩ eρ
    simp only [List.cons_append, List.nil_append] at eρ
    subst eρ
    refine To.ite (fun c => ?_) (fun c => ?_) <;> simp only [X.den, X.dens, X.denss, D.int_i, D.boo_b, D.str_s, D.rows_l, List.getD_cons_zero, List.getD_cons_succ, List.cons_append, List.nil_append, List.append_nil, List.length_cons, List.length_nil, decide_eq_true_eq, decide_eq_false_iff_not, Bool.not_eq_true', Bool.not_eq_false', Bool.and_eq_true, Bool.and_eq_false_iff, Bool.true_eq_false, Bool.false_eq_true, Bool.not_true, Bool.not_false, eq_self, D.len_l] at c
    · refine To.need (by simp only [X.den, X.dens, X.denss, D.int_i, D.boo_b, D.str_s, D.rows_l, List.getD_cons_zero, List.getD_cons_succ, List.cons_append, List.nil_append, List.append_nil, List.length_cons, List.length_nil, decide_eq_true_eq, decide_eq_false_iff_not, Bool.not_eq_true', Bool.not_eq_false', Bool.and_eq_true, Bool.and_eq_false_iff, Bool.true_eq_false, Bool.false_eq_true, Bool.not_true, Bool.not_false, eq_self, D.len_l]; omega) ?_
      have o := hv k (by omega) (by omega)
      have b := bF_spec hv p1 p2 k (by omega)
      refine To.viaK (by (try simp (disch := omega) only [X.den, X.dens, X.denss, D.int_i, D.boo_b, D.str_s, D.rows_l, List.getD_cons_zero, List.getD_cons_succ, List.cons_append, List.nil_append, List.append_nil, List.length_cons, List.length_nil, decide_eq_true_eq, decide_eq_false_iff_not, Bool.not_eq_true', Bool.not_eq_false', Bool.and_eq_true, Bool.and_eq_false_iff, Bool.true_eq_false, Bool.false_eq_true, Bool.not_true, Bool.not_false, eq_self, D.len_l, wr64, not_true_eq_false, not_false_eq_true]); exact rbox_full (c := (D.l l).cell k 1) (d := (D.l l).cell k 2) p1 p2 o.1 o.2.1) ?_
      rintro _ ρ2 rfl eρ
      refine ⟨rfl, ?_⟩
      simp only [List.cons_append, List.nil_append] at eρ
      subst eρ
      have e : max (max (p - cf l 1 k) (cf l 1 k - p)) (max (q - cf l 2 k) (cf l 2 k - q)) + cf l 3 k = bxF l p q k := rfl
      unfold okF at o
      refine To.ret (.inl ⟨rfl, m - 1, by omega, k + 1, ?_, by omega⟩)
      simp (disch := omega) only [X.den, X.dens, X.denss, D.int_i, D.boo_b, D.str_s, D.rows_l, List.getD_cons_zero, List.getD_cons_succ, List.cons_append, List.nil_append, List.append_nil, List.length_cons, List.length_nil, wr64, cf_def, nat_suc, bF, e]
    · obtain rfl : k = l.length := by omega
      exact To.ret (.inr ⟨rfl, by simp only [X.den, X.dens, X.denss, D.int_i, D.boo_b, D.str_s, D.rows_l, List.getD_cons_zero, List.getD_cons_succ, List.cons_append, List.nil_append, List.append_nil, List.length_cons, List.length_nil]⟩)
  rintro o ρ2 rfl eρ
  simp only [List.cons_append, List.nil_append] at eρ
  subst eρ
  exact ⟨rfl, To.ret (by simp only [X.den, X.dens, X.denss, D.int_i, D.boo_b, D.str_s, D.rows_l, List.getD_cons_zero, List.getD_cons_succ, List.cons_append, List.nil_append, List.append_nil, List.length_cons, List.length_nil])⟩
theorem rfuse_bad {l : List (List D)} (h : ¬ fck l = 0) : ∃ o, rFus09_T.run rfM9 30 [.l l] = some o ∧ o = [.i 0, .i 0, .i 0, .i (fck l)] := by
  refine run_to ?_
  unfold rFus09_T
  refine To.viaK (by (try simp (disch := omega) only [X.den, X.dens, X.denss, D.int_i, D.boo_b, D.str_s, D.rows_l, List.getD_cons_zero, List.getD_cons_succ, List.cons_append, List.nil_append, List.append_nil, List.length_cons, List.length_nil, decide_eq_true_eq, decide_eq_false_iff_not, Bool.not_eq_true', Bool.not_eq_false', Bool.and_eq_true, Bool.and_eq_false_iff, Bool.true_eq_false, Bool.false_eq_true, Bool.not_true, Bool.not_false, eq_self, D.len_l, wr64, not_true_eq_false, not_false_eq_true]); exact rcheck_full) ?_
  rintro _ ρ2 rfl eρ
  refine ⟨rfl, ?_⟩
  simp only [List.cons_append, List.nil_append] at eρ
  subst eρ
  refine To.no (by simp only [X.den, X.dens, X.denss, D.int_i, D.boo_b, D.str_s, D.rows_l, List.getD_cons_zero, List.getD_cons_succ, List.cons_append, List.nil_append, List.append_nil, List.length_cons, List.length_nil, decide_eq_true_eq, decide_eq_false_iff_not, Bool.not_eq_true', Bool.not_eq_false', Bool.and_eq_true, Bool.and_eq_false_iff, Bool.true_eq_false, Bool.false_eq_true, Bool.not_true, Bool.not_false, eq_self]; exact h) (To.ret ?_)
  simp only [X.den, X.dens, X.denss, D.int_i, D.boo_b, D.str_s, D.rows_l, List.getD_cons_zero, List.getD_cons_succ, List.cons_append, List.nil_append, List.append_nil, List.length_cons, List.length_nil]
theorem rFus09_ok : ConOk Try.prog rFus09_K (rFus09_T.run rfM9 30) := con_run follows (one_con (rChk09_ok.to _) (one_con (rWei_ok.to _) (one_con (rUp09_ok.to _) (one_con (rHlf09_ok.to _) (one_con (rBox09_ok.to _) no_cons))))) rFus09_t rfl 30
def rhM9 : Models := Models.on rChk09_K.f (rChk09_T.run rcM9 30) noM
theorem rcommon_full {l : List (List D)} (h : fck l = 0) : ∃ o, rCom09_T.run rhM9 30 [.l l] = some o ∧ o = coO l := by
  obtain ⟨⟨h0, h1⟩, hv⟩ := fck_zero h
  refine run_to ?_
  unfold rCom09_T
  refine To.viaK (by (try simp (disch := omega) only [X.den, X.dens, X.denss, D.int_i, D.boo_b, D.str_s, D.rows_l, List.getD_cons_zero, List.getD_cons_succ, List.cons_append, List.nil_append, List.append_nil, List.length_cons, List.length_nil, decide_eq_true_eq, decide_eq_false_iff_not, Bool.not_eq_true', Bool.not_eq_false', Bool.and_eq_true, Bool.and_eq_false_iff, Bool.true_eq_false, Bool.false_eq_true, Bool.not_true, Bool.not_false, eq_self, D.len_l, wr64, not_true_eq_false, not_false_eq_true]); exact rcheck_full) ?_
  rintro _ ρ2 rfl eρ
  refine ⟨rfl, ?_⟩
  simp only [List.cons_append, List.nil_append] at eρ
  subst eρ
  refine To.yes (by simp only [X.den, X.dens, X.denss, D.int_i, D.boo_b, D.str_s, D.rows_l, List.getD_cons_zero, List.getD_cons_succ, List.cons_append, List.nil_append, List.append_nil, List.length_cons, List.length_nil, decide_eq_true_eq, decide_eq_false_iff_not, Bool.not_eq_true', Bool.not_eq_false', Bool.and_eq_true, Bool.and_eq_false_iff, Bool.true_eq_false, Bool.false_eq_true, Bool.not_true, Bool.not_false, eq_self]; exact h) ?_
  refine To.need (by simp only [X.den, X.dens, X.denss, D.int_i, D.boo_b, D.str_s, D.rows_l, List.getD_cons_zero, List.getD_cons_succ, List.cons_append, List.nil_append, List.append_nil, List.length_cons, List.length_nil, decide_eq_true_eq, decide_eq_false_iff_not, Bool.not_eq_true', Bool.not_eq_false', Bool.and_eq_true, Bool.and_eq_false_iff, Bool.true_eq_false, Bool.false_eq_true, Bool.not_true, Bool.not_false, eq_self, D.len_l]; omega) ?_
  have o0 := hv 0 (by omega) (by omega)
  unfold okF at o0
  have i1 : cf l 1 0 - cf l 3 0 = loX l 1 0 := rfl
  have i2 : cf l 2 0 - cf l 3 0 = loX l 2 0 := rfl
  have i3 : cf l 1 0 + cf l 3 0 = hiX l 1 0 := rfl
  have i4 : cf l 2 0 + cf l 3 0 = hiX l 2 0 := rfl
  refine To.loopK (fun m o => ∃ k : Nat, o = [.i (mxF (loX l 1) k), .i (mxF (loX l 2) k), .i (mnF (hiX l 1) k), .i (mnF (hiX l 2) k), .i k] ∧ k + m = l.length) (fun o => o = [.i (mxF (loX l 1) l.length), .i (mxF (loX l 2) l.length), .i (mnF (hiX l 1) l.length), .i (mnF (hiX l 2) l.length)]) l.length (by omega) ?_ ?_ ?_
  · refine ⟨0, ?_, by omega⟩
    simp (disch := omega) only [X.den, X.dens, X.denss, D.int_i, D.boo_b, D.str_s, D.rows_l, List.getD_cons_zero, List.getD_cons_succ, List.cons_append, List.nil_append, List.append_nil, List.length_cons, List.length_nil, wr64, cf_def, mnF, mxF, i1, i2, i3, i4]
    rfl
  · rintro m o ρ2 ⟨k, rfl, hk⟩ eρ
    simp only [List.cons_append, List.nil_append] at eρ
    subst eρ
    refine To.ite (fun c => ?_) (fun c => ?_) <;> simp only [X.den, X.dens, X.denss, D.int_i, D.boo_b, D.str_s, D.rows_l, List.getD_cons_zero, List.getD_cons_succ, List.cons_append, List.nil_append, List.append_nil, List.length_cons, List.length_nil, decide_eq_true_eq, decide_eq_false_iff_not, Bool.not_eq_true', Bool.not_eq_false', Bool.and_eq_true, Bool.and_eq_false_iff, Bool.true_eq_false, Bool.false_eq_true, Bool.not_true, Bool.not_false, eq_self, D.len_l] at c
    · refine To.need (by simp only [X.den, X.dens, X.denss, D.int_i, D.boo_b, D.str_s, D.rows_l, List.getD_cons_zero, List.getD_cons_succ, List.cons_append, List.nil_append, List.append_nil, List.length_cons, List.length_nil, decide_eq_true_eq, decide_eq_false_iff_not, Bool.not_eq_true', Bool.not_eq_false', Bool.and_eq_true, Bool.and_eq_false_iff, Bool.true_eq_false, Bool.false_eq_true, Bool.not_true, Bool.not_false, eq_self, D.len_l]; omega) ?_
      have o1 := hv k (by omega) (by omega)
      unfold okF at o1
      have e1 : cf l 1 k - cf l 3 k = loX l 1 k := rfl
      have e2 : cf l 2 k - cf l 3 k = loX l 2 k := rfl
      have e3 : cf l 1 k + cf l 3 k = hiX l 1 k := rfl
      have e4 : cf l 2 k + cf l 3 k = hiX l 2 k := rfl
      refine To.ret (.inl ⟨rfl, m - 1, by omega, k + 1, ?_, by omega⟩)
      simp (disch := omega) only [X.den, X.dens, X.denss, D.int_i, D.boo_b, D.str_s, D.rows_l, List.getD_cons_zero, List.getD_cons_succ, List.cons_append, List.nil_append, List.append_nil, List.length_cons, List.length_nil, wr64, cf_def, e1, e2, e3, e4, nat_suc, mnF, mxF]
    · obtain rfl : k = l.length := by omega
      exact To.ret (.inr ⟨rfl, by simp only [X.den, X.dens, X.denss, D.int_i, D.boo_b, D.str_s, D.rows_l, List.getD_cons_zero, List.getD_cons_succ, List.cons_append, List.nil_append, List.append_nil, List.length_cons, List.length_nil]⟩)
  rintro o ρ2 rfl eρ
  simp only [List.cons_append, List.nil_append] at eρ
  subst eρ
  refine ⟨rfl, ?_⟩
  refine To.joinK (fun o => ∃ b, o = [.b b] ∧ (b = true ↔ (mnF (hiX l 1) l.length < mxF (loX l 1) l.length ∨ mnF (hiX l 2) l.length < mxF (loX l 2) l.length))) ?_ ?_
  · refine To.ite (fun c => ?_) (fun c => ?_) <;> simp only [X.den, X.dens, X.denss, D.int_i, D.boo_b, D.str_s, D.rows_l, List.getD_cons_zero, List.getD_cons_succ, List.cons_append, List.nil_append, List.append_nil, List.length_cons, List.length_nil, decide_eq_true_eq, decide_eq_false_iff_not, Bool.not_eq_true', Bool.not_eq_false', Bool.and_eq_true, Bool.and_eq_false_iff, Bool.true_eq_false, Bool.false_eq_true, Bool.not_true, Bool.not_false, eq_self] at c
    · exact To.ret ⟨rfl, true, by simp only [X.den, X.dens, X.denss, D.int_i, D.boo_b, D.str_s, D.rows_l, List.getD_cons_zero, List.getD_cons_succ, List.cons_append, List.nil_append, List.append_nil, List.length_cons, List.length_nil], by simp [c]⟩
    · exact To.ret ⟨rfl, decide (mnF (hiX l 2) l.length < mxF (loX l 2) l.length), by simp only [X.den, X.dens, X.denss, D.int_i, D.boo_b, D.str_s, D.rows_l, List.getD_cons_zero, List.getD_cons_succ, List.cons_append, List.nil_append, List.append_nil, List.length_cons, List.length_nil], by rw [decide_eq_true_eq]; simp [c]⟩
  rintro o ρ2 ⟨b, rfl, hb⟩ eρ
  simp only [List.cons_append, List.nil_append] at eρ
  subst eρ
  refine To.ite (fun c => ?_) (fun c => ?_) <;> simp only [X.den, X.dens, X.denss, D.int_i, D.boo_b, D.str_s, D.rows_l, List.getD_cons_zero, List.getD_cons_succ, List.cons_append, List.nil_append, List.append_nil, List.length_cons, List.length_nil] at c
  · refine To.ret ?_
    simp only [X.den, X.dens, X.denss, D.int_i, D.boo_b, D.str_s, D.rows_l, List.getD_cons_zero, List.getD_cons_succ, List.cons_append, List.nil_append, List.append_nil, List.length_cons, List.length_nil, coO]
    rw [if_pos (hb.1 c)]
  · refine To.ret ?_
    simp only [X.den, X.dens, X.denss, D.int_i, D.boo_b, D.str_s, D.rows_l, List.getD_cons_zero, List.getD_cons_succ, List.cons_append, List.nil_append, List.append_nil, List.length_cons, List.length_nil, coO]
    rw [if_neg (fun q => by rw [hb.2 q] at c; cases c)]
theorem rcommon_bad {l : List (List D)} (h : ¬ fck l = 0) : ∃ o, rCom09_T.run rhM9 30 [.l l] = some o ∧ o = [.i 0, .i 0, .i 0, .i 0, .b false] := by
  refine run_to ?_
  unfold rCom09_T
  refine To.viaK (by (try simp (disch := omega) only [X.den, X.dens, X.denss, D.int_i, D.boo_b, D.str_s, D.rows_l, List.getD_cons_zero, List.getD_cons_succ, List.cons_append, List.nil_append, List.append_nil, List.length_cons, List.length_nil, decide_eq_true_eq, decide_eq_false_iff_not, Bool.not_eq_true', Bool.not_eq_false', Bool.and_eq_true, Bool.and_eq_false_iff, Bool.true_eq_false, Bool.false_eq_true, Bool.not_true, Bool.not_false, eq_self, D.len_l, wr64, not_true_eq_false, not_false_eq_true]); exact rcheck_full) ?_
  rintro _ ρ2 rfl eρ
  refine ⟨rfl, ?_⟩
  simp only [List.cons_append, List.nil_append] at eρ
  subst eρ
  refine To.no (by simp only [X.den, X.dens, X.denss, D.int_i, D.boo_b, D.str_s, D.rows_l, List.getD_cons_zero, List.getD_cons_succ, List.cons_append, List.nil_append, List.append_nil, List.length_cons, List.length_nil, decide_eq_true_eq, decide_eq_false_iff_not, Bool.not_eq_true', Bool.not_eq_false', Bool.and_eq_true, Bool.and_eq_false_iff, Bool.true_eq_false, Bool.false_eq_true, Bool.not_true, Bool.not_false, eq_self]; exact h) (To.ret ?_)
  simp only [X.den, X.dens, X.denss, D.int_i, D.boo_b, D.str_s, D.rows_l, List.getD_cons_zero, List.getD_cons_succ, List.cons_append, List.nil_append, List.append_nil, List.length_cons, List.length_nil]
theorem rCom09_ok : ConOk Try.prog rCom09_K (rCom09_T.run rhM9 30) := con_run follows (one_con (rChk09_ok.to _) no_cons) rCom09_t rfl 30
theorem rhull_full {l : List (List D)} (h : fck l = 0) : ∃ o, rHul09_T.run rhM9 30 [.l l] = some o ∧ o = [.i (mnF (loX l 1) l.length), .i (mnF (loX l 2) l.length), .i (mxF (hiX l 1) l.length), .i (mxF (hiX l 2) l.length), .b true] := by
  obtain ⟨⟨h0, h1⟩, hv⟩ := fck_zero h
  refine run_to ?_
  unfold rHul09_T
  refine To.viaK (by (try simp (disch := omega) only [X.den, X.dens, X.denss, D.int_i, D.boo_b, D.str_s, D.rows_l, List.getD_cons_zero, List.getD_cons_succ, List.cons_append, List.nil_append, List.append_nil, List.length_cons, List.length_nil, decide_eq_true_eq, decide_eq_false_iff_not, Bool.not_eq_true', Bool.not_eq_false', Bool.and_eq_true, Bool.and_eq_false_iff, Bool.true_eq_false, Bool.false_eq_true, Bool.not_true, Bool.not_false, eq_self, D.len_l, wr64, not_true_eq_false, not_false_eq_true]); exact rcheck_full) ?_
  rintro _ ρ2 rfl eρ
  refine ⟨rfl, ?_⟩
  simp only [List.cons_append, List.nil_append] at eρ
  subst eρ
  refine To.yes (by simp only [X.den, X.dens, X.denss, D.int_i, D.boo_b, D.str_s, D.rows_l, List.getD_cons_zero, List.getD_cons_succ, List.cons_append, List.nil_append, List.append_nil, List.length_cons, List.length_nil, decide_eq_true_eq, decide_eq_false_iff_not, Bool.not_eq_true', Bool.not_eq_false', Bool.and_eq_true, Bool.and_eq_false_iff, Bool.true_eq_false, Bool.false_eq_true, Bool.not_true, Bool.not_false, eq_self]; exact h) ?_
  refine To.need (by simp only [X.den, X.dens, X.denss, D.int_i, D.boo_b, D.str_s, D.rows_l, List.getD_cons_zero, List.getD_cons_succ, List.cons_append, List.nil_append, List.append_nil, List.length_cons, List.length_nil, decide_eq_true_eq, decide_eq_false_iff_not, Bool.not_eq_true', Bool.not_eq_false', Bool.and_eq_true, Bool.and_eq_false_iff, Bool.true_eq_false, Bool.false_eq_true, Bool.not_true, Bool.not_false, eq_self, D.len_l]; omega) ?_
  have o0 := hv 0 (by omega) (by omega)
  unfold okF at o0
  have i1 : cf l 1 0 - cf l 3 0 = loX l 1 0 := rfl
  have i2 : cf l 2 0 - cf l 3 0 = loX l 2 0 := rfl
  have i3 : cf l 1 0 + cf l 3 0 = hiX l 1 0 := rfl
  have i4 : cf l 2 0 + cf l 3 0 = hiX l 2 0 := rfl
  refine To.loopK (fun m o => ∃ k : Nat, o = [.i (mnF (loX l 1) k), .i (mnF (loX l 2) k), .i (mxF (hiX l 1) k), .i (mxF (hiX l 2) k), .i k] ∧ k + m = l.length) (fun o => o = [.i (mnF (loX l 1) l.length), .i (mnF (loX l 2) l.length), .i (mxF (hiX l 1) l.length), .i (mxF (hiX l 2) l.length)]) l.length (by omega) ?_ ?_ ?_
  · refine ⟨0, ?_, by omega⟩
    simp (disch := omega) only [X.den, X.dens, X.denss, D.int_i, D.boo_b, D.str_s, D.rows_l, List.getD_cons_zero, List.getD_cons_succ, List.cons_append, List.nil_append, List.append_nil, List.length_cons, List.length_nil, wr64, cf_def, mnF, mxF, i1, i2, i3, i4]
    rfl
  · rintro m o ρ2 ⟨k, rfl, hk⟩ eρ
    simp only [List.cons_append, List.nil_append] at eρ
    subst eρ
    refine To.ite (fun c => ?_) (fun c => ?_) <;> simp only [X.den, X.dens, X.denss, D.int_i, D.boo_b, D.str_s, D.rows_l, List.getD_cons_zero, List.getD_cons_succ, List.cons_append, List.nil_append, List.append_nil, List.length_cons, List.length_nil, decide_eq_true_eq, decide_eq_false_iff_not, Bool.not_eq_true', Bool.not_eq_false', Bool.and_eq_true, Bool.and_eq_false_iff, Bool.true_eq_false, Bool.false_eq_true, Bool.not_true, Bool.not_false, eq_self, D.len_l] at c
    · refine To.need (by simp only [X.den, X.dens, X.denss, D.int_i, D.boo_b, D.str_s, D.rows_l, List.getD_cons_zero, List.getD_cons_succ, List.cons_append, List.nil_append, List.append_nil, List.length_cons, List.length_nil, decide_eq_true_eq, decide_eq_false_iff_not, Bool.not_eq_true', Bool.not_eq_false', Bool.and_eq_true, Bool.and_eq_false_iff, Bool.true_eq_false, Bool.false_eq_true, Bool.not_true, Bool.not_false, eq_self, D.len_l]; omega) ?_
      have o1 := hv k (by omega) (by omega)
      unfold okF at o1
      have e1 : cf l 1 k - cf l 3 k = loX l 1 k := rfl
      have e2 : cf l 2 k - cf l 3 k = loX l 2 k := rfl
      have e3 : cf l 1 k + cf l 3 k = hiX l 1 k := rfl
      have e4 : cf l 2 k + cf l 3 k = hiX l 2 k := rfl
      refine To.ret (.inl ⟨rfl, m - 1, by omega, k + 1, ?_, by omega⟩)
      simp (disch := omega) only [X.den, X.dens, X.denss, D.int_i, D.boo_b, D.str_s, D.rows_l, List.getD_cons_zero, List.getD_cons_succ, List.cons_append, List.nil_append, List.append_nil, List.length_cons, List.length_nil, wr64, cf_def, e1, e2, e3, e4, nat_suc, mnF, mxF]
    · obtain rfl : k = l.length := by omega
      exact To.ret (.inr ⟨rfl, by simp only [X.den, X.dens, X.denss, D.int_i, D.boo_b, D.str_s, D.rows_l, List.getD_cons_zero, List.getD_cons_succ, List.cons_append, List.nil_append, List.append_nil, List.length_cons, List.length_nil]⟩)
  rintro o ρ2 rfl eρ
  simp only [List.cons_append, List.nil_append] at eρ
  subst eρ
  exact ⟨rfl, To.ret (by simp only [X.den, X.dens, X.denss, D.int_i, D.boo_b, D.str_s, D.rows_l, List.getD_cons_zero, List.getD_cons_succ, List.cons_append, List.nil_append, List.append_nil, List.length_cons, List.length_nil])⟩
theorem rhull_bad {l : List (List D)} (h : ¬ fck l = 0) : ∃ o, rHul09_T.run rhM9 30 [.l l] = some o ∧ o = [.i 0, .i 0, .i 0, .i 0, .b false] := by
  refine run_to ?_
  unfold rHul09_T
  refine To.viaK (by (try simp (disch := omega) only [X.den, X.dens, X.denss, D.int_i, D.boo_b, D.str_s, D.rows_l, List.getD_cons_zero, List.getD_cons_succ, List.cons_append, List.nil_append, List.append_nil, List.length_cons, List.length_nil, decide_eq_true_eq, decide_eq_false_iff_not, Bool.not_eq_true', Bool.not_eq_false', Bool.and_eq_true, Bool.and_eq_false_iff, Bool.true_eq_false, Bool.false_eq_true, Bool.not_true, Bool.not_false, eq_self, D.len_l, wr64, not_true_eq_false, not_false_eq_true]); exact rcheck_full) ?_
  rintro _ ρ2 rfl eρ
  refine ⟨rfl, ?_⟩
  simp only [List.cons_append, List.nil_append] at eρ
  subst eρ
  refine To.no (by simp only [X.den, X.dens, X.denss, D.int_i, D.boo_b, D.str_s, D.rows_l, List.getD_cons_zero, List.getD_cons_succ, List.cons_append, List.nil_append, List.append_nil, List.length_cons, List.length_nil, decide_eq_true_eq, decide_eq_false_iff_not, Bool.not_eq_true', Bool.not_eq_false', Bool.and_eq_true, Bool.and_eq_false_iff, Bool.true_eq_false, Bool.false_eq_true, Bool.not_true, Bool.not_false, eq_self]; exact h) (To.ret ?_)
  simp only [X.den, X.dens, X.denss, D.int_i, D.boo_b, D.str_s, D.rows_l, List.getD_cons_zero, List.getD_cons_succ, List.cons_append, List.nil_append, List.append_nil, List.length_cons, List.length_nil]
theorem rHul09_ok : ConOk Try.prog rHul09_K (rHul09_T.run rhM9 30) := con_run follows (one_con (rChk09_ok.to _) no_cons) rHul09_t rfl 30
theorem gGro_ok : ConOk Try.prog gGro_K (gGro_T.run noM 0) := con_run follows no_cons gGro_t rfl 0
theorem rGro09_ok : ConOk Try.prog rGro09_K (gGro_T.run noM 0) := con_run follows no_cons rGro09_t rfl 0
/-- what Grow gives; where it is right it is not less than the bound -/
theorem grow_to {a b c : D} : ∃ o, gGro_T.run noM 0 [a, b, c] = some o ∧ ∃ n e : Int, o = [.i n, .i e] ∧ (e = 0 → a.int ≤ n) := by
  obtain ⟨x, hx⟩ : ∃ x, a.int = x := ⟨_, rfl⟩
  obtain ⟨y, hy⟩ : ∃ y, b.int = y := ⟨_, rfl⟩
  obtain ⟨z, hz⟩ : ∃ z, c.int = z := ⟨_, rfl⟩
  rw [hx]
  refine run_to ?_
  unfold gGro_T
  refine To.joinK (fun o => ∃ u, o = [.b u] ∧ (u = false → (0 ≤ x ∧ x ≤ 200000000) ∧ (0 ≤ y ∧ y ≤ 1000) ∧ (0 ≤ z ∧ z ≤ 2147483648))) ?_ ?_
  · (repeat' (refine To.ite (fun c => ?_) (fun c => ?_) <;> simp only [X.den, X.dens, X.denss, D.int_i, D.boo_b, D.str_s, D.rows_l, List.getD_cons_zero, List.getD_cons_succ, List.cons_append, List.nil_append, List.append_nil, List.length_cons, List.length_nil, decide_eq_true_eq, decide_eq_false_iff_not, Bool.not_eq_true', Bool.not_eq_false', Bool.and_eq_true, Bool.and_eq_false_iff, Bool.true_eq_false, Bool.false_eq_true, Bool.not_true, Bool.not_false, eq_self, hx, hy, hz] at c))
    · exact To.ret ⟨rfl, true, by simp only [X.den, X.dens, X.denss, D.int_i, D.boo_b, D.str_s, D.rows_l, List.getD_cons_zero, List.getD_cons_succ, List.cons_append, List.nil_append, List.append_nil, List.length_cons, List.length_nil], fun q => by cases q⟩
    · exact To.ret ⟨rfl, true, by simp only [X.den, X.dens, X.denss, D.int_i, D.boo_b, D.str_s, D.rows_l, List.getD_cons_zero, List.getD_cons_succ, List.cons_append, List.nil_append, List.append_nil, List.length_cons, List.length_nil], fun q => by cases q⟩
    · exact To.ret ⟨rfl, true, by simp only [X.den, X.dens, X.denss, D.int_i, D.boo_b, D.str_s, D.rows_l, List.getD_cons_zero, List.getD_cons_succ, List.cons_append, List.nil_append, List.append_nil, List.length_cons, List.length_nil], fun q => by cases q⟩
    · exact To.ret ⟨rfl, true, by simp only [X.den, X.dens, X.denss, D.int_i, D.boo_b, D.str_s, D.rows_l, List.getD_cons_zero, List.getD_cons_succ, List.cons_append, List.nil_append, List.append_nil, List.length_cons, List.length_nil], fun q => by cases q⟩
    · exact To.ret ⟨rfl, true, by simp only [X.den, X.dens, X.denss, D.int_i, D.boo_b, D.str_s, D.rows_l, List.getD_cons_zero, List.getD_cons_succ, List.cons_append, List.nil_append, List.append_nil, List.length_cons, List.length_nil], fun q => by cases q⟩
    · refine To.ret ⟨rfl, decide (2147483648 < z), by simp only [X.den, X.dens, X.denss, D.int_i, D.boo_b, D.str_s, D.rows_l, List.getD_cons_zero, List.getD_cons_succ, List.cons_append, List.nil_append, List.append_nil, List.length_cons, List.length_nil, hz], fun q => ?_⟩
      rw [decide_eq_false_iff_not] at q
      omega
  rintro o ρ2 ⟨u, rfl, hu⟩ eρ
  simp only [List.cons_append, List.nil_append] at eρ
  subst eρ
  refine To.ite (fun c => ?_) (fun c => ?_) <;> simp only [X.den, X.dens, X.denss, D.int_i, D.boo_b, D.str_s, D.rows_l, List.getD_cons_zero, List.getD_cons_succ, List.cons_append, List.nil_append, List.append_nil, List.length_cons, List.length_nil] at c
  · exact To.ret ⟨0, 1, by simp only [X.den, X.dens, X.denss, D.int_i, D.boo_b, D.str_s, D.rows_l, List.getD_cons_zero, List.getD_cons_succ, List.cons_append, List.nil_append, List.append_nil, List.length_cons, List.length_nil], fun q => by cases q⟩
  · obtain ⟨h1, h2, h3⟩ := hu c
    have p0 := Int.mul_nonneg h2.1 h3.1
    have p1 := Int.mul_le_mul h2.2 h3.2 h3.1 (by decide)
    refine To.ret ⟨min (x + y * z) 200000000, 0, ?_, fun _ => by omega⟩
    simp (disch := omega) only [X.den, X.dens, X.denss, D.int_i, D.boo_b, D.str_s, D.rows_l, List.getD_cons_zero, List.getD_cons_succ, List.cons_append, List.nil_append, List.append_nil, List.length_cons, List.length_nil, hx, hy, hz, wr64]
end Go.Proofs.Ytlhnhidoljfnnaa
