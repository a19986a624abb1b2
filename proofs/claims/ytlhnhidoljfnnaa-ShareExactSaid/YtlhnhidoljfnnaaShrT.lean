/- The trees of share. -/
import Derived.Test.YtlhnhidoljfnnaaRnd
import Derived.Test.YtlhnhidoljfnnaaAuto
import Derived.Test.YtlhnhidoljfnnaaShM
set_option linter.unusedVariables false
namespace Go.Proofs.Ytlhnhidoljfnnaa
open Go.RowKit Fx
def aFloor_K : Con := ⟨112, [.val false [.int .i64], .val false [.int .i64]], [.val false [.int .i64], .val false [.int .i64]], []⟩
def aFloor_T : T (List X) :=
  (.sub (.sub (.ite (.lt (.V 0) (.N (-1000000000000000000)))
    (.ret [(.B true)])
    (.ite (.lt (.N 1000000000000000000) (.V 0))
     (.ret [(.B true)])
     (.ite (.lt (.V 1) (.N 1))
      (.ret [(.B true)])
      (.ret [(.lt (.N 1000000000) (.V 1))])))) 1
   (.ite (.V 2)
    (.ret [(.N 0), (.N 1)])
    (.need (.not (.eq (.V 1) (.N 0)))
     (.sub (.ite (.lt (.rem (.V 0) (.V 1)) (.N 0))
       (.ret [(.wr .i64 (.sub (.wr .i64 (.quo (.V 0) (.V 1))) (.N 1))), (.wr .i64 (.add (.rem (.V 0) (.V 1)) (.V 1)))])
       (.ret [(.wr .i64 (.quo (.V 0) (.V 1))), (.rem (.V 0) (.V 1))])) 2
      (.ret [(.V 3), (.N 0)]))))) 2
  (.ret [(.V 2), (.V 3)]))
set_option maxRecDepth 100000 in
theorem aFloor_t : runS Try.prog [] [] aFloor_K = aFloor_T := by kernel_rfl
def shValid_H : List Hint := [
  ⟨1099511627540, 1, [], ⟨[.und, .und, .int .i64 (.N 0), .und, .und, .und, .und, .und, .var 0, .int .i64 (.len (.V 0)), .int .i64 (.V 1), .und, .und, .und, .und, .und, .und, .und, .und, .und, .und, .und, .und, .und, .und, .und, .und, .und, .und, .und, .und, .und, .und, .und, .und, .und, .und, .und, .und, .und], [], 2, 1, [none, none], [], [⟨0, [.int .i64, .int .i64, .int .i64], (.V 0)⟩]⟩⟩]
def shValid_K : Con := ⟨20, [.val false [.sl [.int .i64, .int .i64, .int .i64]]], [.val false [.int .i64]], []⟩
def shValid_T : T (List X) :=
  (.ite (.lt (.N 8) (.len (.V 0)))
  (.ret [(.N 2)])
  (.loop [(.N 0)]
   (.ite (.lt (.V 1) (.len (.V 0)))
    (.need (.and (.not (.lt (.V 1) (.N 0))) (.lt (.V 1) (.len (.V 0))))
     (.sub (.ite (.lt (.at (.V 0) (.V 1) 0) (.N (-5000)))
       (.ret [(.B true), (.B true), (.B true), (.B true), (.B true), (.B true), (.B true)])
       (.ite (.lt (.at (.V 0) (.V 1) 1) (.at (.V 0) (.V 1) 0))
        (.ret [(.lt (.at (.V 0) (.V 1) 1) (.at (.V 0) (.V 1) 0)), (.lt (.at (.V 0) (.V 1) 1) (.at (.V 0) (.V 1) 0)), (.B true), (.B true), (.B true), (.B true), (.B true)])
        (.ite (.lt (.N 5000) (.at (.V 0) (.V 1) 1))
         (.ret [(.lt (.at (.V 0) (.V 1) 1) (.at (.V 0) (.V 1) 0)), (.lt (.at (.V 0) (.V 1) 1) (.at (.V 0) (.V 1) 0)), (.lt (.N 5000) (.at (.V 0) (.V 1) 1)), (.lt (.N 5000) (.at (.V 0) (.V 1) 1)), (.B true), (.B true), (.B true)])
         (.ite (.lt (.at (.V 0) (.V 1) 2) (.N 1))
          (.ret [(.lt (.at (.V 0) (.V 1) 1) (.at (.V 0) (.V 1) 0)), (.lt (.at (.V 0) (.V 1) 1) (.at (.V 0) (.V 1) 0)), (.lt (.N 5000) (.at (.V 0) (.V 1) 1)), (.lt (.N 5000) (.at (.V 0) (.V 1) 1)), (.lt (.at (.V 0) (.V 1) 2) (.N 1)), (.lt (.at (.V 0) (.V 1) 2) (.N 1)), (.B true)])
          (.ret [(.lt (.at (.V 0) (.V 1) 1) (.at (.V 0) (.V 1) 0)), (.lt (.at (.V 0) (.V 1) 1) (.at (.V 0) (.V 1) 0)), (.lt (.N 5000) (.at (.V 0) (.V 1) 1)), (.lt (.N 5000) (.at (.V 0) (.V 1) 1)), (.lt (.at (.V 0) (.V 1) 2) (.N 1)), (.lt (.at (.V 0) (.V 1) 2) (.N 1)), (.lt (.N 100) (.at (.V 0) (.V 1) 2))]))))) 7
      (.ite (.V 8)
       (.ret (false, [(.N 0), (.at (.V 0) (.V 1) 0), (.at (.V 0) (.V 1) 1), (.at (.V 0) (.V 1) 2)]))
       (.ret (true, [(.wr .i64 (.add (.V 1) (.N 1)))])))))
    (.ret (false, [(.N 1), (.N 0), (.N 0), (.N 0)]))) 4
   (.ite (.eq (.V 1) (.N 0))
    (.ret [(.N 1)])
    (.ret [(.N 0)]))))
set_option maxRecDepth 100000 in
theorem shValid_t : runS Try.prog [] [(20, shValid_H)] shValid_K = shValid_T := by kernel_rfl
def shReach_H : List Hint := [
  ⟨1073733788, 2, [], ⟨[.und, .und, .int .i64 (.V 2), .int .i64 (.V 3), .int .i64 (.N 0), .und, .und, .und, .und, .und, .und, .und, .und, .var 0, .int .i64 (.len (.V 0)), .int .i64 (.V 4), .und, .und, .und, .und, .und, .und, .und, .und, .und, .und, .und, .und, .und, .und], [], 5, 1, [none, none, none, none, none], [], [⟨0, [.int .i64, .int .i64, .int .i64], (.V 0)⟩]⟩⟩]
def shReach_K : Con := ⟨18, [.val false [.sl [.int .i64, .int .i64, .int .i64]]], [.val false [.int .i64], .val false [.int .i64], .val false [.int .i64]], []⟩
def shReach_T : T (List X) :=
  (.call 20 [(.V 0)] 1
  (.ite (.eq (.V 1) (.N 0))
   (.loop [(.N 0), (.N 0), (.N 0)]
    (.ite (.lt (.V 4) (.len (.V 0)))
     (.need (.and (.not (.lt (.V 4) (.N 0))) (.lt (.V 4) (.len (.V 0))))
      (.ret (true, [(.wr .i64 (.add (.V 2) (.at (.V 0) (.V 4) 0))), (.wr .i64 (.add (.V 3) (.at (.V 0) (.V 4) 1))), (.wr .i64 (.add (.V 4) (.N 1)))])))
     (.ret (false, [(.V 2), (.V 3)]))) 2
    (.ret [(.V 2), (.V 3), (.N 0)]))
   (.ret [(.N 0), (.N 0), (.V 1)])))
set_option maxRecDepth 100000 in
theorem shReach_t : runS Try.prog [shValid_K.to []] [(18, shReach_H)] shReach_K = shReach_T := by kernel_rfl
def shInR_H : List Hint := [
  ⟨68719472754, 2, [], ⟨[.und, .var 1, .und, .und, .bool (.B false), .und, .und, .und, .und, .und, .und, .und, .var 0, .int .i64 (.len (.V 0)), .int .i64 (.V 2), .und, .und, .und, .und, .und, .und, .und, .und, .und, .und, .und, .und, .und, .und, .und, .und, .und, .und, .und, .und, .und], [], 3, 2, [none, none, none], [], [⟨0, [.int .i64, .int .i64, .int .i64], (.V 0)⟩, ⟨1, [.int .i64], (.V 1)⟩]⟩⟩]
def shInR_K : Con := ⟨74, [.val false [.sl [.int .i64, .int .i64, .int .i64]], .val false [.sl [.int .i64]]], [.val false [.bool]], []⟩
def shInR_T : T (List X) :=
  (.ite (.eq (.len (.V 1)) (.len (.V 0)))
  (.loop [(.N 0)]
   (.ite (.lt (.V 2) (.len (.V 0)))
    (.need (.and (.not (.lt (.V 2) (.N 0))) (.lt (.V 2) (.len (.V 0))))
     (.sub (.need (.and (.not (.lt (.V 2) (.N 0))) (.lt (.V 2) (.len (.V 1))))
       (.ite (.lt (.at (.V 1) (.V 2) 0) (.at (.V 0) (.V 2) 0))
        (.ret [(.B true)])
        (.ret [(.lt (.at (.V 0) (.V 2) 1) (.at (.V 1) (.V 2) 0))]))) 1
      (.ite (.V 3)
       (.ret (false, [(.N 0), (.at (.V 0) (.V 2) 0), (.at (.V 0) (.V 2) 1), (.at (.V 0) (.V 2) 2)]))
       (.ret (true, [(.wr .i64 (.add (.V 2) (.N 1)))])))))
    (.ret (false, [(.N 1), (.N 0), (.N 0), (.N 0)]))) 4
   (.ite (.eq (.V 2) (.N 0))
    (.ret [(.B false)])
    (.ret [(.B true)])))
  (.ret [(.B false)]))
set_option maxRecDepth 100000 in
theorem shInR_t : runS Try.prog [] [(74, shInR_H)] shInR_K = shInR_T := by kernel_rfl
def shSum_H : List Hint := [
  ⟨140737471579058, 4, [], ⟨[.und, .var 1, .und, .und, .int .i64 (.N 0), .int .i64 (.N 0), .und, .int .i64 (.V 4), .und, .und, .und, .und, .und, .und, .und, .und, .und, .und, .und, .und, .und, .und, .und, .und, .var 0, .int .i64 (.len (.V 0)), .int .i64 (.V 5), .und, .und, .und, .und, .und, .und, .und, .und, .und, .und, .und, .und, .und, .und, .und, .und, .und, .und, .und, .und], [], 6, 2, [none, none, none, none, none, none], [], [⟨0, [.int .i64, .int .i64, .int .i64], (.V 0)⟩, ⟨1, [.int .i64], (.V 1)⟩]⟩⟩]
def shSum_K : Con := ⟨27, [.val false [.sl [.int .i64, .int .i64, .int .i64]], .val false [.sl [.int .i64]]], [.val false [.int .i64], .val false [.int .i64]], []⟩
def shSum_T : T (List X) :=
  (.call 20 [(.V 0)] 1
  (.ite (.eq (.V 2) (.N 0))
   (.ite (.eq (.len (.V 1)) (.len (.V 0)))
    (.call 74 [(.V 0), (.V 1)] 1
     (.ite (.V 3)
      (.loop [(.N 0), (.N 0)]
       (.ite (.lt (.V 5) (.len (.V 0)))
        (.need (.and (.not (.lt (.V 5) (.N 0))) (.lt (.V 5) (.len (.V 0))))
         (.need (.and (.not (.lt (.V 5) (.N 0))) (.lt (.V 5) (.len (.V 1))))
          (.ret (true, [(.wr .i64 (.add (.V 4) (.wr .i64 (.mul (.wr .i64 (.mul (.at (.V 0) (.V 5) 2) (.at (.V 1) (.V 5) 0))) (.at (.V 1) (.V 5) 0))))), (.wr .i64 (.add (.V 5) (.N 1)))]))))
        (.ret (false, [(.V 4)]))) 1
       (.ret [(.V 4), (.N 0)]))
      (.ret [(.N 0), (.N 1)])))
    (.ret [(.N 0), (.N 8)]))
   (.ret [(.N 0), (.V 2)])))
set_option maxRecDepth 100000 in
theorem shSum_t : runS Try.prog [shValid_K.to [], shInR_K.to []] [(27, shSum_H)] shSum_K = shSum_T := by kernel_rfl
def shPrice_H : List Hint := [
  ⟨1152921504606585345, 3, [], ⟨[.und, .var 1, .und, .und, .int .i64 (.V 3), .int .i64 (.V 4), .bool (.B false), .und, .und, .und, .und, .und, .und, .und, .und, .und, .und, .und, .var 0, .int .i64 (.len (.V 0)), .int .i64 (.V 5), .und, .und, .und, .und, .und, .und, .und, .und, .und, .und, .und, .und, .und, .und, .und, .und, .und, .und, .und, .und, .und, .und, .und, .und, .und, .und, .und, .und, .und, .und, .und, .und, .und, .und, .und, .und, .und, .und, .und, .und, .und, .und, .und], [], 6, 2, [none, none, none, none, none, none], [], [⟨0, [.int .i64, .int .i64, .int .i64], (.V 0)⟩, ⟨1, [.int .i64], (.V 1)⟩]⟩⟩]
def shPrice_K : Con := ⟨29, [.val false [.sl [.int .i64, .int .i64, .int .i64]], .val false [.sl [.int .i64]]], [.val false [.int .i64], .val false [.int .i64], .val false [.bool]], []⟩
def shPrice_T : T (List X) :=
  (.sub (.call 20 [(.V 0)] 1
   (.ite (.eq (.V 2) (.N 0))
    (.call 74 [(.V 0), (.V 1)] 1
     (.ret [(.not (.V 3))]))
    (.ret [(.B true)]))) 1
  (.ite (.V 2)
   (.ret [(.N 0), (.N 0), (.B false)])
   (.loop [(.N (-1000200)), (.N 1000200), (.N 0)]
    (.ite (.lt (.V 5) (.len (.V 0)))
     (.sub (.need (.and (.not (.lt (.V 5) (.N 0))) (.lt (.V 5) (.len (.V 0))))
       (.sub (.need (.and (.not (.lt (.V 5) (.N 0))) (.lt (.V 5) (.len (.V 1))))
         (.ite (.lt (.at (.V 0) (.V 5) 0) (.at (.V 1) (.V 5) 0))
          (.ret [(.mx (.V 3) (.wr .i64 (.mul (.at (.V 0) (.V 5) 2) (.wr .i64 (.sub (.wr .i64 (.mul (.N 2) (.at (.V 1) (.V 5) 0))) (.N 1))))))])
          (.ret [(.V 3)]))) 1
        (.need (.and (.not (.lt (.V 5) (.N 0))) (.lt (.V 5) (.len (.V 1))))
         (.ite (.lt (.at (.V 1) (.V 5) 0) (.at (.V 0) (.V 5) 1))
          (.ret [(.V 6), (.mn (.V 4) (.wr .i64 (.mul (.at (.V 0) (.V 5) 2) (.wr .i64 (.add (.wr .i64 (.mul (.N 2) (.at (.V 1) (.V 5) 0))) (.N 1))))))])
          (.ret [(.V 6), (.V 4)]))))) 2
      (.ret (true, [(.V 6), (.V 7), (.wr .i64 (.add (.V 5) (.N 1)))])))
     (.ret (false, [(.V 3), (.V 4)]))) 2
    (.sub (.ite (.eq (.V 3) (.N (-1000200)))
      (.ret [(.B true)])
      (.ret [(.eq (.V 4) (.N 1000200))])) 1
     (.ite (.V 5)
      (.ret [(.N 0), (.N 0), (.B false)])
      (.ret [(.V 3), (.V 4), (.B true)]))))))
set_option maxRecDepth 100000 in
theorem shPrice_t : runS Try.prog [shValid_K.to [], shInR_K.to []] [(29, shPrice_H)] shPrice_K = shPrice_T := by kernel_rfl
def shCheck_H : List Hint := [
  ⟨131052, 7, [], ⟨[.und, .und, .int .i64 (.N 0), .int .i64 (.V 7), .und, .und, .var 1, .int .i64 (.len (.V 2)), .int .i64 (.V 8), .und, .und, .und, .und, .und, .und, .und, .und], [], 9, 2, [none, none, none, none, none, none, none, none, none], [], [⟨0, [.int .i64, .int .i64, .int .i64], (.V 0)⟩, ⟨1, [.int .i64], (.V 2)⟩]⟩⟩,
  ⟨1152921470247111748, 7, [], ⟨[.var 0, .und, .var 1, .und, .und, .und, .bool (.B false), .und, .und, .und, .und, .und, .und, .und, .und, .und, .und, .und, .und, .und, .und, .und, .und, .und, .und, .und, .und, .und, .und, .und, .und, .und, .und, .und, .und, .und, .int .i64 (.len (.V 0)), .int .i64 (.V 7), .und, .und, .und, .und, .und, .und, .und, .und, .und, .und, .und, .und, .und, .und, .und, .und, .und, .und, .und, .und, .und, .und, .und, .und, .und, .und, .und, .und, .und, .und, .und, .und, .und, .und, .und, .und, .und, .und, .und, .und, .und, .und, .und, .und, .und, .und, .und, .und, .und, .und, .und, .und, .und, .und, .und, .und, .und], [], 8, 2, [none, none, none, none, none, none, none, none], [], [⟨0, [.int .i64, .int .i64, .int .i64], (.V 0)⟩, ⟨1, [.int .i64], (.V 2)⟩]⟩⟩,
  ⟨1152921470247111748, 8, [], ⟨[.var 0, .und, .var 1, .und, .und, .und, .bool (.B false), .und, .und, .und, .int .i64 (.V 7), .und, .und, .und, .und, .und, .und, .und, .und, .und, .und, .und, .und, .und, .und, .und, .und, .und, .und, .und, .und, .und, .und, .und, .und, .und, .int .i64 (.len (.V 0)), .int .i64 (.V 7), .bool (.lt (.V 7) (.len (.V 0))), .int .i64 (.V 7), .var 0, .int .i64 (.len (.V 0)), .int .i64 (.V 8), .und, .und, .und, .und, .und, .und, .und, .und, .und, .und, .und, .und, .und, .und, .und, .und, .und, .und, .und, .und, .und, .und, .und, .und, .und, .und, .und, .und, .und, .und, .und, .und, .und, .und, .und, .und, .und, .und, .und, .und, .und, .und, .und, .und, .und, .und, .und, .und, .und, .und, .und, .und], [], 9, 2, [none, none, none, none, none, none, none, none, none], [], [⟨0, [.int .i64, .int .i64, .int .i64], (.V 0)⟩, ⟨1, [.int .i64], (.V 2)⟩]⟩⟩]
def shCheck_K : Con := ⟨31, [.val false [.sl [.int .i64, .int .i64, .int .i64]], .val false [.int .i64], .val false [.sl [.int .i64]]], [.val false [.bool]], []⟩
def shCheck_T : T (List X) :=
  (.call 18 [(.V 0)] 3
  (.sub (.ite (.eq (.V 5) (.N 0))
    (.call 74 [(.V 0), (.V 2)] 1
     (.ite (.V 6)
      (.loop [(.N 0), (.N 0)]
       (.ite (.lt (.V 8) (.len (.V 2)))
        (.need (.and (.not (.lt (.V 8) (.N 0))) (.lt (.V 8) (.len (.V 2))))
         (.ret (true, [(.wr .i64 (.add (.V 7) (.at (.V 2) (.V 8) 0))), (.wr .i64 (.add (.V 8) (.N 1)))])))
        (.ret (false, [(.V 7)]))) 1
       (.ret [(.not (.eq (.V 7) (.mx (.V 3) (.mn (.V 1) (.V 4)))))]))
      (.ret [(.B true)])))
    (.ret [(.B true)])) 1
   (.ite (.V 6)
    (.ret [(.B false)])
    (.loop [(.N 0)]
     (.ite (.lt (.V 7) (.len (.V 0)))
      (.loop [(.N 0)]
       (.ite (.lt (.V 8) (.len (.V 0)))
        (.sub (.ite (.eq (.V 7) (.V 8))
          (.ret [(.B false), (.B false), (.B false), (.B false), (.B false)])
          (.need (.and (.not (.lt (.V 7) (.N 0))) (.lt (.V 7) (.len (.V 2))))
           (.need (.and (.not (.lt (.V 7) (.N 0))) (.lt (.V 7) (.len (.V 0))))
            (.ite (.lt (.at (.V 0) (.V 7) 0) (.at (.V 2) (.V 7) 0))
             (.need (.and (.not (.lt (.V 8) (.N 0))) (.lt (.V 8) (.len (.V 2))))
              (.need (.and (.not (.lt (.V 8) (.N 0))) (.lt (.V 8) (.len (.V 0))))
               (.ite (.lt (.at (.V 2) (.V 8) 0) (.at (.V 0) (.V 8) 1))
                (.ret [(.lt (.at (.V 0) (.V 7) 0) (.at (.V 2) (.V 7) 0)), (.lt (.at (.V 0) (.V 7) 0) (.at (.V 2) (.V 7) 0)), (.lt (.at (.V 2) (.V 8) 0) (.at (.V 0) (.V 8) 1)), (.lt (.at (.V 2) (.V 8) 0) (.at (.V 0) (.V 8) 1)), (.lt (.wr .i64 (.mul (.at (.V 0) (.V 8) 2) (.wr .i64 (.add (.wr .i64 (.mul (.N 2) (.at (.V 2) (.V 8) 0))) (.N 1))))) (.wr .i64 (.mul (.at (.V 0) (.V 7) 2) (.wr .i64 (.sub (.wr .i64 (.mul (.N 2) (.at (.V 2) (.V 7) 0))) (.N 1))))))])
                (.ret [(.lt (.at (.V 0) (.V 7) 0) (.at (.V 2) (.V 7) 0)), (.lt (.at (.V 0) (.V 7) 0) (.at (.V 2) (.V 7) 0)), (.lt (.at (.V 2) (.V 8) 0) (.at (.V 0) (.V 8) 1)), (.lt (.at (.V 2) (.V 8) 0) (.at (.V 0) (.V 8) 1)), (.B false)]))))
             (.ret [(.lt (.at (.V 0) (.V 7) 0) (.at (.V 2) (.V 7) 0)), (.lt (.at (.V 0) (.V 7) 0) (.at (.V 2) (.V 7) 0)), (.B false), (.B false), (.B false)]))))) 5
         (.ite (.V 13)
          (.ret (false, [(.N 0), (.V 8), (.V 8), (.lt (.V 8) (.len (.V 0))), (.V 8), (.V 8), (.not (.eq (.V 7) (.V 8))), (.not (.eq (.V 7) (.V 8))), (.V 9), (.V 10), (.V 11), (.V 12), (.V 13)]))
          (.ret (true, [(.wr .i64 (.add (.V 8) (.N 1)))]))))
        (.ret (false, [(.N 1), (.V 8), (.lt (.V 8) (.len (.V 0))), (.N 0), (.N 0), (.N 0), (.N 0), (.N 0), (.N 0), (.N 0), (.N 0), (.N 0), (.N 0)]))) 13
       (.ite (.eq (.V 8) (.N 0))
        (.ret (false, [(.N 0)]))
        (.ret (true, [(.wr .i64 (.add (.V 7) (.N 1)))]))))
      (.ret (false, [(.N 1)]))) 1
     (.ite (.eq (.V 7) (.N 0))
      (.ret [(.B false)])
      (.ret [(.B true)]))))))
set_option maxRecDepth 100000 in
theorem shCheck_t : runS Try.prog [shReach_K.to [], shInR_K.to []] [(31, shCheck_H), (70, shCheck_H)] shCheck_K = shCheck_T := by kernel_rfl
def shDivide_H : List Hint := [
  ⟨67108594, 6, [], ⟨[.und, .fn 69 [] [.ptr 0 0, .ptr 1 0], .und, .und, .int .i64 (.N 0), .int .i64 (.V 6), .int .i64 (.V 7), .und, .und, .und, .und, .und, .und, .und, .und, .und, .und, .und, .und, .und, .und, .und, .und, .und, .und, .und], [.fix [.var 0] true, .fix [.int .i64 (.mx (.V 2) (.mn (.V 1) (.V 3)))] true], 8, 1, [none, none, none, none, none, none, none, none], [], [⟨0, [.int .i64, .int .i64, .int .i64], (.V 0)⟩]⟩⟩,
  ⟨70368744146418, 8, [], ⟨[.und, .int .i64 (.sub (.quo (.wr .u64 (.wr .i64 (.add (.V 6) (.V 7)))) (.N 2)) (.N 1000200)), .und, .und, .con (.slice none 0 0), .var 1, .und, .und, .und, .und, .und, .und, .und, .und, .und, .var 0, .int .i64 (.len (.V 0)), .int .i64 (.V 9), .und, .und, .und, .und, .und, .und, .und, .und, .und, .und, .und, .und, .und, .und, .und, .und, .und, .und, .und, .und, .und, .und, .und, .und, .und, .und, .und, .und], [.none, .none, .rows [.int .i64] (.V 8) 1], 10, 2, [none, none, none, none, none, none, none, none, none, none], [], [⟨0, [.int .i64, .int .i64, .int .i64], (.V 0)⟩]⟩⟩,
  ⟨131052, 9, [], ⟨[.und, .und, .int .i64 (.N 0), .int .i64 (.V 9), .und, .und, .var 1, .int .i64 (.len (.V 8)), .int .i64 (.V 10), .und, .und, .und, .und, .und, .und, .und, .und], [.none, .none, .rows [.int .i64] (.V 8) 1], 11, 2, [none, none, none, none, none, none, none, none, none, none, none], [], [⟨0, [.int .i64, .int .i64, .int .i64], (.V 0)⟩]⟩⟩,
  ⟨70368744146418, 7, [], ⟨[.und, .int .i64 (.wr .i64 (.sub (.wr .i64 (.add (.N (-1000200)) (.V 6))) (.N 1))), .und, .und, .con (.slice none 0 0), .var 1, .und, .und, .und, .und, .und, .und, .und, .und, .und, .var 0, .int .i64 (.len (.V 0)), .int .i64 (.V 8), .und, .und, .und, .und, .und, .und, .und, .und, .und, .und, .und, .und, .und, .und, .und, .und, .und, .und, .und, .und, .und, .und, .und, .und, .und, .und, .und, .und], [.fix [.var 0] true, .fix [.int .i64 (.mx (.V 2) (.mn (.V 1) (.V 3)))] true, .rows [.int .i64] (.V 7) 1], 9, 2, [none, none, none, none, none, none, none, none, none], [], [⟨0, [.int .i64, .int .i64, .int .i64], (.V 0)⟩]⟩⟩,
  ⟨131052, 8, [], ⟨[.und, .und, .int .i64 (.N 0), .int .i64 (.V 8), .und, .und, .var 1, .int .i64 (.len (.V 7)), .int .i64 (.V 9), .und, .und, .und, .und, .und, .und, .und, .und], [.none, .none, .rows [.int .i64] (.V 7) 1], 10, 2, [none, none, none, none, none, none, none, none, none, none], [], [⟨0, [.int .i64, .int .i64, .int .i64], (.V 0)⟩, ⟨1, [], (.rep (.len (.V 7)) [])⟩]⟩⟩,
  ⟨70368744146418, 9, [], ⟨[.und, .int .i64 (.wr .i64 (.add (.N (-1000200)) (.V 6))), .und, .und, .con (.slice none 0 0), .var 2, .und, .und, .und, .und, .und, .und, .und, .und, .und, .var 0, .int .i64 (.len (.V 0)), .int .i64 (.V 10), .und, .und, .und, .und, .und, .und, .und, .und, .und, .und, .und, .und, .und, .und, .und, .und, .und, .und, .und, .und, .und, .und, .und, .und, .und, .und, .und, .und], [.fix [.var 0] true, .fix [.int .i64 (.mx (.V 2) (.mn (.V 1) (.V 3)))] true, .rows [.int .i64] (.V 7) 1, .rows [.int .i64] (.V 9) 2], 11, 3, [none, none, none, none, none, none, none, none, none, none, none], [], [⟨0, [.int .i64, .int .i64, .int .i64], (.V 0)⟩]⟩⟩,
  ⟨1152640029630461041, 10, [], ⟨[.und, .int .i64 (.V 1), .und, .und, .con (.slice none 0 0), .int .i64 (.N 0), .int .i64 (.N 0), .und, .und, .und, .ptr 1 0, .und, .var 1, .int .i64 (.V 11), .und, .und, .und, .und, .und, .und, .und, .und, .und, .und, .und, .und, .und, .und, .und, .und, .und, .und, .und, .und, .und, .und, .und, .und, .und, .und, .und, .und, .und, .und, .und, .und, .und, .und, .var 2, .int .i64 (.len (.V 9)), .int .i64 (.V 12), .und, .und, .und, .und, .und, .und, .und, .und, .und, .und, .und, .und, .und, .und, .und, .und, .und, .und, .und, .und, .und, .und, .und, .und, .und, .und, .und], [.fix [.var 0] true, .fix [.int .i64 (.mx (.V 2) (.mn (.V 1) (.V 3)))] true, .rows [.int .i64] (.V 10) 1, .rows [.int .i64] (.V 9) 2], 13, 3, [none, none, none, none, none, none, none, none, none, none, none, none, none], [], [⟨0, [.int .i64, .int .i64, .int .i64], (.V 0)⟩]⟩⟩]
def shDivide_K : Con := ⟨23, [.val false [.sl [.int .i64, .int .i64, .int .i64]], .val false [.int .i64]], [.val false [.sl [.int .i64]], .val false [.int .i64], .val false [.int .i64]], []⟩
def shDivide_T : T (List X) :=
  (.call 18 [(.V 0)] 3
  (.ite (.eq (.V 4) (.N 0))
   (.sub (.ite (.lt (.V 1) (.N (-500000)))
     (.ret [(.B true)])
     (.ret [(.lt (.N 500000) (.V 1))])) 1
    (.ite (.V 5)
     (.ret [(.rows []), (.N 0), (.N 1)])
     (.loop [(.N 0), (.N 2000400)]
      (.ite (.lt (.V 6) (.V 7))
       (.need (.and (.not (.lt (.len (.V 0)) (.len (.V 0)))) (.not (.lt (.N 17592186044416) (.len (.V 0)))))
        (.loop [(.rep (.len (.V 0)) [(.N 0)]), (.N 0)]
         (.ite (.lt (.V 9) (.len (.V 0)))
          (.need (.and (.not (.lt (.V 9) (.N 0))) (.lt (.V 9) (.len (.V 0))))
           (.call 112 [(.sub (.quo (.wr .u64 (.wr .i64 (.add (.V 6) (.V 7)))) (.N 2)) (.N 1000200)), (.at (.V 0) (.V 9) 2)] 2
            (.call 112 [(.wr .i64 (.add (.V 10) (.N 1))), (.N 2)] 2
             (.need (.and (.not (.lt (.V 9) (.N 0))) (.lt (.V 9) (.len (.V 8))))
              (.ret (true, [(.put (.V 8) (.V 9) 0 (.mx (.at (.V 0) (.V 9) 0) (.mn (.V 12) (.at (.V 0) (.V 9) 1)))), (.wr .i64 (.add (.V 9) (.N 1)))]))))))
          (.ret (false, [(.V 8)]))) 1
         (.loop [(.N 0), (.N 0)]
          (.ite (.lt (.V 10) (.len (.V 8)))
           (.need (.and (.not (.lt (.V 10) (.N 0))) (.lt (.V 10) (.len (.V 8))))
            (.ret (true, [(.wr .i64 (.add (.V 9) (.at (.V 8) (.V 10) 0))), (.wr .i64 (.add (.V 10) (.N 1)))])))
           (.ret (false, [(.V 9)]))) 1
          (.ite (.lt (.V 9) (.mx (.V 2) (.mn (.V 1) (.V 3))))
           (.ret (true, [(.wr .i64 (.add (.quo (.wr .u64 (.wr .i64 (.add (.V 6) (.V 7)))) (.N 2)) (.N 1))), (.V 7)]))
           (.ret (true, [(.V 6), (.quo (.wr .u64 (.wr .i64 (.add (.V 6) (.V 7)))) (.N 2))]))))))
       (.ret (false, [(.V 6)]))) 1
      (.need (.and (.not (.lt (.len (.V 0)) (.len (.V 0)))) (.not (.lt (.N 17592186044416) (.len (.V 0)))))
       (.loop [(.rep (.len (.V 0)) [(.N 0)]), (.N 0)]
        (.ite (.lt (.V 8) (.len (.V 0)))
         (.need (.and (.not (.lt (.V 8) (.N 0))) (.lt (.V 8) (.len (.V 0))))
          (.call 112 [(.wr .i64 (.sub (.wr .i64 (.add (.N (-1000200)) (.V 6))) (.N 1))), (.at (.V 0) (.V 8) 2)] 2
           (.call 112 [(.wr .i64 (.add (.V 9) (.N 1))), (.N 2)] 2
            (.need (.and (.not (.lt (.V 8) (.N 0))) (.lt (.V 8) (.len (.V 7))))
             (.ret (true, [(.put (.V 7) (.V 8) 0 (.mx (.at (.V 0) (.V 8) 0) (.mn (.V 11) (.at (.V 0) (.V 8) 1)))), (.wr .i64 (.add (.V 8) (.N 1)))]))))))
         (.ret (false, [(.V 7)]))) 1
        (.loop [(.N 0), (.N 0)]
         (.ite (.lt (.V 9) (.len (.V 7)))
          (.need (.and (.not (.lt (.V 9) (.N 0))) (.lt (.V 9) (.len (.V 7))))
           (.ret (true, [(.wr .i64 (.add (.V 8) (.at (.V 7) (.V 9) 0))), (.wr .i64 (.add (.V 9) (.N 1)))])))
          (.ret (false, [(.V 8)]))) 1
         (.loop [(.rep (.len (.V 0)) [(.N 0)]), (.N 0)]
          (.ite (.lt (.V 10) (.len (.V 0)))
           (.need (.and (.not (.lt (.V 10) (.N 0))) (.lt (.V 10) (.len (.V 0))))
            (.call 112 [(.wr .i64 (.add (.N (-1000200)) (.V 6))), (.at (.V 0) (.V 10) 2)] 2
             (.call 112 [(.wr .i64 (.add (.V 11) (.N 1))), (.N 2)] 2
              (.need (.and (.not (.lt (.V 10) (.N 0))) (.lt (.V 10) (.len (.V 9))))
               (.ret (true, [(.put (.V 9) (.V 10) 0 (.mx (.at (.V 0) (.V 10) 0) (.mn (.V 13) (.at (.V 0) (.V 10) 1)))), (.wr .i64 (.add (.V 10) (.N 1)))]))))))
           (.ret (false, [(.V 9)]))) 1
          (.loop [(.V 7), (.wr .i64 (.sub (.mx (.V 2) (.mn (.V 1) (.V 3))) (.V 8))), (.N 0)]
           (.ite (.lt (.V 12) (.len (.V 9)))
            (.sub (.need (.and (.not (.lt (.V 12) (.N 0))) (.lt (.V 12) (.len (.V 9))))
              (.sub (.ite (.lt (.N 0) (.V 11))
                (.need (.and (.not (.lt (.V 12) (.N 0))) (.lt (.V 12) (.len (.V 10))))
                 (.ret [(.lt (.at (.V 10) (.V 12) 0) (.at (.V 9) (.V 12) 0))]))
                (.ret [(.B false)])) 1
               (.ite (.V 13)
                (.need (.and (.not (.lt (.V 12) (.N 0))) (.lt (.V 12) (.len (.V 10))))
                 (.ret [(.put (.V 10) (.V 12) 0 (.wr .i64 (.add (.at (.V 10) (.V 12) 0) (.N 1)))), (.wr .i64 (.sub (.V 11) (.N 1))), (.V 13)]))
                (.ret [(.V 10), (.V 11), (.V 13)])))) 3
             (.ret (true, [(.V 13), (.V 14), (.wr .i64 (.add (.V 12) (.N 1)))])))
            (.ret (false, [(.V 10)]))) 1
           (.ret [(.V 10), (.wr .i64 (.sub (.V 1) (.mx (.V 2) (.mn (.V 1) (.V 3))))), (.N 0)])))))))))
   (.ret [(.rows []), (.N 0), (.V 4)])))
set_option maxRecDepth 100000 in
theorem shDivide_t : runS Try.prog [aFloor_K.to [], shReach_K.to []] [(23, shDivide_H), (71, shDivide_H), (70, shDivide_H), (68, shDivide_H)] shDivide_K = shDivide_T := by kernel_rfl
def srcShares_H : List Hint := [
  ⟨2147479793, 6, [.t [.int .i64, .int .i64, .int .i64] 5], ⟨[.ptr 0 0, .und, .und, .und, .con (.slice none 0 0), .var 3, .int .i64 (.V 9), .und, .und, .und, .und, .und, .und, .und, .und, .und, .und, .und, .und, .und, .und, .und, .und, .und, .und, .und, .und, .und, .und, .und, .und], [.fix [.var 4, .int .i64 (.V 8)] true, .rows [.int .i64, .int .i64, .int .i64] (.V 6) 3], 10, 5, [none, none, none, none, none, none, none, none, none, none], [], [⟨0, [.int .i64], (.V 0)⟩, ⟨1, [.int .i64], (.V 4)⟩, ⟨4, [.int .i64], (.V 7)⟩]⟩⟩]
def srcShares_K : Con := ⟨16, [.ptr [.sl [.int .i64], .int .i64], .val false [.int .i64]], [.val false [.sl [.int .i64, .int .i64, .int .i64]]], []⟩
def srcShares_T : T (List X) :=
  (.call 26 [(.V 0), (.V 1), (.wr .i64 (.add (.V 2) (.N 1)))] 3
  (.loop [(.rows []), (.V 4), (.V 5), (.V 3)]
   (.ite (.lt (.N 0) (.V 9))
    (.call 26 [(.V 7), (.V 8), (.N 15)] 3
     (.call 26 [(.V 11), (.V 12), (.N 12)] 3
      (.call 26 [(.V 14), (.V 15), (.N 6)] 3
       (.need (.and (.not (.lt (.V 16) (.N 0))) (.lt (.V 16) (.N 6)))
        (.need (.not (.lt (.N 5864062014805) (.add (.len (.V 6)) (.N 1))))
         (.ret (true, [(.app (.V 6) (.rows [[(.wr .i64 (.add (.N (-9)) (.V 10))), (.wr .i64 (.add (.wr .i64 (.add (.N (-9)) (.V 10))) (.V 13))), (.at (.rows [[(.N 1)], [(.N 1)], [(.N 2)], [(.N 3)], [(.N 7)], [(.N 100)]]) (.V 16) 0)]])), (.V 17), (.V 18), (.wr .i64 (.sub (.V 9) (.N 1)))])))))))
    (.ret (false, [(.V 6), (.V 7), (.V 8)]))) 3
   (.ret [(.V 6), (.V 7), (.V 8)])))
set_option maxRecDepth 100000 in
theorem srcShares_t : runS Try.prog [srcN_K.to []] [(16, srcShares_H)] srcShares_K = srcShares_T := by kernel_rfl
def rInts_H : List Hint := [
  ⟨67104819, 2, [], ⟨[.var 0, .var 1, .und, .und, .bool (.B false), .und, .und, .und, .und, .und, .und, .und, .int .i64 (.len (.V 0)), .int .i64 (.V 2), .und, .und, .und, .und, .und, .und, .und, .und, .und, .und, .und, .und], [], 3, 2, [none, none, none], [], [⟨0, [.int .i64], (.V 0)⟩, ⟨1, [.int .i64], (.V 1)⟩]⟩⟩]
def rInts_K : Con := ⟨25, [.val false [.sl [.int .i64]], .val false [.sl [.int .i64]]], [.val false [.bool]], []⟩
def rInts_T : T (List X) :=
  (.ite (.eq (.len (.V 0)) (.len (.V 1)))
  (.loop [(.N 0)]
   (.ite (.lt (.V 2) (.len (.V 0)))
    (.need (.and (.not (.lt (.V 2) (.N 0))) (.lt (.V 2) (.len (.V 0))))
     (.need (.and (.not (.lt (.V 2) (.N 0))) (.lt (.V 2) (.len (.V 1))))
      (.ite (.eq (.at (.V 0) (.V 2) 0) (.at (.V 1) (.V 2) 0))
       (.ret (true, [(.wr .i64 (.add (.V 2) (.N 1)))]))
       (.ret (false, [(.N 0)])))))
    (.ret (false, [(.N 1)]))) 1
   (.ite (.eq (.V 2) (.N 0))
    (.ret [(.B false)])
    (.ret [(.B true)])))
  (.ret [(.B false)]))
set_option maxRecDepth 100000 in
theorem rInts_t : runS Try.prog [] [(25, rInts_H)] rInts_K = rInts_T := by kernel_rfl
end Go.Proofs.Ytlhnhidoljfnnaa
