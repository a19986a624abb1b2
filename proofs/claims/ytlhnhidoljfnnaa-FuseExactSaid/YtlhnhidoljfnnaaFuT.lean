/- The trees of fuse, in full. -/
import Derived.Test.YtlhnhidoljfnnaaRnd
import Derived.Test.YtlhnhidoljfnnaaAuto
import Derived.Test.YtlhnhidoljfnnaaShM
set_option linter.unusedVariables false
namespace Go.Proofs.Ytlhnhidoljfnnaa
open Go.RowKit Fx
def gHalf_K : Con := ⟨102, [.val false [.int .i64], .val false [.int .i64]], [.val false [.int .i64], .val false [.int .i64]], []⟩
def gHalf_T : T (List X) :=
  (.sub (.sub (.ite (.lt (.V 0) (.N (-1000000000000000000)))
    (.ret [(.B true)])
    (.ite (.lt (.N 1000000000000000000) (.V 0))
     (.ret [(.B true)])
     (.ite (.lt (.V 1) (.N 1))
      (.ret [(.B true)])
      (.ret [(.lt (.N 1000000000) (.V 1))])))) 1
   (.ite (.V 2)
    (.ret [(.N 0), (.N 1)])
    (.need (.not (.eq (.V 1) (.N 0)))
     (.sub (.ite (.lt (.rem (.V 0) (.V 1)) (.N 0))
       (.ret [(.wr .i64 (.sub (.wr .i64 (.quo (.V 0) (.V 1))) (.N 1))), (.wr .i64 (.add (.rem (.V 0) (.V 1)) (.V 1)))])
       (.ret [(.wr .i64 (.quo (.V 0) (.V 1))), (.rem (.V 0) (.V 1))])) 2
      (.sub (.ite (.lt (.wr .i64 (.mul (.N 2) (.V 4))) (.V 1))
        (.ret [(.V 3)])
        (.ret [(.wr .i64 (.add (.V 3) (.N 1)))])) 1
       (.ret [(.V 5), (.N 0)])))))) 2
  (.ret [(.V 2), (.V 3)]))
set_option maxRecDepth 100000 in
theorem gHalf_t : runS Try.prog [] [] gHalf_K = gHalf_T := by kernel_rfl
def gUp_K : Con := ⟨113, [.val false [.int .i64], .val false [.int .i64]], [.val false [.int .i64], .val false [.int .i64]], []⟩
def gUp_T : T (List X) :=
  (.sub (.sub (.ite (.lt (.V 0) (.N (-1000000000000000000)))
    (.ret [(.B true)])
    (.ite (.lt (.N 1000000000000000000) (.V 0))
     (.ret [(.B true)])
     (.ite (.lt (.V 1) (.N 1))
      (.ret [(.B true)])
      (.ret [(.lt (.N 1000000000) (.V 1))])))) 1
   (.ite (.V 2)
    (.ret [(.N 0), (.N 1)])
    (.need (.not (.eq (.V 1) (.N 0)))
     (.sub (.ite (.lt (.rem (.V 0) (.V 1)) (.N 0))
       (.ret [(.wr .i64 (.sub (.wr .i64 (.quo (.V 0) (.V 1))) (.N 1))), (.wr .i64 (.add (.rem (.V 0) (.V 1)) (.V 1)))])
       (.ret [(.wr .i64 (.quo (.V 0) (.V 1))), (.rem (.V 0) (.V 1))])) 2
      (.sub (.ite (.lt (.N 0) (.V 4))
        (.ret [(.wr .i64 (.add (.V 3) (.N 1)))])
        (.ret [(.V 3)])) 1
       (.ret [(.V 5), (.N 0)])))))) 2
  (.ret [(.V 2), (.V 3)]))
set_option maxRecDepth 100000 in
theorem gUp_t : runS Try.prog [] [] gUp_K = gUp_T := by kernel_rfl
def gBox_K : Con := ⟨81, [.val true [.int .i64, .int .i64], .val true [.int .i64, .int .i64]], [.val false [.int .i64], .val false [.int .i64]], []⟩
def gBox_T : T (List X) :=
  (.sub (.sub (.sub (.sub (.sub (.ite (.lt (.V 0) (.N (-100000000)))
       (.ret [(.B true)])
       (.ret [(.lt (.N 100000000) (.V 0))])) 1
      (.ite (.V 4)
       (.ret [(.N 0)])
       (.sub (.ite (.lt (.V 1) (.N (-100000000)))
         (.ret [(.B true)])
         (.ret [(.lt (.N 100000000) (.V 1))])) 1
        (.ite (.V 5)
         (.ret [(.N 0)])
         (.ret [(.N 1)]))))) 1
     (.ite (.eq (.V 4) (.N 0))
      (.ret [(.B false)])
      (.ret [(.B true)]))) 1
    (.ite (.V 4)
     (.sub (.sub (.sub (.ite (.lt (.V 2) (.N (-100000000)))
         (.ret [(.B true)])
         (.ret [(.lt (.N 100000000) (.V 2))])) 1
        (.ite (.V 5)
         (.ret [(.N 0)])
         (.sub (.ite (.lt (.V 3) (.N (-100000000)))
           (.ret [(.B true)])
           (.ret [(.lt (.N 100000000) (.V 3))])) 1
          (.ite (.V 6)
           (.ret [(.N 0)])
           (.ret [(.N 1)]))))) 1
       (.ite (.eq (.V 5) (.N 0))
        (.ret [(.B false)])
        (.ret [(.B true)]))) 1
      (.ret [(.not (.V 5))]))
     (.ret [(.B true)]))) 1
   (.ite (.V 4)
    (.ret [(.N 0), (.N 0), (.N 1)])
    (.ret [(.mx (.wr .i64 (.sub (.V 0) (.V 2))) (.wr .i64 (.sub (.V 2) (.V 0)))), (.mx (.wr .i64 (.sub (.V 1) (.V 3))) (.wr .i64 (.sub (.V 3) (.V 1)))), (.N 0)]))) 3
  (.ret [(.mx (.V 4) (.V 5)), (.V 6)]))
set_option maxRecDepth 100000 in
theorem gBox_t : runS Try.prog [] [] gBox_K = gBox_T := by kernel_rfl
def gWei_K : Con := ⟨45, [.val false [.int .i64]], [.val false [.int .i64]], []⟩
def gWei_T : T (List X) :=
  (.sub (.ite (.lt (.V 0) (.N 1))
   (.ret [(.B true)])
   (.ret [(.lt (.N 100000) (.V 0))])) 1
  (.ite (.V 1)
   (.ret [(.N 0)])
   (.need (.not (.eq (.wr .i64 (.mul (.V 0) (.V 0))) (.N 0)))
    (.ret [(.mx (.N 1) (.wr .i64 (.quo (.N 1000000000) (.wr .i64 (.mul (.V 0) (.V 0))))))]))))
set_option maxRecDepth 100000 in
theorem gWei_t : runS Try.prog [] [] gWei_K = gWei_T := by kernel_rfl
def gChk_H : List Hint := [
  ⟨268433428, 1, [], ⟨[.und, .und, .int .i64 (.N 0), .und, .und, .und, .und, .und, .und, .und, .und, .var 0, .int .i64 (.len (.V 0)), .int .i64 (.V 1), .und, .und, .und, .und, .und, .und, .und, .und, .und, .und, .und, .und, .und, .und], [], 2, 1, [none, none], [], [⟨0, [.int .i64, .int .i64, .int .i64, .int .i64], (.V 0)⟩]⟩⟩]
def gChk_K : Con := ⟨79, [.val false [.sl [.int .i64, .int .i64, .int .i64, .int .i64]]], [.val false [.int .i64]], []⟩
def gChk_T : T (List X) :=
  (.ite (.eq (.len (.V 0)) (.N 0))
  (.ret [(.N 9)])
  (.ite (.lt (.N 8) (.len (.V 0)))
   (.ret [(.N 2)])
   (.loop [(.N 0)]
    (.ite (.lt (.V 1) (.len (.V 0)))
     (.need (.and (.not (.lt (.V 1) (.N 0))) (.lt (.V 1) (.len (.V 0))))
      (.sub (.sub (.sub (.sub (.ite (.lt (.at (.V 0) (.V 1) 1) (.N (-100000000)))
           (.ret [(.B true)])
           (.ret [(.lt (.N 100000000) (.at (.V 0) (.V 1) 1))])) 1
          (.ite (.V 2)
           (.ret [(.N 0)])
           (.sub (.ite (.lt (.at (.V 0) (.V 1) 2) (.N (-100000000)))
             (.ret [(.B true)])
             (.ret [(.lt (.N 100000000) (.at (.V 0) (.V 1) 2))])) 1
            (.ite (.V 3)
             (.ret [(.N 0)])
             (.ret [(.N 1)]))))) 1
         (.ite (.eq (.V 2) (.N 0))
          (.ret [(.B false)])
          (.ret [(.B true)]))) 1
        (.ite (.V 2)
         (.call 45 [(.at (.V 0) (.V 1) 3)] 1
          (.ret [(.V 2), (.not (.V 2)), (.not (.V 2)), (.eq (.V 3) (.N 0))]))
         (.ret [(.V 2), (.not (.V 2)), (.not (.V 2)), (.B true)]))) 4
       (.ite (.V 5)
        (.ret (false, [(.N 0), (.at (.V 0) (.V 1) 0), (.at (.V 0) (.V 1) 1), (.at (.V 0) (.V 1) 2), (.at (.V 0) (.V 1) 3), (.at (.V 0) (.V 1) 0), (.at (.V 0) (.V 1) 1), (.at (.V 0) (.V 1) 2), (.at (.V 0) (.V 1) 3), (.at (.V 0) (.V 1) 1), (.at (.V 0) (.V 1) 2), (.at (.V 0) (.V 1) 1), (.at (.V 0) (.V 1) 2)]))
        (.ret (true, [(.wr .i64 (.add (.V 1) (.N 1)))])))))
     (.ret (false, [(.N 1), (.N 0), (.N 0), (.N 0), (.N 0), (.N 0), (.N 0), (.N 0), (.N 0), (.N 0), (.N 0), (.N 0), (.N 0)]))) 13
    (.ite (.eq (.V 1) (.N 0))
     (.ret [(.N 1)])
     (.ret [(.N 0)])))))
set_option maxRecDepth 100000 in
theorem gChk_t : runS Try.prog [gWei_K.to []] [(79, gChk_H)] gChk_K = gChk_T := by kernel_rfl
def gMean_H : List Hint := [
  ⟨1152921504606844266, 1, [], ⟨[.var 0, .und, .ptr 0 0, .int .i64 (.V 1), .und, .und, .und, .und, .und, .und, .und, .und, .und, .var 0, .int .i64 (.len (.V 0)), .int .i64 (.V 2), .und, .und, .und, .und, .und, .und, .und, .und, .und, .und, .und, .und, .und, .und, .und, .und, .und, .und, .und, .und, .und, .und, .und, .und, .und, .und, .und, .und, .und, .und, .und, .und, .und, .und, .und, .und, .und, .und, .und, .und, .und, .und, .und, .und, .und, .und, .und, .und, .und, .und, .und, .und, .und, .und, .und], [.fix [.int .i64 (.N 0), .int .i64 (.N 0)] true], 3, 1, [none, none, none], [], [⟨0, [.int .i64, .int .i64, .int .i64, .int .i64], (.V 0)⟩]⟩⟩,
  ⟨1152921504573297993, 2, [], ⟨[.und, .und, .ptr 0 0, .int .i64 (.V 1), .und, .und, .int .i64 (.V 2), .int .i64 (.V 3), .int .i64 (.V 4), .und, .und, .und, .und, .und, .und, .und, .und, .und, .und, .und, .und, .und, .und, .und, .und, .var 0, .int .i64 (.len (.V 0)), .int .i64 (.V 5), .und, .und, .und, .und, .und, .und, .und, .und, .und, .und, .und, .und, .und, .und, .und, .und, .und, .und, .und, .und, .und, .und, .und, .und, .und, .und, .und, .und, .und, .und, .und, .und, .und, .und, .und, .und, .und, .und, .und, .und, .und, .und, .und], [.fix [.int .i64 (.N 0), .int .i64 (.N 0)] true], 6, 1, [none, none, none, none, none, none], [], [⟨0, [.int .i64, .int .i64, .int .i64, .int .i64], (.V 0)⟩]⟩⟩]
def gMean_K : Con := ⟨80, [.val false [.sl [.int .i64, .int .i64, .int .i64, .int .i64]]], [.val true [.int .i64, .int .i64]], []⟩
def gMean_T : T (List X) :=
  (.loop [(.N 0), (.N 0)]
  (.ite (.lt (.V 2) (.len (.V 0)))
   (.need (.and (.not (.lt (.V 2) (.N 0))) (.lt (.V 2) (.len (.V 0))))
    (.call 45 [(.at (.V 0) (.V 2) 3)] 1
     (.ret (true, [(.mx (.V 1) (.V 3)), (.wr .i64 (.add (.V 2) (.N 1)))]))))
   (.ret (false, [(.V 1)]))) 1
  (.loop [(.N 0), (.N 0), (.N 0), (.N 0)]
   (.ite (.lt (.V 5) (.len (.V 0)))
    (.need (.and (.not (.lt (.V 5) (.N 0))) (.lt (.V 5) (.len (.V 0))))
     (.call 45 [(.at (.V 0) (.V 5) 3)] 1
      (.call 113 [(.wr .i64 (.mul (.N 1000) (.V 6))), (.V 1)] 2
       (.ret (true, [(.wr .i64 (.add (.V 2) (.V 7))), (.wr .i64 (.add (.V 3) (.wr .i64 (.mul (.V 7) (.at (.V 0) (.V 5) 1))))), (.wr .i64 (.add (.V 4) (.wr .i64 (.mul (.V 7) (.at (.V 0) (.V 5) 2))))), (.wr .i64 (.add (.V 5) (.N 1)))])))))
    (.ret (false, [(.V 2), (.V 3), (.V 4)]))) 3
   (.call 102 [(.V 3), (.V 2)] 2
    (.call 102 [(.V 4), (.V 2)] 2
     (.ret [(.V 5), (.V 7)])))))
set_option maxRecDepth 100000 in
theorem gMean_t : runS Try.prog [gHalf_K.to [], gUp_K.to [], gWei_K.to []] [(80, gMean_H)] gMean_K = gMean_T := by kernel_rfl
def gFuse_H : List Hint := [
  ⟨4398045464284, 4, [], ⟨[.und, .und, .ptr 0 0, .int .i64 (.N 0), .int .i64 (.N 0), .und, .ptr 1 0, .int .i64 (.V 4), .und, .und, .und, .und, .und, .und, .und, .und, .und, .und, .und, .und, .var 0, .int .i64 (.len (.V 0)), .int .i64 (.V 5), .und, .und, .und, .und, .und, .und, .und, .und, .und, .und, .und, .und, .und, .und, .und, .und, .und, .und, .und], [.fix [.int .i64 (.N 0), .int .i64 (.N 0)] true, .fix [.int .i64 (.V 2), .int .i64 (.V 3)] true], 6, 1, [none, none, none, none, none, none], [], [⟨0, [.int .i64, .int .i64, .int .i64, .int .i64], (.V 0)⟩]⟩⟩]
def gFuse_K : Con := ⟨37, [.val false [.sl [.int .i64, .int .i64, .int .i64, .int .i64]]], [.val true [.int .i64, .int .i64], .val false [.int .i64], .val false [.int .i64]], []⟩
def gFuse_T : T (List X) :=
  (.call 79 [(.V 0)] 1
  (.ite (.eq (.V 1) (.N 0))
   (.call 80 [(.V 0)] 2
    (.loop [(.N 0), (.N 0)]
     (.ite (.lt (.V 5) (.len (.V 0)))
      (.need (.and (.not (.lt (.V 5) (.N 0))) (.lt (.V 5) (.len (.V 0))))
       (.call 81 [(.V 2), (.V 3), (.at (.V 0) (.V 5) 1), (.at (.V 0) (.V 5) 2)] 2
        (.ret (true, [(.mx (.V 4) (.wr .i64 (.add (.V 6) (.at (.V 0) (.V 5) 3)))), (.wr .i64 (.add (.V 5) (.N 1)))]))))
      (.ret (false, [(.V 4)]))) 1
     (.ret [(.V 2), (.V 3), (.V 4), (.N 0)])))
   (.ret [(.N 0), (.N 0), (.N 0), (.V 1)])))
set_option maxRecDepth 100000 in
theorem gFuse_t : runS Try.prog [gChk_K.to [], gMean_K.to [], gBox_K.to []] [(37, gFuse_H)] gFuse_K = gFuse_T := by kernel_rfl
def gCom_H : List Hint := [
  ⟨72057594033734108, 2, [], ⟨[.und, .und, .ptr 0 0, .ptr 1 0, .bool (.B false), .und, .und, .und, .und, .und, .und, .und, .und, .und, .und, .und, .und, .und, .und, .und, .und, .und, .var 1, .int .i64 (.len (.drop (.V 0) (.N 1))), .int .i64 (.V 6), .und, .und, .und, .und, .und, .und, .und, .und, .und, .und, .und, .und, .und, .und, .und, .und, .und, .und, .und, .und, .und, .und, .und, .und, .und, .und, .und, .und, .und, .und, .und], [.fix [.int .i64 (.V 2), .int .i64 (.V 3)] true, .fix [.int .i64 (.V 4), .int .i64 (.V 5)] true, .fix [.int .i64 (.at (.V 0) (.N 0) 0), .int .i64 (.at (.V 0) (.N 0) 1), .int .i64 (.at (.V 0) (.N 0) 2), .int .i64 (.at (.V 0) (.N 0) 3)] true, .fix [.int .i64 (.wr .i64 (.sub (.at (.V 0) (.N 0) 1) (.at (.V 0) (.N 0) 3))), .int .i64 (.wr .i64 (.sub (.at (.V 0) (.N 0) 2) (.at (.V 0) (.N 0) 3)))] true, .fix [.int .i64 (.wr .i64 (.add (.at (.V 0) (.N 0) 1) (.at (.V 0) (.N 0) 3))), .int .i64 (.wr .i64 (.add (.at (.V 0) (.N 0) 2) (.at (.V 0) (.N 0) 3)))] true], 7, 2, [none, none, none, none, none, none, none], [], [⟨0, [.int .i64, .int .i64, .int .i64, .int .i64], (.V 0)⟩, ⟨1, [.int .i64, .int .i64, .int .i64, .int .i64], (.drop (.V 0) (.N 1))⟩]⟩⟩]
def gCom_K : Con := ⟨39, [.val false [.sl [.int .i64, .int .i64, .int .i64, .int .i64]]], [.val true [.int .i64, .int .i64], .val true [.int .i64, .int .i64], .val false [.bool]], []⟩
def gCom_T : T (List X) :=
  (.call 79 [(.V 0)] 1
  (.ite (.eq (.V 1) (.N 0))
   (.need (.lt (.N 0) (.len (.V 0)))
    (.need (.and (.not (.lt (.len (.V 0)) (.N 1))) (.not (.lt (.len (.V 0)) (.len (.V 0)))))
     (.loop [(.wr .i64 (.sub (.at (.V 0) (.N 0) 1) (.at (.V 0) (.N 0) 3))), (.wr .i64 (.sub (.at (.V 0) (.N 0) 2) (.at (.V 0) (.N 0) 3))), (.wr .i64 (.add (.at (.V 0) (.N 0) 1) (.at (.V 0) (.N 0) 3))), (.wr .i64 (.add (.at (.V 0) (.N 0) 2) (.at (.V 0) (.N 0) 3))), (.N 0)]
      (.ite (.lt (.V 6) (.len (.drop (.V 0) (.N 1))))
       (.need (.and (.not (.lt (.V 6) (.N 0))) (.lt (.V 6) (.len (.drop (.V 0) (.N 1)))))
        (.ret (true, [(.mx (.V 2) (.wr .i64 (.sub (.at (.drop (.V 0) (.N 1)) (.V 6) 1) (.at (.drop (.V 0) (.N 1)) (.V 6) 3)))), (.mx (.V 3) (.wr .i64 (.sub (.at (.drop (.V 0) (.N 1)) (.V 6) 2) (.at (.drop (.V 0) (.N 1)) (.V 6) 3)))), (.mn (.V 4) (.wr .i64 (.add (.at (.drop (.V 0) (.N 1)) (.V 6) 1) (.at (.drop (.V 0) (.N 1)) (.V 6) 3)))), (.mn (.V 5) (.wr .i64 (.add (.at (.drop (.V 0) (.N 1)) (.V 6) 2) (.at (.drop (.V 0) (.N 1)) (.V 6) 3)))), (.wr .i64 (.add (.V 6) (.N 1)))])))
       (.ret (false, [(.V 2), (.V 3), (.V 4), (.V 5)]))) 4
      (.sub (.ite (.lt (.V 4) (.V 2))
        (.ret [(.B true)])
        (.ret [(.lt (.V 5) (.V 3))])) 1
       (.ite (.V 6)
        (.ret [(.N 0), (.N 0), (.N 0), (.N 0), (.B false)])
        (.ret [(.V 2), (.V 3), (.V 4), (.V 5), (.B true)]))))))
   (.ret [(.N 0), (.N 0), (.N 0), (.N 0), (.B false)])))
set_option maxRecDepth 100000 in
theorem gCom_t : runS Try.prog [gChk_K.to []] [(39, gCom_H)] gCom_K = gCom_T := by kernel_rfl
def gHul_H : List Hint := [
  ⟨4398042317276, 2, [], ⟨[.und, .und, .ptr 0 0, .ptr 1 0, .bool (.B false), .und, .und, .und, .und, .und, .und, .und, .und, .und, .und, .und, .und, .und, .und, .und, .und, .und, .var 1, .int .i64 (.len (.drop (.V 0) (.N 1))), .int .i64 (.V 6), .und, .und, .und, .und, .und, .und, .und, .und, .und, .und, .und, .und, .und, .und, .und, .und, .und], [.fix [.int .i64 (.V 2), .int .i64 (.V 3)] true, .fix [.int .i64 (.V 4), .int .i64 (.V 5)] true, .fix [.int .i64 (.at (.V 0) (.N 0) 0), .int .i64 (.at (.V 0) (.N 0) 1), .int .i64 (.at (.V 0) (.N 0) 2), .int .i64 (.at (.V 0) (.N 0) 3)] true, .fix [.int .i64 (.wr .i64 (.sub (.at (.V 0) (.N 0) 1) (.at (.V 0) (.N 0) 3))), .int .i64 (.wr .i64 (.sub (.at (.V 0) (.N 0) 2) (.at (.V 0) (.N 0) 3)))] true, .fix [.int .i64 (.wr .i64 (.add (.at (.V 0) (.N 0) 1) (.at (.V 0) (.N 0) 3))), .int .i64 (.wr .i64 (.add (.at (.V 0) (.N 0) 2) (.at (.V 0) (.N 0) 3)))] true], 7, 2, [none, none, none, none, none, none, none], [], [⟨0, [.int .i64, .int .i64, .int .i64, .int .i64], (.V 0)⟩, ⟨1, [.int .i64, .int .i64, .int .i64, .int .i64], (.drop (.V 0) (.N 1))⟩]⟩⟩]
def gHul_K : Con := ⟨41, [.val false [.sl [.int .i64, .int .i64, .int .i64, .int .i64]]], [.val true [.int .i64, .int .i64], .val true [.int .i64, .int .i64], .val false [.bool]], []⟩
def gHul_T : T (List X) :=
  (.call 79 [(.V 0)] 1
  (.ite (.eq (.V 1) (.N 0))
   (.need (.lt (.N 0) (.len (.V 0)))
    (.need (.and (.not (.lt (.len (.V 0)) (.N 1))) (.not (.lt (.len (.V 0)) (.len (.V 0)))))
     (.loop [(.wr .i64 (.sub (.at (.V 0) (.N 0) 1) (.at (.V 0) (.N 0) 3))), (.wr .i64 (.sub (.at (.V 0) (.N 0) 2) (.at (.V 0) (.N 0) 3))), (.wr .i64 (.add (.at (.V 0) (.N 0) 1) (.at (.V 0) (.N 0) 3))), (.wr .i64 (.add (.at (.V 0) (.N 0) 2) (.at (.V 0) (.N 0) 3))), (.N 0)]
      (.ite (.lt (.V 6) (.len (.drop (.V 0) (.N 1))))
       (.need (.and (.not (.lt (.V 6) (.N 0))) (.lt (.V 6) (.len (.drop (.V 0) (.N 1)))))
        (.ret (true, [(.mn (.V 2) (.wr .i64 (.sub (.at (.drop (.V 0) (.N 1)) (.V 6) 1) (.at (.drop (.V 0) (.N 1)) (.V 6) 3)))), (.mn (.V 3) (.wr .i64 (.sub (.at (.drop (.V 0) (.N 1)) (.V 6) 2) (.at (.drop (.V 0) (.N 1)) (.V 6) 3)))), (.mx (.V 4) (.wr .i64 (.add (.at (.drop (.V 0) (.N 1)) (.V 6) 1) (.at (.drop (.V 0) (.N 1)) (.V 6) 3)))), (.mx (.V 5) (.wr .i64 (.add (.at (.drop (.V 0) (.N 1)) (.V 6) 2) (.at (.drop (.V 0) (.N 1)) (.V 6) 3)))), (.wr .i64 (.add (.V 6) (.N 1)))])))
       (.ret (false, [(.V 2), (.V 3), (.V 4), (.V 5)]))) 4
      (.ret [(.V 2), (.V 3), (.V 4), (.V 5), (.B true)]))))
   (.ret [(.N 0), (.N 0), (.N 0), (.N 0), (.B false)])))
set_option maxRecDepth 100000 in
theorem gHul_t : runS Try.prog [gChk_K.to []] [(41, gHul_H)] gHul_K = gHul_T := by kernel_rfl
def rHlf09_K : Con := ⟨47, [.val false [.int .i64], .val false [.int .i64]], [.val false [.int .i64], .val false [.int .i64]], []⟩
def rHlf09_T : T (List X) :=
  (.sub (.sub (.ite (.lt (.V 0) (.N (-1000000000000000000)))
    (.ret [(.B false)])
    (.ret [(.not (.lt (.N 1000000000000000000) (.V 0)))])) 1
   (.ite (.V 2)
    (.ite (.lt (.V 1) (.N 1))
     (.ret [(.B false)])
     (.ret [(.not (.lt (.N 1000000000) (.V 1)))]))
    (.ret [(.B false)]))) 1
  (.ite (.V 2)
   (.need (.not (.eq (.wr .i64 (.mul (.N 2) (.V 1))) (.N 0)))
    (.sub (.ite (.lt (.rem (.wr .i64 (.add (.wr .i64 (.mul (.N 2) (.V 0))) (.V 1))) (.wr .i64 (.mul (.N 2) (.V 1)))) (.N 0))
      (.ret [(.wr .i64 (.sub (.wr .i64 (.quo (.wr .i64 (.add (.wr .i64 (.mul (.N 2) (.V 0))) (.V 1))) (.wr .i64 (.mul (.N 2) (.V 1))))) (.N 1)))])
      (.ret [(.wr .i64 (.quo (.wr .i64 (.add (.wr .i64 (.mul (.N 2) (.V 0))) (.V 1))) (.wr .i64 (.mul (.N 2) (.V 1)))))])) 1
     (.ret [(.V 3), (.N 0)])))
   (.ret [(.N 0), (.N 1)])))
set_option maxRecDepth 100000 in
theorem rHlf09_t : runS Try.prog [] [] rHlf09_K = rHlf09_T := by kernel_rfl
def sane09x_K : Con := ⟨35, [], [.val false [.bool]], []⟩
def sane09x_T : T (List X) :=
  (.ret [(.B true)])
set_option maxRecDepth 100000 in
theorem sane09x_t : runS Try.prog [] [] sane09x_K = sane09x_T := by kernel_rfl
end Go.Proofs.Ytlhnhidoljfnnaa
