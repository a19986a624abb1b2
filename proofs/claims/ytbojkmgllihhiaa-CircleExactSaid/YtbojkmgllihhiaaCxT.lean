/- The trees of circles, in the program and in the reference, and of CircleExact. -/
import Derived.Test.YtbojkmgllihhiaaExa
import Derived.Test.YtbojkmgllihhiaaCirE
import Derived.Test.YtbojkmgllihhiaaSane29
set_option linter.unusedVariables false
namespace Go.Proofs.Ytbojkmgllihhiaa
open Go.RowKit Fx
def pcCheck_K : Con := ⟨59, [.val true [.int .i64, .int .i64, .int .i64, .int .i64]], [.val false [.int .i64]], []⟩
def pcCheck_T : T (List X) :=
  (.sub (.sub (.sub (.sub (.ite (.lt (.V 0) (.N (-100000000)))
      (.ret [(.B true)])
      (.ret [(.lt (.N 100000000) (.V 0))])) 1
     (.ite (.V 4)
      (.ret [(.N 0)])
      (.sub (.ite (.lt (.V 1) (.N (-100000000)))
        (.ret [(.B true)])
        (.ret [(.lt (.N 100000000) (.V 1))])) 1
       (.ite (.V 5)
        (.ret [(.N 0)])
        (.ret [(.N 1)]))))) 1
    (.ite (.eq (.V 4) (.N 0))
     (.ret [(.B false)])
     (.ret [(.B true)]))) 1
   (.ite (.V 4)
    (.ite (.lt (.V 2) (.N 0))
     (.ret [(.B true)])
     (.ite (.lt (.V 3) (.V 2))
      (.ret [(.B true)])
      (.ret [(.lt (.N 1000000) (.V 3))])))
    (.ret [(.B true)]))) 1
  (.ite (.V 4)
   (.ret [(.N 65)])
   (.ret [(.N 0)])))
set_option maxRecDepth 100000 in
theorem pcCheck_t : runS Try.prog [] [] pcCheck_K = pcCheck_T := by kernel_rfl
def rcCheck_K : Con := ⟨60, [.val true [.int .i64, .int .i64, .int .i64, .int .i64]], [.val false [.int .i64]], []⟩
def rcCheck_T : T (List X) :=
  (.sub (.sub (.ite (.lt (.V 0) (.N (-100000000)))
    (.ret [(.B false)])
    (.ite (.lt (.N 100000000) (.V 0))
     (.ret [(.B false)])
     (.ite (.lt (.V 1) (.N (-100000000)))
      (.ret [(.B false)])
      (.ret [(.not (.lt (.N 100000000) (.V 1)))])))) 1
   (.ite (.V 4)
    (.ite (.lt (.V 2) (.N 0))
     (.ret [(.B true)])
     (.ite (.lt (.V 3) (.V 2))
      (.ret [(.B true)])
      (.ret [(.lt (.N 1000000) (.V 3))])))
    (.ret [(.B true)]))) 1
  (.ite (.V 4)
   (.ret [(.N 65)])
   (.ret [(.N 0)])))
set_option maxRecDepth 100000 in
theorem rcCheck_t : runS Try.prog [] [] rcCheck_K = rcCheck_T := by kernel_rfl
def pcFar_K : Con := ⟨62, [.val true [.int .i64, .int .i64, .int .i64, .int .i64], .val true [.int .i64, .int .i64, .int .i64, .int .i64, .int .i64]], [.val false [.int .i64]], []⟩
def pcFar_T : T (List X) :=
  (.sub (.call 59 [(.V 0), (.V 1), (.V 2), (.V 3)] 1
   (.ite (.eq (.V 9) (.N 0))
    (.ite (.eq (.V 8) (.N 0))
     (.ret [(.B false)])
     (.sub (.sub (.sub (.ite (.lt (.V 4) (.N (-100000000)))
         (.ret [(.B true)])
         (.ret [(.lt (.N 100000000) (.V 4))])) 1
        (.ite (.V 10)
         (.ret [(.N 0)])
         (.sub (.ite (.lt (.V 5) (.N (-100000000)))
           (.ret [(.B true)])
           (.ret [(.lt (.N 100000000) (.V 5))])) 1
          (.ite (.V 11)
           (.ret [(.N 0)])
           (.ret [(.N 1)]))))) 1
       (.ite (.eq (.V 10) (.N 0))
        (.ret [(.B false)])
        (.ret [(.B true)]))) 1
      (.ite (.V 10)
       (.ite (.lt (.V 6) (.N 0))
        (.ret [(.B false)])
        (.ret [(.not (.lt (.N 200000000) (.V 6)))]))
       (.ret [(.B false)]))))
    (.ret [(.B false)]))) 1
  (.ite (.V 9)
   (.ret [(.wr .i64 (.add (.add (.N 0) (.wr .i64 (.mul (.wr .i64 (.add (.mx (.wr .i64 (.sub (.V 4) (.V 0))) (.wr .i64 (.sub (.V 0) (.V 4)))) (.V 6))) (.wr .i64 (.add (.mx (.wr .i64 (.sub (.V 4) (.V 0))) (.wr .i64 (.sub (.V 0) (.V 4)))) (.V 6)))))) (.wr .i64 (.mul (.wr .i64 (.add (.mx (.wr .i64 (.sub (.V 5) (.V 1))) (.wr .i64 (.sub (.V 1) (.V 5)))) (.V 6))) (.wr .i64 (.add (.mx (.wr .i64 (.sub (.V 5) (.V 1))) (.wr .i64 (.sub (.V 1) (.V 5)))) (.V 6)))))))])
   (.ret [(.N (-1))])))
set_option maxRecDepth 100000 in
theorem pcFar_t : runS Try.prog [pcCheck_K.to []] [] pcFar_K = pcFar_T := by kernel_rfl
def rcFar_K : Con := ⟨63, [.val true [.int .i64, .int .i64, .int .i64, .int .i64], .val true [.int .i64, .int .i64, .int .i64, .int .i64, .int .i64]], [.val false [.int .i64]], []⟩
def rcFar_T : T (List X) :=
  (.sub (.call 60 [(.V 0), (.V 1), (.V 2), (.V 3)] 1
   (.ite (.eq (.V 9) (.N 0))
    (.sub (.ite (.eq (.V 8) (.N 0))
      (.ret [(.B false)])
      (.sub (.ite (.lt (.V 4) (.N (-100000000)))
        (.ret [(.B false)])
        (.ite (.lt (.N 100000000) (.V 4))
         (.ret [(.B false)])
         (.ite (.lt (.V 5) (.N (-100000000)))
          (.ret [(.B false)])
          (.ret [(.not (.lt (.N 100000000) (.V 5)))])))) 1
       (.ite (.V 10)
        (.ite (.lt (.V 6) (.N 0))
         (.ret [(.B false)])
         (.ret [(.not (.lt (.N 200000000) (.V 6)))]))
        (.ret [(.B false)])))) 1
     (.ret [(.not (.V 10))]))
    (.ret [(.B true)]))) 1
  (.ite (.V 9)
   (.ret [(.N (-1))])
   (.sub (.ite (.lt (.wr .i64 (.sub (.V 4) (.V 0))) (.N 0))
     (.ret [(.wr .i64 (.sub (.N 0) (.wr .i64 (.sub (.V 4) (.V 0)))))])
     (.ret [(.wr .i64 (.sub (.V 4) (.V 0)))])) 1
    (.sub (.ite (.lt (.wr .i64 (.sub (.V 5) (.V 1))) (.N 0))
      (.ret [(.wr .i64 (.sub (.N 0) (.wr .i64 (.sub (.V 5) (.V 1)))))])
      (.ret [(.wr .i64 (.sub (.V 5) (.V 1)))])) 1
     (.ret [(.wr .i64 (.add (.wr .i64 (.mul (.wr .i64 (.add (.V 10) (.V 6))) (.wr .i64 (.add (.V 10) (.V 6))))) (.wr .i64 (.mul (.wr .i64 (.add (.V 11) (.V 6))) (.wr .i64 (.add (.V 11) (.V 6)))))))])))))
set_option maxRecDepth 100000 in
theorem rcFar_t : runS Try.prog [rcCheck_K.to []] [] rcFar_K = rcFar_T := by kernel_rfl
def pcClose_K : Con := ⟨64, [.val true [.int .i64, .int .i64, .int .i64, .int .i64], .val true [.int .i64, .int .i64, .int .i64, .int .i64, .int .i64]], [.val false [.int .i64]], []⟩
def pcClose_T : T (List X) :=
  (.sub (.call 59 [(.V 0), (.V 1), (.V 2), (.V 3)] 1
   (.ite (.eq (.V 9) (.N 0))
    (.ite (.eq (.V 8) (.N 0))
     (.ret [(.B false)])
     (.sub (.sub (.sub (.ite (.lt (.V 4) (.N (-100000000)))
         (.ret [(.B true)])
         (.ret [(.lt (.N 100000000) (.V 4))])) 1
        (.ite (.V 10)
         (.ret [(.N 0)])
         (.sub (.ite (.lt (.V 5) (.N (-100000000)))
           (.ret [(.B true)])
           (.ret [(.lt (.N 100000000) (.V 5))])) 1
          (.ite (.V 11)
           (.ret [(.N 0)])
           (.ret [(.N 1)]))))) 1
       (.ite (.eq (.V 10) (.N 0))
        (.ret [(.B false)])
        (.ret [(.B true)]))) 1
      (.ite (.V 10)
       (.ite (.lt (.V 6) (.N 0))
        (.ret [(.B false)])
        (.ret [(.not (.lt (.N 200000000) (.V 6)))]))
       (.ret [(.B false)]))))
    (.ret [(.B false)]))) 1
  (.ite (.V 9)
   (.ret [(.wr .i64 (.add (.add (.N 0) (.wr .i64 (.mul (.mx (.N 0) (.wr .i64 (.sub (.mx (.wr .i64 (.sub (.V 4) (.V 0))) (.wr .i64 (.sub (.V 0) (.V 4)))) (.V 6)))) (.mx (.N 0) (.wr .i64 (.sub (.mx (.wr .i64 (.sub (.V 4) (.V 0))) (.wr .i64 (.sub (.V 0) (.V 4)))) (.V 6))))))) (.wr .i64 (.mul (.mx (.N 0) (.wr .i64 (.sub (.mx (.wr .i64 (.sub (.V 5) (.V 1))) (.wr .i64 (.sub (.V 1) (.V 5)))) (.V 6)))) (.mx (.N 0) (.wr .i64 (.sub (.mx (.wr .i64 (.sub (.V 5) (.V 1))) (.wr .i64 (.sub (.V 1) (.V 5)))) (.V 6))))))))])
   (.ret [(.N (-1))])))
set_option maxRecDepth 100000 in
theorem pcClose_t : runS Try.prog [pcCheck_K.to []] [] pcClose_K = pcClose_T := by kernel_rfl
def rcClose_K : Con := ⟨65, [.val true [.int .i64, .int .i64, .int .i64, .int .i64], .val true [.int .i64, .int .i64, .int .i64, .int .i64, .int .i64]], [.val false [.int .i64]], []⟩
def rcClose_T : T (List X) :=
  (.sub (.call 60 [(.V 0), (.V 1), (.V 2), (.V 3)] 1
   (.ite (.eq (.V 9) (.N 0))
    (.sub (.ite (.eq (.V 8) (.N 0))
      (.ret [(.B false)])
      (.sub (.ite (.lt (.V 4) (.N (-100000000)))
        (.ret [(.B false)])
        (.ite (.lt (.N 100000000) (.V 4))
         (.ret [(.B false)])
         (.ite (.lt (.V 5) (.N (-100000000)))
          (.ret [(.B false)])
          (.ret [(.not (.lt (.N 100000000) (.V 5)))])))) 1
       (.ite (.V 10)
        (.ite (.lt (.V 6) (.N 0))
         (.ret [(.B false)])
         (.ret [(.not (.lt (.N 200000000) (.V 6)))]))
        (.ret [(.B false)])))) 1
     (.ret [(.not (.V 10))]))
    (.ret [(.B true)]))) 1
  (.ite (.V 9)
   (.ret [(.N (-1))])
   (.sub (.ite (.lt (.wr .i64 (.sub (.V 4) (.V 0))) (.N 0))
     (.ret [(.wr .i64 (.sub (.N 0) (.wr .i64 (.sub (.V 4) (.V 0)))))])
     (.ret [(.wr .i64 (.sub (.V 4) (.V 0)))])) 1
    (.sub (.ite (.lt (.wr .i64 (.sub (.V 5) (.V 1))) (.N 0))
      (.ret [(.wr .i64 (.sub (.N 0) (.wr .i64 (.sub (.V 5) (.V 1)))))])
      (.ret [(.wr .i64 (.sub (.V 5) (.V 1)))])) 1
     (.ret [(.wr .i64 (.add (.wr .i64 (.mul (.mx (.N 0) (.wr .i64 (.sub (.V 10) (.V 6)))) (.mx (.N 0) (.wr .i64 (.sub (.V 10) (.V 6)))))) (.wr .i64 (.mul (.mx (.N 0) (.wr .i64 (.sub (.V 11) (.V 6)))) (.mx (.N 0) (.wr .i64 (.sub (.V 11) (.V 6))))))))])))))
set_option maxRecDepth 100000 in
theorem rcClose_t : runS Try.prog [rcCheck_K.to []] [] rcClose_K = rcClose_T := by kernel_rfl
def pcWorst_K : Con := ⟨66, [.val true [.int .i64, .int .i64, .int .i64, .int .i64], .val true [.int .i64, .int .i64, .int .i64, .int .i64, .int .i64]], [.val false [.int .i64]], []⟩
def pcWorst_T : T (List X) :=
  (.call 62 [(.V 0), (.V 1), (.V 2), (.V 3), (.V 4), (.V 5), (.V 6), (.V 7), (.V 8)] 1
  (.sub (.sub (.ite (.eq (.V 9) (.N (-1)))
     (.ret [(.N 1), (.N 3)])
     (.ite (.lt (.add (.N 0) (.wr .i64 (.mul (.V 2) (.V 2)))) (.V 9))
      (.ite (.lt (.add (.N 0) (.wr .i64 (.mul (.V 3) (.V 3)))) (.V 9))
       (.ret [(.N 0), (.N 0)])
       (.ret [(.N 1), (.N 2)]))
      (.ret [(.N 1), (.N 1)]))) 2
    (.ite (.eq (.V 10) (.N 0))
     (.ret [(.N 3)])
     (.ret [(.V 11)]))) 1
   (.ret [(.V 10)])))
set_option maxRecDepth 100000 in
theorem pcWorst_t : runS Try.prog [pcFar_K.to []] [] pcWorst_K = pcWorst_T := by kernel_rfl
def rcWorst_K : Con := ⟨67, [.val true [.int .i64, .int .i64, .int .i64, .int .i64], .val true [.int .i64, .int .i64, .int .i64, .int .i64, .int .i64]], [.val false [.int .i64]], []⟩
def rcWorst_T : T (List X) :=
  (.call 63 [(.V 0), (.V 1), (.V 2), (.V 3), (.V 4), (.V 5), (.V 6), (.V 7), (.V 8)] 1
  (.ite (.lt (.V 9) (.N 0))
   (.ret [(.N 3)])
   (.sub (.sub (.ite (.lt (.wr .i64 (.mul (.V 3) (.V 3))) (.V 9))
      (.ret [(.N 0), (.N 3)])
      (.ite (.lt (.wr .i64 (.mul (.V 2) (.V 2))) (.V 9))
       (.ret [(.N 0), (.N 2)])
       (.ret [(.N 1), (.N 0)]))) 2
     (.ite (.eq (.V 10) (.N 0))
      (.ret [(.V 11)])
      (.ret [(.N 1)]))) 1
    (.ret [(.V 10)]))))
set_option maxRecDepth 100000 in
theorem rcWorst_t : runS Try.prog [rcFar_K.to []] [] rcWorst_K = rcWorst_T := by kernel_rfl
def pcBest_K : Con := ⟨68, [.val true [.int .i64, .int .i64, .int .i64, .int .i64], .val true [.int .i64, .int .i64, .int .i64, .int .i64, .int .i64]], [.val false [.int .i64]], []⟩
def pcBest_T : T (List X) :=
  (.call 64 [(.V 0), (.V 1), (.V 2), (.V 3), (.V 4), (.V 5), (.V 6), (.V 7), (.V 8)] 1
  (.sub (.sub (.ite (.eq (.V 9) (.N (-1)))
     (.ret [(.N 1), (.N 3)])
     (.ite (.lt (.add (.N 0) (.wr .i64 (.mul (.V 2) (.V 2)))) (.V 9))
      (.ite (.lt (.add (.N 0) (.wr .i64 (.mul (.V 3) (.V 3)))) (.V 9))
       (.ret [(.N 0), (.N 0)])
       (.ret [(.N 1), (.N 2)]))
      (.ret [(.N 1), (.N 1)]))) 2
    (.ite (.eq (.V 10) (.N 0))
     (.ret [(.N 3)])
     (.ret [(.V 11)]))) 1
   (.ret [(.V 10)])))
set_option maxRecDepth 100000 in
theorem pcBest_t : runS Try.prog [pcClose_K.to []] [] pcBest_K = pcBest_T := by kernel_rfl
def rcBest_K : Con := ⟨69, [.val true [.int .i64, .int .i64, .int .i64, .int .i64], .val true [.int .i64, .int .i64, .int .i64, .int .i64, .int .i64]], [.val false [.int .i64]], []⟩
def rcBest_T : T (List X) :=
  (.call 65 [(.V 0), (.V 1), (.V 2), (.V 3), (.V 4), (.V 5), (.V 6), (.V 7), (.V 8)] 1
  (.ite (.lt (.V 9) (.N 0))
   (.ret [(.N 3)])
   (.sub (.sub (.ite (.lt (.wr .i64 (.mul (.V 3) (.V 3))) (.V 9))
      (.ret [(.N 0), (.N 3)])
      (.ite (.lt (.wr .i64 (.mul (.V 2) (.V 2))) (.V 9))
       (.ret [(.N 0), (.N 2)])
       (.ret [(.N 1), (.N 0)]))) 2
     (.ite (.eq (.V 10) (.N 0))
      (.ret [(.V 11)])
      (.ret [(.N 1)]))) 1
    (.ret [(.V 10)]))))
set_option maxRecDepth 100000 in
theorem rcBest_t : runS Try.prog [rcClose_K.to []] [] rcBest_K = rcBest_T := by kernel_rfl
def pcLeft_K : Con := ⟨71, [.val true [.int .i64, .int .i64, .int .i64, .int .i64], .val true [.int .i64, .int .i64, .int .i64, .int .i64, .int .i64], .val false [.int .i64]], [.val false [.int .i64]], []⟩
def pcLeft_T : T (List X) :=
  (.sub (.ite (.lt (.V 9) (.N 0))
   (.ret [(.B true)])
   (.ite (.lt (.N 1000) (.V 9))
    (.ret [(.B true)])
    (.call 66 [(.V 0), (.V 1), (.V 2), (.V 3), (.V 4), (.V 5), (.V 6), (.V 7), (.V 8)] 1
     (.ret [(.eq (.V 10) (.N 3))])))) 1
  (.ite (.V 10)
   (.ret [(.N (-1))])
   (.loop [(.N 0), (.N 400)]
    (.ite (.lt (.V 11) (.V 12))
     (.call 66 [(.V 0), (.V 1), (.V 2), (.V 3), (.V 4), (.V 5), (.wr .i64 (.add (.V 6) (.wr .i64 (.mul (.add (.quo (.add (.V 11) (.V 12)) (.N 2)) (.N 1)) (.V 9))))), (.V 7), (.V 8)] 1
      (.ite (.eq (.V 13) (.N 3))
       (.ret (true, [(.V 11), (.quo (.add (.V 11) (.V 12)) (.N 2))]))
       (.ret (true, [(.add (.quo (.add (.V 11) (.V 12)) (.N 2)) (.N 1)), (.V 12)]))))
     (.ret (false, [(.V 11)]))) 1
    (.ret [(.V 11)]))))
set_option maxRecDepth 100000 in
theorem pcLeft_t : runS Try.prog [pcWorst_K.to []] [131] pcLeft_K = pcLeft_T := by kernel_rfl
def rcLeft_K : Con := ⟨72, [.val true [.int .i64, .int .i64, .int .i64, .int .i64], .val true [.int .i64, .int .i64, .int .i64, .int .i64, .int .i64], .val false [.int .i64]], [.val false [.int .i64]], []⟩
def rcLeft_T : T (List X) :=
  (.sub (.ite (.lt (.V 9) (.N 0))
   (.ret [(.B true)])
   (.ret [(.lt (.N 1000) (.V 9))])) 1
  (.ite (.V 10)
   (.ret [(.N (-1))])
   (.loop [(.N (-1)), (.N 0)]
    (.ite (.lt (.N 400) (.V 12))
     (.ret (false, [(.V 11)]))
     (.call 67 [(.V 0), (.V 1), (.V 2), (.V 3), (.V 4), (.V 5), (.wr .i64 (.add (.V 6) (.wr .i64 (.mul (.V 12) (.V 9))))), (.V 7), (.V 8)] 1
      (.ite (.eq (.V 13) (.N 3))
       (.ret (false, [(.V 11)]))
       (.ret (true, [(.V 12), (.add (.V 12) (.N 1))]))))) 1
    (.ret [(.V 11)]))))
set_option maxRecDepth 100000 in
theorem rcLeft_t : runS Try.prog [rcWorst_K.to []] [72] rcLeft_K = rcLeft_T := by kernel_rfl
end Go.Proofs.Ytbojkmgllihhiaa
