/- The trees of fuse. -/
import Derived.Test.YtladhlgibapohaaRnd
import Derived.Test.YtladhlgibapohaaAuto
set_option linter.unusedVariables false
namespace Go.Proofs.Ytladhlgibapohaa
open Go.RowKit Fx
def srcFixN_K : Con := ⟨55, [.ptr [.sl [.int .i64], .int .i64], .val false [.int .i64]], [.val true [.int .i64, .int .i64, .int .i64, .int .i64]], []⟩
def srcFixN_T : T (List X) :=
  (.call 21 [(.V 0), (.V 1), (.N 6)] 3
  (.need (.and (.not (.lt (.V 3) (.N 0))) (.lt (.V 3) (.N 6)))
   (.call 21 [(.V 4), (.V 5), (.N 4)] 3
    (.need (.and (.not (.lt (.V 6) (.N 0))) (.lt (.V 6) (.N 4)))
     (.call 21 [(.V 7), (.V 8), (.N 4)] 3
      (.need (.and (.not (.lt (.V 9) (.N 0))) (.lt (.V 9) (.N 4)))
       (.ret [(.V 2), (.at (.rows [[(.N 0)], [(.N 0)], [(.N 1)], [(.N 20)], [(.N (-30))], [(.N 1000)]]) (.V 3) 0), (.at (.rows [[(.N 0)], [(.N 0)], [(.N 5)], [(.N (-20))]]) (.V 6) 0), (.at (.rows [[(.N 1)], [(.N 10)], [(.N 50)], [(.N 200)]]) (.V 9) 0), (.V 10), (.V 11)])))))))
set_option maxRecDepth 100000 in
theorem srcFixN_t : runS Try.prog [srcN_K.to []] [] srcFixN_K = srcFixN_T := by kernel_rfl
def srcNow_K : Con := ⟨41, [.ptr [.sl [.int .i64], .int .i64], .val false [.int .i64]], [.val false [.sl [.int .i64, .int .i64, .int .i64, .int .i64]]], []⟩
def srcNow_T : T (List X) :=
  (.call 21 [(.V 0), (.V 1), (.wr .i64 (.add (.V 2) (.N 1)))] 3
  (.loop [(.rows []), (.V 4), (.V 5), (.V 3)]
   (.ite (.lt (.N 0) (.V 9))
    (.call 55 [(.V 7), (.V 8), (.N 0)] 6
     (.need (.not (.lt (.N 4398046511104) (.add (.len (.V 6)) (.N 1))))
      (.ret (true, [(.app (.V 6) (.rows [[(.V 10), (.V 11), (.V 12), (.V 13)]])), (.V 14), (.V 15), (.wr .i64 (.sub (.V 9) (.N 1)))]))))
    (.ret (false, [(.V 6), (.V 7), (.V 8)]))) 3
   (.ret [(.V 6), (.V 7), (.V 8)])))
set_option maxRecDepth 100000 in
theorem srcNow_t : runS Try.prog [srcN_K.to [], srcFixN_K.to []] [41] srcNow_K = srcNow_T := by kernel_rfl
def fCheck_K : Con := ⟨72, [.val false [.sl [.int .i64, .int .i64, .int .i64, .int .i64]]], [.val false [.int .i64]], []⟩
def fCheck_T : T (List X) :=
  (.ite (.eq (.len (.V 0)) (.N 0))
  (.ret [(.N 9)])
  (.ite (.lt (.N 8) (.len (.V 0)))
   (.ret [(.N 2)])
   (.loop [(.N 0)]
    (.ite (.lt (.V 1) (.len (.V 0)))
     (.need (.and (.not (.lt (.V 1) (.N 0))) (.lt (.V 1) (.len (.V 0))))
      (.sub (.sub (.sub (.sub (.ite (.lt (.at (.V 0) (.V 1) 1) (.N (-100000000)))
           (.ret [(.B true)])
           (.ret [(.lt (.N 100000000) (.at (.V 0) (.V 1) 1))])) 1
          (.ite (.V 2)
           (.ret [(.N 0)])
           (.sub (.ite (.lt (.at (.V 0) (.V 1) 2) (.N (-100000000)))
             (.ret [(.B true)])
             (.ret [(.lt (.N 100000000) (.at (.V 0) (.V 1) 2))])) 1
            (.ite (.V 3)
             (.ret [(.N 0)])
             (.ret [(.N 1)]))))) 1
         (.ite (.eq (.V 2) (.N 0))
          (.ret [(.B false)])
          (.ret [(.B true)]))) 1
        (.ite (.V 2)
         (.sub (.sub (.ite (.lt (.at (.V 0) (.V 1) 3) (.N 1))
            (.ret [(.B true)])
            (.ret [(.lt (.N 100000) (.at (.V 0) (.V 1) 3))])) 1
           (.ite (.V 3)
            (.ret [(.N 0)])
            (.need (.not (.eq (.wr .i64 (.mul (.at (.V 0) (.V 1) 3) (.at (.V 0) (.V 1) 3))) (.N 0)))
             (.ret [(.mx (.N 1) (.wr .i64 (.quo (.N 1000000000) (.wr .i64 (.mul (.at (.V 0) (.V 1) 3) (.at (.V 0) (.V 1) 3))))))])))) 1
          (.ret [(.V 2), (.not (.V 2)), (.not (.V 2)), (.eq (.V 3) (.N 0))]))
         (.ret [(.V 2), (.not (.V 2)), (.not (.V 2)), (.B true)]))) 4
       (.ite (.V 5)
        (.ret (false, [(.N 0), (.at (.V 0) (.V 1) 0), (.at (.V 0) (.V 1) 1), (.at (.V 0) (.V 1) 2), (.at (.V 0) (.V 1) 3), (.at (.V 0) (.V 1) 0), (.at (.V 0) (.V 1) 1), (.at (.V 0) (.V 1) 2), (.at (.V 0) (.V 1) 3), (.at (.V 0) (.V 1) 1), (.at (.V 0) (.V 1) 2), (.at (.V 0) (.V 1) 1), (.at (.V 0) (.V 1) 2)]))
        (.ret (true, [(.wr .i64 (.add (.V 1) (.N 1)))])))))
     (.ret (false, [(.N 1), (.N 0), (.N 0), (.N 0), (.N 0), (.N 0), (.N 0), (.N 0), (.N 0), (.N 0), (.N 0), (.N 0), (.N 0)]))) 13
    (.ite (.eq (.V 1) (.N 0))
     (.ret [(.N 1)])
     (.ret [(.N 0)])))))
set_option maxRecDepth 100000 in
theorem fCheck_t : runS Try.prog [] [72] fCheck_K = fCheck_T := by kernel_rfl
def fHalf_K : Con := ⟨92, [.val false [.int .i64], .val false [.int .i64]], [.val false [.int .i64], .val false [.int .i64]], []⟩
def fHalf_T : T (List X) :=
  (.sub (.sub (.ite (.lt (.V 0) (.N (-1000000000000000000)))
    (.ret [(.B true)])
    (.ite (.lt (.N 1000000000000000000) (.V 0))
     (.ret [(.B true)])
     (.ite (.lt (.V 1) (.N 1))
      (.ret [(.B true)])
      (.ret [(.lt (.N 1000000000) (.V 1))])))) 1
   (.ite (.V 2)
    (.ret [(.N 0), (.N 1)])
    (.need (.not (.eq (.V 1) (.N 0)))
     (.sub (.ite (.lt (.rem (.V 0) (.V 1)) (.N 0))
       (.ret [(.wr .i64 (.sub (.wr .i64 (.quo (.V 0) (.V 1))) (.N 1))), (.wr .i64 (.add (.rem (.V 0) (.V 1)) (.V 1)))])
       (.ret [(.wr .i64 (.quo (.V 0) (.V 1))), (.rem (.V 0) (.V 1))])) 2
      (.sub (.ite (.lt (.wr .i64 (.mul (.N 2) (.V 4))) (.V 1))
        (.ret [(.V 3)])
        (.ret [(.wr .i64 (.add (.V 3) (.N 1)))])) 1
       (.ret [(.V 5), (.N 0)])))))) 2
  (.ret [(.V 2), (.V 3)]))
set_option maxRecDepth 100000 in
theorem fHalf_t : runS Try.prog [] [] fHalf_K = fHalf_T := by kernel_rfl
def fUp_K : Con := ⟨60, [.val false [.int .i64], .val false [.int .i64]], [.val false [.int .i64], .val false [.int .i64]], []⟩
def fUp_T : T (List X) :=
  (.sub (.sub (.ite (.lt (.V 0) (.N (-1000000000000000000)))
    (.ret [(.B true)])
    (.ite (.lt (.N 1000000000000000000) (.V 0))
     (.ret [(.B true)])
     (.ite (.lt (.V 1) (.N 1))
      (.ret [(.B true)])
      (.ret [(.lt (.N 1000000000) (.V 1))])))) 1
   (.ite (.V 2)
    (.ret [(.N 0), (.N 1)])
    (.need (.not (.eq (.V 1) (.N 0)))
     (.sub (.ite (.lt (.rem (.V 0) (.V 1)) (.N 0))
       (.ret [(.wr .i64 (.sub (.wr .i64 (.quo (.V 0) (.V 1))) (.N 1))), (.wr .i64 (.add (.rem (.V 0) (.V 1)) (.V 1)))])
       (.ret [(.wr .i64 (.quo (.V 0) (.V 1))), (.rem (.V 0) (.V 1))])) 2
      (.sub (.ite (.lt (.N 0) (.V 4))
        (.ret [(.wr .i64 (.add (.V 3) (.N 1)))])
        (.ret [(.V 3)])) 1
       (.ret [(.V 5), (.N 0)])))))) 2
  (.ret [(.V 2), (.V 3)]))
set_option maxRecDepth 100000 in
theorem fUp_t : runS Try.prog [] [] fUp_K = fUp_T := by kernel_rfl
def fWeight_K : Con := ⟨77, [.val false [.int .i64]], [.val false [.int .i64]], []⟩
def fWeight_T : T (List X) :=
  (.sub (.ite (.lt (.V 0) (.N 1))
   (.ret [(.B true)])
   (.ret [(.lt (.N 100000) (.V 0))])) 1
  (.ite (.V 1)
   (.ret [(.N 0)])
   (.need (.not (.eq (.wr .i64 (.mul (.V 0) (.V 0))) (.N 0)))
    (.ret [(.mx (.N 1) (.wr .i64 (.quo (.N 1000000000) (.wr .i64 (.mul (.V 0) (.V 0))))))]))))
set_option maxRecDepth 100000 in
theorem fWeight_t : runS Try.prog [] [] fWeight_K = fWeight_T := by kernel_rfl
def fMean_K : Con := ⟨73, [.val false [.sl [.int .i64, .int .i64, .int .i64, .int .i64]]], [.val true [.int .i64, .int .i64]], []⟩
def fMean_T : T (List X) :=
  (.loop [(.N 0), (.N 0)]
  (.ite (.lt (.V 2) (.len (.V 0)))
   (.need (.and (.not (.lt (.V 2) (.N 0))) (.lt (.V 2) (.len (.V 0))))
    (.call 77 [(.at (.V 0) (.V 2) 3)] 1
     (.ret (true, [(.mx (.V 1) (.V 3)), (.wr .i64 (.add (.V 2) (.N 1)))]))))
   (.ret (false, [(.V 1)]))) 1
  (.loop [(.N 0), (.N 0), (.N 0), (.N 0)]
   (.ite (.lt (.V 5) (.len (.V 0)))
    (.need (.and (.not (.lt (.V 5) (.N 0))) (.lt (.V 5) (.len (.V 0))))
     (.call 77 [(.at (.V 0) (.V 5) 3)] 1
      (.call 60 [(.wr .i64 (.mul (.N 1000) (.V 6))), (.V 1)] 2
       (.ret (true, [(.wr .i64 (.add (.V 2) (.V 7))), (.wr .i64 (.add (.V 3) (.wr .i64 (.mul (.V 7) (.at (.V 0) (.V 5) 1))))), (.wr .i64 (.add (.V 4) (.wr .i64 (.mul (.V 7) (.at (.V 0) (.V 5) 2))))), (.wr .i64 (.add (.V 5) (.N 1)))])))))
    (.ret (false, [(.V 2), (.V 3), (.V 4)]))) 3
   (.call 92 [(.V 3), (.V 2)] 2
    (.call 92 [(.V 4), (.V 2)] 2
     (.ret [(.V 5), (.V 7)])))))
set_option maxRecDepth 100000 in
theorem fMean_t : runS Try.prog [fHalf_K.to [], fUp_K.to [], fWeight_K.to []] [73] fMean_K = fMean_T := by kernel_rfl
def fBox_K : Con := ⟨74, [.val true [.int .i64, .int .i64], .val true [.int .i64, .int .i64]], [.val false [.int .i64], .val false [.int .i64]], []⟩
def fBox_T : T (List X) :=
  (.sub (.sub (.sub (.sub (.sub (.ite (.lt (.V 0) (.N (-100000000)))
       (.ret [(.B true)])
       (.ret [(.lt (.N 100000000) (.V 0))])) 1
      (.ite (.V 4)
       (.ret [(.N 0)])
       (.sub (.ite (.lt (.V 1) (.N (-100000000)))
         (.ret [(.B true)])
         (.ret [(.lt (.N 100000000) (.V 1))])) 1
        (.ite (.V 5)
         (.ret [(.N 0)])
         (.ret [(.N 1)]))))) 1
     (.ite (.eq (.V 4) (.N 0))
      (.ret [(.B false)])
      (.ret [(.B true)]))) 1
    (.ite (.V 4)
     (.sub (.sub (.sub (.ite (.lt (.V 2) (.N (-100000000)))
         (.ret [(.B true)])
         (.ret [(.lt (.N 100000000) (.V 2))])) 1
        (.ite (.V 5)
         (.ret [(.N 0)])
         (.sub (.ite (.lt (.V 3) (.N (-100000000)))
           (.ret [(.B true)])
           (.ret [(.lt (.N 100000000) (.V 3))])) 1
          (.ite (.V 6)
           (.ret [(.N 0)])
           (.ret [(.N 1)]))))) 1
       (.ite (.eq (.V 5) (.N 0))
        (.ret [(.B false)])
        (.ret [(.B true)]))) 1
      (.ret [(.not (.V 5))]))
     (.ret [(.B true)]))) 1
   (.ite (.V 4)
    (.ret [(.N 0), (.N 0), (.N 1)])
    (.ret [(.mx (.wr .i64 (.sub (.V 0) (.V 2))) (.wr .i64 (.sub (.V 2) (.V 0)))), (.mx (.wr .i64 (.sub (.V 1) (.V 3))) (.wr .i64 (.sub (.V 3) (.V 1)))), (.N 0)]))) 3
  (.ret [(.mx (.V 4) (.V 5)), (.V 6)]))
set_option maxRecDepth 100000 in
theorem fBox_t : runS Try.prog [] [] fBox_K = fBox_T := by kernel_rfl
def fFuse_K : Con := ⟨42, [.val false [.sl [.int .i64, .int .i64, .int .i64, .int .i64]]], [.val true [.int .i64, .int .i64], .val false [.int .i64], .val false [.int .i64]], []⟩
def fFuse_T : T (List X) :=
  (.call 72 [(.V 0)] 1
  (.ite (.eq (.V 1) (.N 0))
   (.call 73 [(.V 0)] 2
    (.loop [(.N 0), (.N 0)]
     (.ite (.lt (.V 5) (.len (.V 0)))
      (.need (.and (.not (.lt (.V 5) (.N 0))) (.lt (.V 5) (.len (.V 0))))
       (.call 74 [(.V 2), (.V 3), (.at (.V 0) (.V 5) 1), (.at (.V 0) (.V 5) 2)] 2
        (.ret (true, [(.mx (.V 4) (.wr .i64 (.add (.V 6) (.at (.V 0) (.V 5) 3)))), (.wr .i64 (.add (.V 5) (.N 1)))]))))
      (.ret (false, [(.V 4)]))) 1
     (.ret [(.V 2), (.V 3), (.V 4), (.N 0)])))
   (.ret [(.N 0), (.N 0), (.N 0), (.V 1)])))
set_option maxRecDepth 100000 in
theorem fFuse_t : runS Try.prog [fCheck_K.to [], fMean_K.to [], fBox_K.to []] [42] fFuse_K = fFuse_T := by kernel_rfl
def sane09_K : Con := ⟨43, [], [.val false [.bool]], []⟩
def sane09_T : T (List X) :=
  (.ret [(.B true)])
set_option maxRecDepth 100000 in
theorem sane09_t : runS Try.prog [] [] sane09_K = sane09_T := by kernel_rfl
def fBound_K : Con := ⟨13, [.val false [.sl [.int .i64]]], [.val false [.bool]], []⟩
def fBound_T : T (List X) :=
  (.need (.not (.lt (.len (.V 0)) (.mn (.len (.V 0)) (.N 600))))
  (.call 41 [(.take (.V 0) (.mn (.len (.V 0)) (.N 600))), (.N 0), (.N 5)] 3
   (.ite (.eq (.len (.V 1)) (.N 0))
    (.call 42 [(.V 1)] 4
     (.sub (.ite (.eq (.V 7) (.N 9))
       (.call 43 [] 1
        (.ret [(.V 8)]))
       (.ret [(.B false)])) 1
      (.ret [(.V 8)])))
    (.call 21 [(.V 2), (.V 3), (.len (.V 1))] 3
     (.need (.and (.not (.lt (.V 4) (.N 0))) (.lt (.V 4) (.len (.V 1))))
      (.call 21 [(.V 5), (.V 6), (.wr .i64 (.add (.wr .i64 (.sub (.at (.V 1) (.V 4) 3) (.wr .i64 (.sub (.N 0) (.at (.V 1) (.V 4) 3))))) (.N 1)))] 3
       (.call 21 [(.V 8), (.V 9), (.wr .i64 (.add (.wr .i64 (.sub (.at (.V 1) (.V 4) 3) (.wr .i64 (.sub (.N 0) (.at (.V 1) (.V 4) 3))))) (.N 1)))] 3
        (.call 42 [(.V 1)] 4
         (.sub (.ite (.eq (.V 16) (.N 0))
           (.ite (.lt (.V 15) (.wr .i64 (.sub (.wr .i64 (.add (.at (.V 1) (.V 4) 1) (.wr .i64 (.add (.wr .i64 (.sub (.N 0) (.at (.V 1) (.V 4) 3))) (.V 7))))) (.V 13))))
            (.ret [(.B false)])
            (.ite (.lt (.V 15) (.wr .i64 (.sub (.V 13) (.wr .i64 (.add (.at (.V 1) (.V 4) 1) (.wr .i64 (.add (.wr .i64 (.sub (.N 0) (.at (.V 1) (.V 4) 3))) (.V 7))))))))
             (.ret [(.B false)])
             (.ite (.lt (.V 15) (.wr .i64 (.sub (.wr .i64 (.add (.at (.V 1) (.V 4) 2) (.wr .i64 (.add (.wr .i64 (.sub (.N 0) (.at (.V 1) (.V 4) 3))) (.V 10))))) (.V 14))))
              (.ret [(.B false)])
              (.ite (.lt (.V 15) (.wr .i64 (.sub (.V 14) (.wr .i64 (.add (.at (.V 1) (.V 4) 2) (.wr .i64 (.add (.wr .i64 (.sub (.N 0) (.at (.V 1) (.V 4) 3))) (.V 10))))))))
               (.ret [(.B false)])
               (.call 43 [] 1
                (.ret [(.V 17)]))))))
           (.ret [(.B false)])) 1
          (.ret [(.V 17)]))))))))))
set_option maxRecDepth 100000 in
theorem fBound_t : runS Try.prog [srcN_K.to [], srcNow_K.to [], fFuse_K.to [], sane09_K.to []] [] fBound_K = fBound_T := by kernel_rfl
end Go.Proofs.Ytladhlgibapohaa
