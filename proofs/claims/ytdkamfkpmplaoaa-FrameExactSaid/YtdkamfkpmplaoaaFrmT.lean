/- The trees of frame, in the program and in the reference. -/
import Derived.Test.YtdkamfkpmplaoaaAng
set_option linter.unusedVariables false
namespace Go.Proofs.Ytdkamfkpmplaoaa
open Go.RowKit Fx
def pRoot_H : List Hint := [
  ⟨536862845, 2, [], ⟨[.int .i64 (.V 0), .und, .int .i64 (.N 0), .int .i64 (.N 0), .int .i64 (.V 2), .int .i64 (.V 3), .und, .und, .und, .und, .und, .und, .und, .und, .und, .und, .und, .und, .und, .und, .und, .und, .und, .und, .und, .und, .und, .und, .und], [], 4, 0, [none, none, none, none], [], []⟩⟩]
def pRoot_K : Con := ⟨111, [.val false [.int .i64]], [.val false [.int .i64], .val false [.int .i64]], []⟩
def pRoot_T : T (List X) :=
  (.sub (.ite (.lt (.V 0) (.N 0))
   (.ret [(.B true)])
   (.ret [(.lt (.N 1000000000000000000) (.V 0))])) 1
  (.ite (.V 1)
   (.ret [(.N 0), (.N 1)])
   (.loop [(.N 0), (.N 1000000001)]
    (.ite (.lt (.N 1) (.wr .i64 (.sub (.V 3) (.V 2))))
     (.ite (.lt (.V 0) (.wr .i64 (.mul (.quo (.wr .i64 (.add (.V 2) (.V 3))) (.N 2)) (.quo (.wr .i64 (.add (.V 2) (.V 3))) (.N 2)))))
      (.ret (true, [(.V 2), (.quo (.wr .i64 (.add (.V 2) (.V 3))) (.N 2))]))
      (.ret (true, [(.quo (.wr .i64 (.add (.V 2) (.V 3))) (.N 2)), (.V 3)])))
     (.ret (false, [(.V 2)]))) 1
    (.ret [(.V 2), (.N 0)]))))
set_option maxRecDepth 100000 in
theorem pRoot_t : runS Try.prog [] [(111, pRoot_H)] pRoot_K = pRoot_T := by kernel_rfl
def rRoot_H : List Hint := [
  ⟨1073733757, 2, [], ⟨[.int .i64 (.V 0), .und, .int .i64 (.N 0), .int .i64 (.N 0), .int .i64 (.V 2), .int .i64 (.V 3), .und, .und, .und, .und, .und, .und, .und, .und, .und, .und, .und, .und, .und, .und, .und, .und, .und, .und, .und, .und, .und, .und, .und, .und], [], 4, 0, [none, none, none, none], [], []⟩⟩]
def rRoot_K : Con := ⟨112, [.val false [.int .i64]], [.val false [.int .i64], .val false [.int .i64]], []⟩
def rRoot_T : T (List X) :=
  (.sub (.ite (.lt (.V 0) (.N 0))
   (.ret [(.B true)])
   (.ret [(.lt (.N 1000000000000000000) (.V 0))])) 1
  (.ite (.V 1)
   (.ret [(.N 0), (.N 1)])
   (.loop [(.N 0), (.N 1000000000)]
    (.ite (.lt (.V 2) (.V 3))
     (.ite (.lt (.V 0) (.wr .i64 (.mul (.quo (.wr .i64 (.add (.wr .i64 (.add (.V 2) (.V 3))) (.N 1))) (.N 2)) (.quo (.wr .i64 (.add (.wr .i64 (.add (.V 2) (.V 3))) (.N 1))) (.N 2)))))
      (.ret (true, [(.V 2), (.sub (.quo (.wr .i64 (.add (.wr .i64 (.add (.V 2) (.V 3))) (.N 1))) (.N 2)) (.N 1))]))
      (.ret (true, [(.quo (.wr .i64 (.add (.wr .i64 (.add (.V 2) (.V 3))) (.N 1))) (.N 2)), (.V 3)])))
     (.ret (false, [(.V 2)]))) 1
    (.ret [(.V 2), (.N 0)]))))
set_option maxRecDepth 100000 in
theorem rRoot_t : runS Try.prog [] [(112, rRoot_H)] rRoot_K = rRoot_T := by kernel_rfl
def pfValid_K : Con := ⟨34, [.val true [.int .i64, .int .i64]], [.val false [.bool]], []⟩
def pfValid_T : T (List X) :=
  (.sub (.sub (.sub (.ite (.lt (.V 0) (.N (-100000000)))
     (.ret [(.B true)])
     (.ret [(.lt (.N 100000000) (.V 0))])) 1
    (.ite (.V 2)
     (.ret [(.N 0)])
     (.sub (.ite (.lt (.V 1) (.N (-100000000)))
       (.ret [(.B true)])
       (.ret [(.lt (.N 100000000) (.V 1))])) 1
      (.ite (.V 3)
       (.ret [(.N 0)])
       (.ret [(.N 1)]))))) 1
   (.ite (.eq (.V 2) (.N 0))
    (.ret [(.B false)])
    (.ret [(.B true)]))) 1
  (.ret [(.V 2)]))
set_option maxRecDepth 100000 in
theorem pfValid_t : runS Try.prog [] [] pfValid_K = pfValid_T := by kernel_rfl
def rfValid_K : Con := ⟨35, [.val true [.int .i64, .int .i64]], [.val false [.bool]], []⟩
def rfValid_T : T (List X) :=
  (.sub (.ite (.lt (.V 0) (.N (-100000000)))
   (.ret [(.B false)])
   (.ite (.lt (.N 100000000) (.V 0))
    (.ret [(.B false)])
    (.ite (.lt (.V 1) (.N (-100000000)))
     (.ret [(.B false)])
     (.ret [(.not (.lt (.N 100000000) (.V 1)))])))) 1
  (.ret [(.V 2)]))
set_option maxRecDepth 100000 in
theorem rfValid_t : runS Try.prog [] [] rfValid_K = rfValid_T := by kernel_rfl
def pfAdd_K : Con := ⟨36, [.val true [.int .i64, .int .i64], .val true [.int .i64, .int .i64]], [.val true [.int .i64, .int .i64], .val false [.int .i64]], []⟩
def pfAdd_T : T (List X) :=
  (.sub (.call 34 [(.V 0), (.V 1)] 1
   (.ite (.V 4)
    (.call 34 [(.V 2), (.V 3)] 1
     (.ret [(.not (.V 5))]))
    (.ret [(.B true)]))) 1
  (.ite (.V 4)
   (.ret [(.N 0), (.N 0), (.N 1)])
   (.sub (.call 34 [(.wr .i64 (.add (.V 0) (.V 2))), (.wr .i64 (.add (.V 1) (.V 3)))] 1
     (.ite (.V 5)
      (.ret [(.wr .i64 (.add (.V 0) (.V 2))), (.wr .i64 (.add (.V 1) (.V 3))), (.wr .i64 (.add (.V 0) (.V 2))), (.wr .i64 (.add (.V 1) (.V 3))), (.N 0)])
      (.ret [(.N 0), (.N 0), (.N 0), (.N 0), (.N 1)]))) 5
    (.ret [(.V 7), (.V 8), (.V 9)]))))
set_option maxRecDepth 100000 in
theorem pfAdd_t : runS Try.prog [pfValid_K.to []] [] pfAdd_K = pfAdd_T := by kernel_rfl
def rfAdd_K : Con := ⟨37, [.val true [.int .i64, .int .i64], .val true [.int .i64, .int .i64]], [.val true [.int .i64, .int .i64], .val false [.int .i64]], []⟩
def rfAdd_T : T (List X) :=
  (.sub (.call 35 [(.V 0), (.V 1)] 1
   (.ite (.V 4)
    (.call 35 [(.V 2), (.V 3)] 1
     (.ite (.V 5)
      (.call 35 [(.wr .i64 (.add (.V 0) (.V 2))), (.wr .i64 (.add (.V 1) (.V 3)))] 1
       (.ret [(.not (.V 6))]))
      (.ret [(.B true)])))
    (.ret [(.B true)]))) 1
  (.ite (.V 4)
   (.ret [(.N 0), (.N 0), (.N 1)])
   (.ret [(.wr .i64 (.add (.V 0) (.V 2))), (.wr .i64 (.add (.V 1) (.V 3))), (.N 0)])))
set_option maxRecDepth 100000 in
theorem rfAdd_t : runS Try.prog [rfValid_K.to []] [] rfAdd_K = rfAdd_T := by kernel_rfl
def pfSub_K : Con := ⟨38, [.val true [.int .i64, .int .i64], .val true [.int .i64, .int .i64]], [.val true [.int .i64, .int .i64], .val false [.int .i64]], []⟩
def pfSub_T : T (List X) :=
  (.sub (.call 34 [(.V 0), (.V 1)] 1
   (.ite (.V 4)
    (.call 34 [(.V 2), (.V 3)] 1
     (.ret [(.not (.V 5))]))
    (.ret [(.B true)]))) 1
  (.ite (.V 4)
   (.ret [(.N 0), (.N 0), (.N 1)])
   (.sub (.call 34 [(.wr .i64 (.sub (.V 0) (.V 2))), (.wr .i64 (.sub (.V 1) (.V 3)))] 1
     (.ite (.V 5)
      (.ret [(.wr .i64 (.sub (.V 0) (.V 2))), (.wr .i64 (.sub (.V 1) (.V 3))), (.wr .i64 (.sub (.V 0) (.V 2))), (.wr .i64 (.sub (.V 1) (.V 3))), (.N 0)])
      (.ret [(.N 0), (.N 0), (.N 0), (.N 0), (.N 1)]))) 5
    (.ret [(.V 7), (.V 8), (.V 9)]))))
set_option maxRecDepth 100000 in
theorem pfSub_t : runS Try.prog [pfValid_K.to []] [] pfSub_K = pfSub_T := by kernel_rfl
def rfSub_K : Con := ⟨39, [.val true [.int .i64, .int .i64], .val true [.int .i64, .int .i64]], [.val true [.int .i64, .int .i64], .val false [.int .i64]], []⟩
def rfSub_T : T (List X) :=
  (.sub (.call 35 [(.V 0), (.V 1)] 1
   (.ite (.V 4)
    (.call 35 [(.V 2), (.V 3)] 1
     (.ite (.V 5)
      (.call 35 [(.wr .i64 (.sub (.V 0) (.V 2))), (.wr .i64 (.sub (.V 1) (.V 3)))] 1
       (.ret [(.not (.V 6))]))
      (.ret [(.B true)])))
    (.ret [(.B true)]))) 1
  (.ite (.V 4)
   (.ret [(.N 0), (.N 0), (.N 1)])
   (.ret [(.wr .i64 (.sub (.V 0) (.V 2))), (.wr .i64 (.sub (.V 1) (.V 3))), (.N 0)])))
set_option maxRecDepth 100000 in
theorem rfSub_t : runS Try.prog [rfValid_K.to []] [] rfSub_K = rfSub_T := by kernel_rfl
def pfBox_K : Con := ⟨40, [.val true [.int .i64, .int .i64], .val true [.int .i64, .int .i64]], [.val false [.int .i64], .val false [.int .i64]], []⟩
def pfBox_T : T (List X) :=
  (.sub (.sub (.call 34 [(.V 0), (.V 1)] 1
    (.ite (.V 4)
     (.call 34 [(.V 2), (.V 3)] 1
      (.ret [(.not (.V 5))]))
     (.ret [(.B true)]))) 1
   (.ite (.V 4)
    (.ret [(.N 0), (.N 0), (.N 1)])
    (.ret [(.mx (.wr .i64 (.sub (.V 0) (.V 2))) (.wr .i64 (.sub (.V 2) (.V 0)))), (.mx (.wr .i64 (.sub (.V 1) (.V 3))) (.wr .i64 (.sub (.V 3) (.V 1)))), (.N 0)]))) 3
  (.ret [(.mx (.V 4) (.V 5)), (.V 6)]))
set_option maxRecDepth 100000 in
theorem pfBox_t : runS Try.prog [pfValid_K.to []] [] pfBox_K = pfBox_T := by kernel_rfl
def rfBox_K : Con := ⟨41, [.val true [.int .i64, .int .i64], .val true [.int .i64, .int .i64]], [.val false [.int .i64], .val false [.int .i64]], []⟩
def rfBox_T : T (List X) :=
  (.sub (.call 35 [(.V 0), (.V 1)] 1
   (.ite (.V 4)
    (.call 35 [(.V 2), (.V 3)] 1
     (.ret [(.not (.V 5))]))
    (.ret [(.B true)]))) 1
  (.ite (.V 4)
   (.ret [(.N 0), (.N 1)])
   (.sub (.ite (.lt (.wr .i64 (.sub (.V 0) (.V 2))) (.N 0))
     (.ret [(.wr .i64 (.sub (.N 0) (.wr .i64 (.sub (.V 0) (.V 2)))))])
     (.ret [(.wr .i64 (.sub (.V 0) (.V 2)))])) 1
    (.sub (.ite (.lt (.wr .i64 (.sub (.V 1) (.V 3))) (.N 0))
      (.ret [(.wr .i64 (.sub (.N 0) (.wr .i64 (.sub (.V 1) (.V 3)))))])
      (.ret [(.wr .i64 (.sub (.V 1) (.V 3)))])) 1
     (.ret [(.mx (.V 5) (.V 6)), (.N 0)])))))
set_option maxRecDepth 100000 in
theorem rfBox_t : runS Try.prog [rfValid_K.to []] [] rfBox_K = rfBox_T := by kernel_rfl
def pfDist_K : Con := ⟨42, [.val true [.int .i64, .int .i64], .val true [.int .i64, .int .i64]], [.val false [.int .i64], .val false [.int .i64]], []⟩
def pfDist_T : T (List X) :=
  (.sub (.sub (.call 34 [(.V 0), (.V 1)] 1
    (.ite (.V 4)
     (.call 34 [(.V 2), (.V 3)] 1
      (.ret [(.not (.V 5))]))
     (.ret [(.B true)]))) 1
   (.ite (.V 4)
    (.ret [(.N 0), (.N 0), (.N 1)])
    (.ret [(.mx (.wr .i64 (.sub (.V 0) (.V 2))) (.wr .i64 (.sub (.V 2) (.V 0)))), (.mx (.wr .i64 (.sub (.V 1) (.V 3))) (.wr .i64 (.sub (.V 3) (.V 1)))), (.N 0)]))) 3
  (.ite (.eq (.V 6) (.N 0))
   (.call 111 [(.wr .i64 (.add (.wr .i64 (.mul (.V 4) (.V 4))) (.wr .i64 (.mul (.V 5) (.V 5)))))] 2
    (.sub (.ite (.lt (.wr .i64 (.mul (.V 7) (.V 7))) (.wr .i64 (.add (.wr .i64 (.mul (.V 4) (.V 4))) (.wr .i64 (.mul (.V 5) (.V 5))))))
      (.ret [(.wr .i64 (.add (.V 7) (.N 1)))])
      (.ret [(.V 7)])) 1
     (.ret [(.V 9), (.V 8)])))
   (.ret [(.N 0), (.V 6)])))
set_option maxRecDepth 100000 in
theorem pfDist_t : runS Try.prog [pfValid_K.to [], pRoot_K.to []] [] pfDist_K = pfDist_T := by kernel_rfl
def rfDist_K : Con := ⟨43, [.val true [.int .i64, .int .i64], .val true [.int .i64, .int .i64]], [.val false [.int .i64], .val false [.int .i64]], []⟩
def rfDist_T : T (List X) :=
  (.sub (.call 35 [(.V 0), (.V 1)] 1
   (.ite (.V 4)
    (.call 35 [(.V 2), (.V 3)] 1
     (.ret [(.not (.V 5))]))
    (.ret [(.B true)]))) 1
  (.ite (.V 4)
   (.ret [(.N 0), (.N 1)])
   (.call 112 [(.wr .i64 (.add (.wr .i64 (.mul (.wr .i64 (.sub (.V 0) (.V 2))) (.wr .i64 (.sub (.V 0) (.V 2))))) (.wr .i64 (.mul (.wr .i64 (.sub (.V 1) (.V 3))) (.wr .i64 (.sub (.V 1) (.V 3)))))))] 2
    (.sub (.ite (.lt (.wr .i64 (.mul (.V 5) (.V 5))) (.wr .i64 (.add (.wr .i64 (.mul (.wr .i64 (.sub (.V 0) (.V 2))) (.wr .i64 (.sub (.V 0) (.V 2))))) (.wr .i64 (.mul (.wr .i64 (.sub (.V 1) (.V 3))) (.wr .i64 (.sub (.V 1) (.V 3))))))))
      (.ret [(.wr .i64 (.add (.V 5) (.N 1)))])
      (.ret [(.V 5)])) 1
     (.ret [(.V 7), (.V 6)])))))
set_option maxRecDepth 100000 in
theorem rfDist_t : runS Try.prog [rfValid_K.to [], rRoot_K.to []] [] rfDist_K = rfDist_T := by kernel_rfl
def pfTurn_K : Con := ⟨44, [.val false [.int .i64], .val false [.int .i64], .val false [.int .i64]], [.val false [.int .i64], .val false [.int .i64], .val false [.int .i64]], []⟩
def pfTurn_T : T (List X) :=
  (.sub (.sub (.sub (.ite (.lt (.V 0) (.N (-100000000)))
     (.ret [(.B true)])
     (.ret [(.lt (.N 100000000) (.V 0))])) 1
    (.ite (.V 3)
     (.ret [(.N 0)])
     (.sub (.ite (.lt (.V 1) (.N (-100000000)))
       (.ret [(.B true)])
       (.ret [(.lt (.N 100000000) (.V 1))])) 1
      (.ite (.V 4)
       (.ret [(.N 0)])
       (.ret [(.N 1)]))))) 1
   (.ite (.eq (.V 3) (.N 0))
    (.ret [(.B false)])
    (.ret [(.B true)]))) 1
  (.ite (.V 3)
   (.call 14 [(.V 2)] 1
    (.call 16 [(.V 2)] 1
     (.call 113 [(.wr .i64 (.sub (.wr .i64 (.mul (.V 0) (.V 5))) (.wr .i64 (.mul (.V 1) (.V 4))))), (.N 10000)] 2
      (.call 113 [(.wr .i64 (.add (.wr .i64 (.mul (.V 0) (.V 4))) (.wr .i64 (.mul (.V 1) (.V 5))))), (.N 10000)] 2
       (.ret [(.V 6), (.V 8), (.N 0)])))))
   (.ret [(.N 0), (.N 0), (.N 1)])))
set_option maxRecDepth 100000 in
theorem pfTurn_t : runS Try.prog [pSin_K.to [], pCos_K.to [], pHalf_K.to []] [] pfTurn_K = pfTurn_T := by kernel_rfl
def rfTurn_K : Con := ⟨45, [.val false [.int .i64], .val false [.int .i64], .val false [.int .i64]], [.val false [.int .i64], .val false [.int .i64], .val false [.int .i64]], []⟩
def rfTurn_T : T (List X) :=
  (.call 35 [(.V 0), (.V 1)] 1
  (.ite (.V 3)
   (.call 17 [(.V 2)] 1
    (.call 15 [(.V 2)] 1
     (.call 70 [(.wr .i64 (.sub (.wr .i64 (.mul (.V 0) (.V 4))) (.wr .i64 (.mul (.V 1) (.V 5))))), (.N 10000)] 2
      (.call 15 [(.V 2)] 1
       (.call 17 [(.V 2)] 1
        (.call 70 [(.wr .i64 (.add (.wr .i64 (.mul (.V 0) (.V 8))) (.wr .i64 (.mul (.V 1) (.V 9))))), (.N 10000)] 2
         (.ret [(.V 6), (.V 10), (.N 0)])))))))
   (.ret [(.N 0), (.N 0), (.N 1)])))
set_option maxRecDepth 100000 in
theorem rfTurn_t : runS Try.prog [rSin_K.to [], rCos_K.to [], rHalf_K.to [], rfValid_K.to []] [] rfTurn_K = rfTurn_T := by kernel_rfl
def pfEarth_K : Con := ⟨46, [.val false [.int .i64], .val false [.int .i64], .val false [.int .i64]], [.val false [.int .i64], .val false [.int .i64], .val false [.int .i64]], []⟩
def pfEarth_T : T (List X) :=
  (.call 44 [(.V 0), (.V 1), (.V 2)] 3
  (.ret [(.V 3), (.V 4), (.V 5)]))
set_option maxRecDepth 100000 in
theorem pfEarth_t : runS Try.prog [pfTurn_K.to []] [] pfEarth_K = pfEarth_T := by kernel_rfl
def rfEarth_K : Con := ⟨47, [.val false [.int .i64], .val false [.int .i64], .val false [.int .i64]], [.val false [.int .i64], .val false [.int .i64], .val false [.int .i64]], []⟩
def rfEarth_T : T (List X) :=
  (.call 45 [(.V 0), (.V 1), (.V 2)] 3
  (.ret [(.V 3), (.V 4), (.V 5)]))
set_option maxRecDepth 100000 in
theorem rfEarth_t : runS Try.prog [rfTurn_K.to []] [] rfEarth_K = rfEarth_T := by kernel_rfl
def pfBody_K : Con := ⟨48, [.val false [.int .i64], .val false [.int .i64], .val false [.int .i64]], [.val false [.int .i64], .val false [.int .i64], .val false [.int .i64]], []⟩
def pfBody_T : T (List X) :=
  (.call 12 [(.V 2)] 1
  (.call 44 [(.V 0), (.V 1), (.wr .i64 (.sub (.N 0) (.V 3)))] 3
   (.ret [(.V 4), (.V 5), (.V 6)])))
set_option maxRecDepth 100000 in
theorem pfBody_t : runS Try.prog [pfTurn_K.to [], pNorm_K.to []] [] pfBody_K = pfBody_T := by kernel_rfl
def rfBody_K : Con := ⟨49, [.val false [.int .i64], .val false [.int .i64], .val false [.int .i64]], [.val false [.int .i64], .val false [.int .i64], .val false [.int .i64]], []⟩
def rfBody_T : T (List X) :=
  (.call 13 [(.V 2)] 1
  (.call 45 [(.V 0), (.V 1), (.wr .i64 (.sub (.N 0) (.V 3)))] 3
   (.ret [(.V 4), (.V 5), (.V 6)])))
set_option maxRecDepth 100000 in
theorem rfBody_t : runS Try.prog [rfTurn_K.to [], rNorm_K.to []] [] rfBody_K = rfBody_T := by kernel_rfl
def sane03_K : Con := ⟨50, [], [.val false [.bool]], []⟩
def sane03_T : T (List X) :=
  (.ret [(.B true)])
set_option maxRecDepth 100000 in
theorem sane03_t : runS Try.prog [] [] sane03_K = sane03_T := by kernel_rfl
end Go.Proofs.Ytdkamfkpmplaoaa
