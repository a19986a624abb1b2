/- The trees of angles, in the program and in the reference. -/
import Derived.Test.YtdkamfkpmplaoaaExa
set_option linter.unusedVariables false
namespace Go.Proofs.Ytdkamfkpmplaoaa
open Go.RowKit Fx
def pHalf_K : Con := ⟨113, [.val false [.int .i64], .val false [.int .i64]], [.val false [.int .i64], .val false [.int .i64]], []⟩
def pHalf_T : T (List X) :=
  (.sub (.sub (.ite (.lt (.V 0) (.N (-1000000000000000000)))
    (.ret [(.B true)])
    (.ite (.lt (.N 1000000000000000000) (.V 0))
     (.ret [(.B true)])
     (.ite (.lt (.V 1) (.N 1))
      (.ret [(.B true)])
      (.ret [(.lt (.N 1000000000) (.V 1))])))) 1
   (.ite (.V 2)
    (.ret [(.N 0), (.N 1)])
    (.need (.not (.eq (.V 1) (.N 0)))
     (.sub (.ite (.lt (.rem (.V 0) (.V 1)) (.N 0))
       (.ret [(.wr .i64 (.sub (.wr .i64 (.quo (.V 0) (.V 1))) (.N 1))), (.wr .i64 (.add (.rem (.V 0) (.V 1)) (.V 1)))])
       (.ret [(.wr .i64 (.quo (.V 0) (.V 1))), (.rem (.V 0) (.V 1))])) 2
      (.sub (.ite (.lt (.wr .i64 (.mul (.N 2) (.V 4))) (.V 1))
        (.ret [(.V 3)])
        (.ret [(.wr .i64 (.add (.V 3) (.N 1)))])) 1
       (.ret [(.V 5), (.N 0)])))))) 2
  (.ret [(.V 2), (.V 3)]))
set_option maxRecDepth 100000 in
theorem pHalf_t : runS Try.prog [] [] pHalf_K = pHalf_T := by kernel_rfl
def rHalf_K : Con := ⟨70, [.val false [.int .i64], .val false [.int .i64]], [.val false [.int .i64], .val false [.int .i64]], []⟩
def rHalf_T : T (List X) :=
  (.sub (.sub (.ite (.lt (.V 0) (.N (-1000000000000000000)))
    (.ret [(.B false)])
    (.ret [(.not (.lt (.N 1000000000000000000) (.V 0)))])) 1
   (.ite (.V 2)
    (.ite (.lt (.V 1) (.N 1))
     (.ret [(.B false)])
     (.ret [(.not (.lt (.N 1000000000) (.V 1)))]))
    (.ret [(.B false)]))) 1
  (.ite (.V 2)
   (.need (.not (.eq (.wr .i64 (.mul (.N 2) (.V 1))) (.N 0)))
    (.sub (.ite (.lt (.rem (.wr .i64 (.add (.wr .i64 (.mul (.N 2) (.V 0))) (.V 1))) (.wr .i64 (.mul (.N 2) (.V 1)))) (.N 0))
      (.ret [(.wr .i64 (.sub (.wr .i64 (.quo (.wr .i64 (.add (.wr .i64 (.mul (.N 2) (.V 0))) (.V 1))) (.wr .i64 (.mul (.N 2) (.V 1))))) (.N 1)))])
      (.ret [(.wr .i64 (.quo (.wr .i64 (.add (.wr .i64 (.mul (.N 2) (.V 0))) (.V 1))) (.wr .i64 (.mul (.N 2) (.V 1)))))])) 1
     (.ret [(.V 3), (.N 0)])))
   (.ret [(.N 0), (.N 1)])))
set_option maxRecDepth 100000 in
theorem rHalf_t : runS Try.prog [] [] rHalf_K = rHalf_T := by kernel_rfl
def pNorm_K : Con := ⟨12, [.val false [.int .i64]], [.val false [.int .i64]], []⟩
def pNorm_T : T (List X) :=
  (.sub (.ite (.lt (.rem (.V 0) (.N 3600)) (.N 0))
   (.ret [(.add (.rem (.V 0) (.N 3600)) (.N 3600))])
   (.ret [(.rem (.V 0) (.N 3600))])) 1
  (.ret [(.V 1)]))
set_option maxRecDepth 100000 in
theorem pNorm_t : runS Try.prog [] [] pNorm_K = pNorm_T := by kernel_rfl
def rNorm_K : Con := ⟨13, [.val false [.int .i64]], [.val false [.int .i64]], []⟩
def rNorm_T : T (List X) :=
  (.ret [(.rem (.add (.rem (.V 0) (.N 3600)) (.N 3600)) (.N 3600))])
set_option maxRecDepth 100000 in
theorem rNorm_t : runS Try.prog [] [] rNorm_K = rNorm_T := by kernel_rfl
def pSin_K : Con := ⟨14, [.val false [.int .i64]], [.val false [.int .i64]], []⟩
def pSin_T : T (List X) :=
  (.call 12 [(.V 0)] 1
  (.ite (.lt (.N 1800) (.V 1))
   (.call 113 [(.wr .i64 (.mul (.N 40000) (.wr .i64 (.mul (.wr .i64 (.sub (.V 1) (.N 1800))) (.wr .i64 (.sub (.N 1800) (.wr .i64 (.sub (.V 1) (.N 1800))))))))), (.wr .i64 (.sub (.N 4050000) (.wr .i64 (.mul (.wr .i64 (.sub (.V 1) (.N 1800))) (.wr .i64 (.sub (.N 1800) (.wr .i64 (.sub (.V 1) (.N 1800)))))))))] 2
    (.ret [(.wr .i64 (.sub (.N 0) (.V 2)))]))
   (.call 113 [(.wr .i64 (.mul (.N 40000) (.wr .i64 (.mul (.V 1) (.wr .i64 (.sub (.N 1800) (.V 1))))))), (.wr .i64 (.sub (.N 4050000) (.wr .i64 (.mul (.V 1) (.wr .i64 (.sub (.N 1800) (.V 1)))))))] 2
    (.ret [(.V 2)]))))
set_option maxRecDepth 100000 in
theorem pSin_t : runS Try.prog [pNorm_K.to [], pHalf_K.to []] [] pSin_K = pSin_T := by kernel_rfl
def rSin_K : Con := ⟨15, [.val false [.int .i64]], [.val false [.int .i64]], []⟩
def rSin_T : T (List X) :=
  (.call 13 [(.V 0)] 1
  (.ite (.lt (.N 1800) (.V 1))
   (.call 15 [(.wr .i64 (.sub (.V 1) (.N 1800)))] 1
    (.ret [(.wr .i64 (.sub (.N 0) (.V 2)))]))
   (.call 70 [(.wr .i64 (.mul (.N 40000) (.wr .i64 (.mul (.V 1) (.wr .i64 (.sub (.N 1800) (.V 1))))))), (.wr .i64 (.sub (.N 4050000) (.wr .i64 (.mul (.V 1) (.wr .i64 (.sub (.N 1800) (.V 1)))))))] 2
    (.ret [(.V 2)]))))
set_option maxRecDepth 100000 in
theorem rSin_t : runS Try.prog [rNorm_K.to [], rHalf_K.to [], rSin_K.to []] [] rSin_K = rSin_T := by kernel_rfl
def pCos_K : Con := ⟨16, [.val false [.int .i64]], [.val false [.int .i64]], []⟩
def pCos_T : T (List X) :=
  (.call 12 [(.V 0)] 1
  (.call 14 [(.wr .i64 (.add (.V 1) (.N 900)))] 1
   (.ret [(.V 2)])))
set_option maxRecDepth 100000 in
theorem pCos_t : runS Try.prog [pNorm_K.to [], pSin_K.to []] [] pCos_K = pCos_T := by kernel_rfl
def rCos_K : Con := ⟨17, [.val false [.int .i64]], [.val false [.int .i64]], []⟩
def rCos_T : T (List X) :=
  (.call 13 [(.V 0)] 1
  (.call 15 [(.wr .i64 (.add (.V 1) (.N 900)))] 1
   (.ret [(.V 2)])))
set_option maxRecDepth 100000 in
theorem rCos_t : runS Try.prog [rNorm_K.to [], rSin_K.to []] [] rCos_K = rCos_T := by kernel_rfl
def pDiff_K : Con := ⟨18, [.val false [.int .i64], .val false [.int .i64]], [.val false [.int .i64]], []⟩
def pDiff_T : T (List X) :=
  (.call 12 [(.V 1)] 1
  (.call 12 [(.V 0)] 1
   (.call 12 [(.wr .i64 (.sub (.V 2) (.V 3)))] 1
    (.sub (.ite (.lt (.N 1800) (.V 4))
      (.ret [(.wr .i64 (.sub (.V 4) (.N 3600)))])
      (.ret [(.V 4)])) 1
     (.ret [(.V 5)])))))
set_option maxRecDepth 100000 in
theorem pDiff_t : runS Try.prog [pNorm_K.to []] [] pDiff_K = pDiff_T := by kernel_rfl
def rDiff_K : Con := ⟨19, [.val false [.int .i64], .val false [.int .i64]], [.val false [.int .i64]], []⟩
def rDiff_T : T (List X) :=
  (.call 13 [(.V 1)] 1
  (.call 13 [(.V 0)] 1
   (.call 13 [(.wr .i64 (.sub (.V 2) (.V 3)))] 1
    (.sub (.ite (.lt (.N 1800) (.V 4))
      (.ret [(.wr .i64 (.sub (.V 4) (.N 3600)))])
      (.ret [(.V 4)])) 1
     (.ret [(.V 5)])))))
set_option maxRecDepth 100000 in
theorem rDiff_t : runS Try.prog [rNorm_K.to []] [] rDiff_K = rDiff_T := by kernel_rfl
def pWidth_K : Con := ⟨26, [.val true [.int .i64, .int .i64]], [.val false [.int .i64]], []⟩
def pWidth_T : T (List X) :=
  (.call 12 [(.wr .i64 (.sub (.V 1) (.V 0)))] 1
  (.ret [(.V 2)]))
set_option maxRecDepth 100000 in
theorem pWidth_t : runS Try.prog [pNorm_K.to []] [] pWidth_K = pWidth_T := by kernel_rfl
def rWidth_K : Con := ⟨27, [.val true [.int .i64, .int .i64]], [.val false [.int .i64]], []⟩
def rWidth_T : T (List X) :=
  (.call 13 [(.wr .i64 (.sub (.V 1) (.V 0)))] 1
  (.ret [(.V 2)]))
set_option maxRecDepth 100000 in
theorem rWidth_t : runS Try.prog [rNorm_K.to []] [] rWidth_K = rWidth_T := by kernel_rfl
def pValid_K : Con := ⟨24, [.val true [.int .i64, .int .i64]], [.val false [.bool]], []⟩
def pValid_T : T (List X) :=
  (.sub (.ite (.lt (.V 0) (.N 0))
   (.ret [(.B false)])
   (.ite (.lt (.V 0) (.N 3600))
    (.ite (.lt (.V 1) (.N 0))
     (.ret [(.B false)])
     (.ite (.lt (.V 1) (.N 3600))
      (.call 26 [(.V 0), (.V 1)] 1
       (.ret [(.lt (.V 2) (.N 1800))]))
      (.ret [(.B false)])))
    (.ret [(.B false)]))) 1
  (.ret [(.V 2)]))
set_option maxRecDepth 100000 in
theorem pValid_t : runS Try.prog [pWidth_K.to []] [] pValid_K = pValid_T := by kernel_rfl
def rValid_K : Con := ⟨25, [.val true [.int .i64, .int .i64]], [.val false [.bool]], []⟩
def rValid_T : T (List X) :=
  (.sub (.ite (.lt (.V 0) (.N 0))
   (.ret [(.B false)])
   (.ite (.lt (.V 0) (.N 3600))
    (.ite (.lt (.V 1) (.N 0))
     (.ret [(.B false)])
     (.ite (.lt (.V 1) (.N 3600))
      (.call 27 [(.V 0), (.V 1)] 1
       (.ret [(.not (.lt (.N 1799) (.V 2)))]))
      (.ret [(.B false)])))
    (.ret [(.B false)]))) 1
  (.ret [(.V 2)]))
set_option maxRecDepth 100000 in
theorem rValid_t : runS Try.prog [rWidth_K.to []] [] rValid_K = rValid_T := by kernel_rfl
def pIn_K : Con := ⟨28, [.val true [.int .i64, .int .i64], .val false [.int .i64]], [.val false [.bool]], []⟩
def pIn_T : T (List X) :=
  (.sub (.call 24 [(.V 0), (.V 1)] 1
   (.ite (.V 3)
    (.call 12 [(.V 2)] 1
     (.call 12 [(.wr .i64 (.sub (.V 4) (.V 0)))] 1
      (.call 26 [(.V 0), (.V 1)] 1
       (.ret [(.not (.lt (.V 6) (.V 5)))]))))
    (.ret [(.B false)]))) 1
  (.ret [(.V 3)]))
set_option maxRecDepth 100000 in
theorem pIn_t : runS Try.prog [pValid_K.to [], pNorm_K.to [], pWidth_K.to []] [] pIn_K = pIn_T := by kernel_rfl
def rIn_K : Con := ⟨29, [.val true [.int .i64, .int .i64], .val false [.int .i64]], [.val false [.bool]], []⟩
def rIn_T : T (List X) :=
  (.sub (.call 25 [(.V 0), (.V 1)] 1
   (.ite (.V 3)
    (.call 13 [(.V 2)] 1
     (.call 13 [(.wr .i64 (.sub (.V 4) (.V 0)))] 1
      (.call 27 [(.V 0), (.V 1)] 1
       (.ret [(.not (.lt (.V 6) (.V 5)))]))))
    (.ret [(.B false)]))) 1
  (.ret [(.V 3)]))
set_option maxRecDepth 100000 in
theorem rIn_t : runS Try.prog [rValid_K.to [], rNorm_K.to [], rWidth_K.to []] [] rIn_K = rIn_T := by kernel_rfl
def pCross_K : Con := ⟨21, [.val false [.int .i64], .val false [.int .i64], .val false [.int .i64]], [.val false [.int .i64]], []⟩
def pCross_T : T (List X) :=
  (.sub (.sub (.ite (.lt (.V 1) (.N (-1000000000)))
    (.ret [(.B false)])
    (.ret [(.not (.lt (.N 1000000000) (.V 1)))])) 1
   (.ite (.V 3)
    (.sub (.ite (.lt (.V 2) (.N (-1000000000)))
      (.ret [(.B false)])
      (.ret [(.not (.lt (.N 1000000000) (.V 2)))])) 1
     (.ret [(.not (.V 4))]))
    (.ret [(.B true)]))) 1
  (.ite (.V 3)
   (.ret [(.N 0)])
   (.call 16 [(.V 0)] 1
    (.call 14 [(.V 0)] 1
     (.ret [(.wr .i64 (.sub (.wr .i64 (.mul (.V 4) (.V 2))) (.wr .i64 (.mul (.V 5) (.V 1)))))])))))
set_option maxRecDepth 100000 in
theorem pCross_t : runS Try.prog [pCos_K.to [], pSin_K.to []] [] pCross_K = pCross_T := by kernel_rfl
def rCross_K : Con := ⟨22, [.val false [.int .i64], .val false [.int .i64], .val false [.int .i64]], [.val false [.int .i64]], []⟩
def rCross_T : T (List X) :=
  (.sub (.ite (.lt (.V 1) (.N (-1000000000)))
   (.ret [(.B false)])
   (.ite (.lt (.N 1000000000) (.V 1))
    (.ret [(.B false)])
    (.ite (.lt (.V 2) (.N (-1000000000)))
     (.ret [(.B false)])
     (.ret [(.not (.lt (.N 1000000000) (.V 2)))])))) 1
  (.ite (.V 3)
   (.call 17 [(.V 0)] 1
    (.call 15 [(.V 0)] 1
     (.ret [(.wr .i64 (.sub (.wr .i64 (.mul (.V 4) (.V 2))) (.wr .i64 (.mul (.V 5) (.V 1)))))])))
   (.ret [(.N 0)])))
set_option maxRecDepth 100000 in
theorem rCross_t : runS Try.prog [rCos_K.to [], rSin_K.to []] [] rCross_K = rCross_T := by kernel_rfl
def pWithin_K : Con := ⟨30, [.val true [.int .i64, .int .i64], .val false [.int .i64], .val false [.int .i64]], [.val false [.bool]], []⟩
def pWithin_T : T (List X) :=
  (.sub (.call 24 [(.V 0), (.V 1)] 1
   (.ite (.V 4)
    (.ite (.eq (.V 2) (.N 0))
     (.ite (.eq (.V 3) (.N 0))
      (.ret [(.B true)])
      (.sub (.ite (.lt (.V 2) (.N (-1000000000)))
        (.ret [(.B false)])
        (.ret [(.not (.lt (.N 1000000000) (.V 2)))])) 1
       (.ite (.V 5)
        (.sub (.ite (.lt (.V 3) (.N (-1000000000)))
          (.ret [(.B false)])
          (.ret [(.not (.lt (.N 1000000000) (.V 3)))])) 1
         (.ret [(.not (.V 6))]))
        (.ret [(.B true)]))))
     (.sub (.ite (.lt (.V 2) (.N (-1000000000)))
       (.ret [(.B false)])
       (.ret [(.not (.lt (.N 1000000000) (.V 2)))])) 1
      (.ite (.V 5)
       (.sub (.ite (.lt (.V 3) (.N (-1000000000)))
         (.ret [(.B false)])
         (.ret [(.not (.lt (.N 1000000000) (.V 3)))])) 1
        (.ret [(.not (.V 6))]))
       (.ret [(.B true)]))))
    (.ret [(.B true)]))) 1
  (.ite (.V 4)
   (.ret [(.B false)])
   (.call 21 [(.V 0), (.V 2), (.V 3)] 1
    (.sub (.ite (.lt (.V 5) (.N 0))
      (.ret [(.B true)])
      (.call 21 [(.V 1), (.V 2), (.V 3)] 1
       (.ret [(.lt (.N 0) (.V 6))]))) 1
     (.ite (.V 6)
      (.ret [(.B false)])
      (.sub (.ite (.lt (.N 0) (.V 5))
        (.ret [(.B true)])
        (.call 16 [(.V 0)] 1
         (.call 14 [(.V 0)] 1
          (.ret [(.lt (.N 0) (.wr .i64 (.add (.wr .i64 (.mul (.V 7) (.V 2))) (.wr .i64 (.mul (.V 8) (.V 3))))))])))) 1
       (.ret [(.V 7)])))))))
set_option maxRecDepth 100000 in
theorem pWithin_t : runS Try.prog [pValid_K.to [], pCross_K.to [], pCos_K.to [], pSin_K.to []] [] pWithin_K = pWithin_T := by kernel_rfl
def rWithin_K : Con := ⟨31, [.val true [.int .i64, .int .i64], .val false [.int .i64], .val false [.int .i64]], [.val false [.bool]], []⟩
def rWithin_T : T (List X) :=
  (.sub (.call 25 [(.V 0), (.V 1)] 1
   (.ite (.V 4)
    (.sub (.ite (.lt (.V 2) (.N (-1000000000)))
      (.ret [(.B false)])
      (.ite (.lt (.N 1000000000) (.V 2))
       (.ret [(.B false)])
       (.ite (.lt (.V 3) (.N (-1000000000)))
        (.ret [(.B false)])
        (.ret [(.not (.lt (.N 1000000000) (.V 3)))])))) 1
     (.ite (.V 5)
      (.ite (.eq (.V 2) (.N 0))
       (.ret [(.eq (.V 3) (.N 0))])
       (.ret [(.B false)]))
      (.ret [(.B true)])))
    (.ret [(.B true)]))) 1
  (.ite (.V 4)
   (.ret [(.B false)])
   (.call 22 [(.V 0), (.V 2), (.V 3)] 1
    (.call 22 [(.V 1), (.V 2), (.V 3)] 1
     (.sub (.ite (.lt (.V 5) (.N 0))
       (.ret [(.B false)])
       (.ite (.lt (.N 0) (.V 6))
        (.ret [(.B false)])
        (.ite (.lt (.N 0) (.V 5))
         (.ret [(.B true)])
         (.call 17 [(.V 0)] 1
          (.call 15 [(.V 0)] 1
           (.ret [(.lt (.N 0) (.wr .i64 (.add (.wr .i64 (.mul (.V 7) (.V 2))) (.wr .i64 (.mul (.V 8) (.V 3))))))])))))) 1
      (.ret [(.V 7)]))))))
set_option maxRecDepth 100000 in
theorem rWithin_t : runS Try.prog [rValid_K.to [], rCross_K.to [], rCos_K.to [], rSin_K.to []] [] rWithin_K = rWithin_T := by kernel_rfl
end Go.Proofs.Ytdkamfkpmplaoaa
