/- The trees of control, in the program and in the reference, and of angles below them. -/
import Derived.Test.YtlhnhidoljfnnaaExa
set_option linter.unusedVariables false
namespace Go.Proofs.Ytlhnhidoljfnnaa
open Go.RowKit Fx
def pHalf_K : Con := ⟨102, [.val false [.int .i64], .val false [.int .i64]], [.val false [.int .i64], .val false [.int .i64]], []⟩
def pHalf_T : T (List X) :=
  (.sub (.sub (.ite (.lt (.V 0) (.N (-1000000000000000000)))
    (.ret [(.B true)])
    (.ite (.lt (.N 1000000000000000000) (.V 0))
     (.ret [(.B true)])
     (.ite (.lt (.V 1) (.N 1))
      (.ret [(.B true)])
      (.ret [(.lt (.N 1000000000) (.V 1))])))) 1
   (.ite (.V 2)
    (.ret [(.N 0), (.N 1)])
    (.need (.not (.eq (.V 1) (.N 0)))
     (.sub (.ite (.lt (.rem (.V 0) (.V 1)) (.N 0))
       (.ret [(.wr .i64 (.sub (.wr .i64 (.quo (.V 0) (.V 1))) (.N 1))), (.wr .i64 (.add (.rem (.V 0) (.V 1)) (.V 1)))])
       (.ret [(.wr .i64 (.quo (.V 0) (.V 1))), (.rem (.V 0) (.V 1))])) 2
      (.sub (.ite (.lt (.wr .i64 (.mul (.N 2) (.V 4))) (.V 1))
        (.ret [(.V 3)])
        (.ret [(.wr .i64 (.add (.V 3) (.N 1)))])) 1
       (.ret [(.V 5), (.N 0)])))))) 2
  (.ret [(.V 2), (.V 3)]))
set_option maxRecDepth 100000 in
theorem pHalf_t : runS Try.prog [] [] pHalf_K = pHalf_T := by kernel_rfl
def rHalf_K : Con := ⟨47, [.val false [.int .i64], .val false [.int .i64]], [.val false [.int .i64], .val false [.int .i64]], []⟩
def rHalf_T : T (List X) :=
  (.sub (.sub (.ite (.lt (.V 0) (.N (-1000000000000000000)))
    (.ret [(.B false)])
    (.ret [(.not (.lt (.N 1000000000000000000) (.V 0)))])) 1
   (.ite (.V 2)
    (.ite (.lt (.V 1) (.N 1))
     (.ret [(.B false)])
     (.ret [(.not (.lt (.N 1000000000) (.V 1)))]))
    (.ret [(.B false)]))) 1
  (.ite (.V 2)
   (.need (.not (.eq (.wr .i64 (.mul (.N 2) (.V 1))) (.N 0)))
    (.sub (.ite (.lt (.rem (.wr .i64 (.add (.wr .i64 (.mul (.N 2) (.V 0))) (.V 1))) (.wr .i64 (.mul (.N 2) (.V 1)))) (.N 0))
      (.ret [(.wr .i64 (.sub (.wr .i64 (.quo (.wr .i64 (.add (.wr .i64 (.mul (.N 2) (.V 0))) (.V 1))) (.wr .i64 (.mul (.N 2) (.V 1))))) (.N 1)))])
      (.ret [(.wr .i64 (.quo (.wr .i64 (.add (.wr .i64 (.mul (.N 2) (.V 0))) (.V 1))) (.wr .i64 (.mul (.N 2) (.V 1)))))])) 1
     (.ret [(.V 3), (.N 0)])))
   (.ret [(.N 0), (.N 1)])))
set_option maxRecDepth 100000 in
theorem rHalf_t : runS Try.prog [] [] rHalf_K = rHalf_T := by kernel_rfl
def rRound_K : Con := ⟨99, [.val false [.int .i64], .val false [.int .i64]], [.val false [.int .i64]], []⟩
def rRound_T : T (List X) :=
  (.need (.not (.eq (.wr .i64 (.mul (.N 2) (.V 1))) (.N 0)))
  (.sub (.ite (.lt (.rem (.wr .i64 (.add (.wr .i64 (.mul (.N 2) (.V 0))) (.V 1))) (.wr .i64 (.mul (.N 2) (.V 1)))) (.N 0))
    (.ret [(.wr .i64 (.sub (.wr .i64 (.quo (.wr .i64 (.add (.wr .i64 (.mul (.N 2) (.V 0))) (.V 1))) (.wr .i64 (.mul (.N 2) (.V 1))))) (.N 1)))])
    (.ret [(.wr .i64 (.quo (.wr .i64 (.add (.wr .i64 (.mul (.N 2) (.V 0))) (.V 1))) (.wr .i64 (.mul (.N 2) (.V 1)))))])) 1
   (.ret [(.V 2)])))
set_option maxRecDepth 100000 in
theorem rRound_t : runS Try.prog [] [] rRound_K = rRound_T := by kernel_rfl
def pNorm_K : Con := ⟨118, [.val false [.int .i64]], [.val false [.int .i64]], []⟩
def pNorm_T : T (List X) :=
  (.sub (.ite (.lt (.rem (.V 0) (.N 3600)) (.N 0))
   (.ret [(.add (.rem (.V 0) (.N 3600)) (.N 3600))])
   (.ret [(.rem (.V 0) (.N 3600))])) 1
  (.ret [(.V 1)]))
set_option maxRecDepth 100000 in
theorem pNorm_t : runS Try.prog [] [] pNorm_K = pNorm_T := by kernel_rfl
def rNorm_K : Con := ⟨106, [.val false [.int .i64]], [.val false [.int .i64]], []⟩
def rNorm_T : T (List X) :=
  (.ret [(.rem (.add (.rem (.V 0) (.N 3600)) (.N 3600)) (.N 3600))])
set_option maxRecDepth 100000 in
theorem rNorm_t : runS Try.prog [] [] rNorm_K = rNorm_T := by kernel_rfl
def pSin_K : Con := ⟨100, [.val false [.int .i64]], [.val false [.int .i64]], []⟩
def pSin_T : T (List X) :=
  (.call 118 [(.V 0)] 1
  (.ite (.lt (.N 1800) (.V 1))
   (.call 102 [(.wr .i64 (.mul (.N 40000) (.wr .i64 (.mul (.wr .i64 (.sub (.V 1) (.N 1800))) (.wr .i64 (.sub (.N 1800) (.wr .i64 (.sub (.V 1) (.N 1800))))))))), (.wr .i64 (.sub (.N 4050000) (.wr .i64 (.mul (.wr .i64 (.sub (.V 1) (.N 1800))) (.wr .i64 (.sub (.N 1800) (.wr .i64 (.sub (.V 1) (.N 1800)))))))))] 2
    (.ret [(.wr .i64 (.sub (.N 0) (.V 2)))]))
   (.call 102 [(.wr .i64 (.mul (.N 40000) (.wr .i64 (.mul (.V 1) (.wr .i64 (.sub (.N 1800) (.V 1))))))), (.wr .i64 (.sub (.N 4050000) (.wr .i64 (.mul (.V 1) (.wr .i64 (.sub (.N 1800) (.V 1)))))))] 2
    (.ret [(.V 2)]))))
set_option maxRecDepth 100000 in
theorem pSin_t : runS Try.prog [pNorm_K.to [], pHalf_K.to []] [] pSin_K = pSin_T := by kernel_rfl
def rSin_K : Con := ⟨104, [.val false [.int .i64]], [.val false [.int .i64]], []⟩
def rSin_T : T (List X) :=
  (.call 106 [(.V 0)] 1
  (.ite (.lt (.N 1800) (.V 1))
   (.call 104 [(.wr .i64 (.sub (.V 1) (.N 1800)))] 1
    (.ret [(.wr .i64 (.sub (.N 0) (.V 2)))]))
   (.call 47 [(.wr .i64 (.mul (.N 40000) (.wr .i64 (.mul (.V 1) (.wr .i64 (.sub (.N 1800) (.V 1))))))), (.wr .i64 (.sub (.N 4050000) (.wr .i64 (.mul (.V 1) (.wr .i64 (.sub (.N 1800) (.V 1)))))))] 2
    (.ret [(.V 2)]))))
set_option maxRecDepth 100000 in
theorem rSin_t : runS Try.prog [rNorm_K.to [], rHalf_K.to [], rSin_K.to []] [] rSin_K = rSin_T := by kernel_rfl
def pCos_K : Con := ⟨101, [.val false [.int .i64]], [.val false [.int .i64]], []⟩
def pCos_T : T (List X) :=
  (.call 118 [(.V 0)] 1
  (.call 100 [(.wr .i64 (.add (.V 1) (.N 900)))] 1
   (.ret [(.V 2)])))
set_option maxRecDepth 100000 in
theorem pCos_t : runS Try.prog [pNorm_K.to [], pSin_K.to []] [] pCos_K = pCos_T := by kernel_rfl
def rCos_K : Con := ⟨103, [.val false [.int .i64]], [.val false [.int .i64]], []⟩
def rCos_T : T (List X) :=
  (.call 106 [(.V 0)] 1
  (.call 104 [(.wr .i64 (.add (.V 1) (.N 900)))] 1
   (.ret [(.V 2)])))
set_option maxRecDepth 100000 in
theorem rCos_t : runS Try.prog [rNorm_K.to [], rSin_K.to []] [] rCos_K = rCos_T := by kernel_rfl
def pChk_K : Con := ⟨53, [.val true [.int .i64, .int .i64, .int .i64, .int .i64, .int .i64, .int .i64, .int .i64, .int .i64, .int .i64]], [.val false [.int .i64]], []⟩
def pChk_T : T (List X) :=
  (.sub (.sub (.ite (.lt (.V 0) (.N 0))
    (.ret [(.B true)])
    (.ret [(.lt (.N 100000) (.V 0))])) 1
   (.ite (.V 9)
    (.ret [(.N 0)])
    (.sub (.ite (.lt (.V 1) (.N 0))
      (.ret [(.B true)])
      (.ret [(.lt (.N 100000) (.V 1))])) 1
     (.ite (.V 10)
      (.ret [(.N 0)])
      (.sub (.ite (.lt (.V 2) (.N 0))
        (.ret [(.B true)])
        (.ret [(.lt (.N 100000) (.V 2))])) 1
       (.ite (.V 11)
        (.ret [(.N 0)])
        (.sub (.ite (.lt (.V 3) (.N 0))
          (.ret [(.B true)])
          (.ret [(.lt (.N 100000) (.V 3))])) 1
         (.ite (.V 12)
          (.ret [(.N 0)])
          (.sub (.ite (.lt (.V 4) (.N 0))
            (.ret [(.B true)])
            (.ret [(.lt (.N 100000) (.V 4))])) 1
           (.ite (.V 13)
            (.ret [(.N 0)])
            (.sub (.ite (.lt (.V 5) (.N 0))
              (.ret [(.B true)])
              (.ret [(.lt (.N 100000) (.V 5))])) 1
             (.ite (.V 14)
              (.ret [(.N 0)])
              (.ret [(.N 1)]))))))))))))) 1
  (.ite (.eq (.V 9) (.N 0))
   (.ret [(.N 62)])
   (.sub (.ite (.lt (.V 6) (.N 0))
     (.ret [(.B true)])
     (.ite (.lt (.N 10000000) (.V 6))
      (.ret [(.B true)])
      (.ite (.lt (.V 7) (.N 0))
       (.ret [(.B true)])
       (.ite (.lt (.N 5000) (.V 7))
        (.ret [(.B true)])
        (.ite (.lt (.V 8) (.N 0))
         (.ret [(.B true)])
         (.ret [(.lt (.N 500000) (.V 8))])))))) 1
    (.ite (.V 10)
     (.ret [(.N 62)])
     (.ret [(.N 0)])))))
set_option maxRecDepth 100000 in
theorem pChk_t : runS Try.prog [] [] pChk_K = pChk_T := by kernel_rfl
def rChk_K : Con := ⟨54, [.val true [.int .i64, .int .i64, .int .i64, .int .i64, .int .i64, .int .i64, .int .i64, .int .i64, .int .i64]], [.val false [.int .i64]], []⟩
def rChk_T : T (List X) :=
  (.sub (.sub (.ite (.lt (.V 0) (.N 0))
    (.ret [(.B false)])
    (.ret [(.not (.lt (.N 100000) (.V 0)))])) 1
   (.ite (.V 9)
    (.sub (.ite (.lt (.V 1) (.N 0))
      (.ret [(.B false)])
      (.ret [(.not (.lt (.N 100000) (.V 1)))])) 1
     (.ite (.V 10)
      (.sub (.ite (.lt (.V 2) (.N 0))
        (.ret [(.B false)])
        (.ret [(.not (.lt (.N 100000) (.V 2)))])) 1
       (.ite (.V 11)
        (.sub (.ite (.lt (.V 3) (.N 0))
          (.ret [(.B false)])
          (.ret [(.not (.lt (.N 100000) (.V 3)))])) 1
         (.ite (.V 12)
          (.sub (.ite (.lt (.V 4) (.N 0))
            (.ret [(.B false)])
            (.ret [(.not (.lt (.N 100000) (.V 4)))])) 1
           (.ite (.V 13)
            (.sub (.ite (.lt (.V 5) (.N 0))
              (.ret [(.B false)])
              (.ret [(.not (.lt (.N 100000) (.V 5)))])) 1
             (.ite (.V 14)
              (.ret [(.N 0)])
              (.ret [(.N 1)])))
            (.ret [(.N 1)])))
          (.ret [(.N 1)])))
        (.ret [(.N 1)])))
      (.ret [(.N 1)])))
    (.ret [(.N 1)]))) 1
  (.ite (.eq (.V 9) (.N 0))
   (.sub (.sub (.ite (.lt (.V 6) (.N 0))
      (.ret [(.B false)])
      (.ret [(.not (.lt (.N 10000000) (.V 6)))])) 1
     (.ite (.V 10)
      (.sub (.ite (.lt (.V 7) (.N 0))
        (.ret [(.B false)])
        (.ret [(.not (.lt (.N 5000) (.V 7)))])) 1
       (.ite (.V 11)
        (.sub (.ite (.lt (.V 8) (.N 0))
          (.ret [(.B false)])
          (.ret [(.not (.lt (.N 500000) (.V 8)))])) 1
         (.ret [(.not (.V 12))]))
        (.ret [(.B true)])))
      (.ret [(.B true)]))) 1
    (.ite (.V 10)
     (.ret [(.N 62)])
     (.ret [(.N 0)])))
   (.ret [(.N 62)])))
set_option maxRecDepth 100000 in
theorem rChk_t : runS Try.prog [] [] rChk_K = rChk_T := by kernel_rfl
def pVal_K : Con := ⟨55, [.val true [.int .i64, .int .i64, .int .i64, .int .i64, .int .i64, .int .i64, .int .i64, .int .i64, .int .i64], .val true [.int .i64, .int .i64, .int .i64, .int .i64, .int .i64, .int .i64, .bool]], [.val false [.bool]], []⟩
def pVal_T : T (List X) :=
  (.sub (.call 53 [(.V 0), (.V 1), (.V 2), (.V 3), (.V 4), (.V 5), (.V 6), (.V 7), (.V 8)] 1
   (.ite (.eq (.V 16) (.N 0))
    (.sub (.ite (.lt (.V 9) (.wr .i64 (.sub (.N 0) (.V 6))))
      (.ret [(.B false)])
      (.ret [(.not (.lt (.V 6) (.V 9)))])) 1
     (.ite (.V 17)
      (.sub (.ite (.lt (.V 10) (.wr .i64 (.sub (.N 0) (.V 6))))
        (.ret [(.B false)])
        (.ret [(.not (.lt (.V 6) (.V 10)))])) 1
       (.ite (.V 18)
        (.sub (.ite (.lt (.V 11) (.wr .i64 (.sub (.N 0) (.V 6))))
          (.ret [(.B false)])
          (.ret [(.not (.lt (.V 6) (.V 11)))])) 1
         (.ite (.V 19)
          (.sub (.sub (.sub (.ite (.lt (.V 12) (.N (-100000000)))
              (.ret [(.B true)])
              (.ret [(.lt (.N 100000000) (.V 12))])) 1
             (.ite (.V 20)
              (.ret [(.N 0)])
              (.sub (.ite (.lt (.V 13) (.N (-100000000)))
                (.ret [(.B true)])
                (.ret [(.lt (.N 100000000) (.V 13))])) 1
               (.ite (.V 21)
                (.ret [(.N 0)])
                (.ret [(.N 1)]))))) 1
            (.ite (.eq (.V 20) (.N 0))
             (.ret [(.B false)])
             (.ret [(.B true)]))) 1
           (.ite (.V 20)
            (.sub (.ite (.lt (.V 14) (.N 0))
              (.ret [(.B false)])
              (.ret [(.lt (.V 14) (.N 3600))])) 1
             (.ret [(.V 21)]))
            (.ret [(.B false)])))
          (.ret [(.B false)])))
        (.ret [(.B false)])))
      (.ret [(.B false)])))
    (.ret [(.B false)]))) 1
  (.ret [(.V 16)]))
set_option maxRecDepth 100000 in
theorem pVal_t : runS Try.prog [pChk_K.to []] [] pVal_K = pVal_T := by kernel_rfl
def rVal_K : Con := ⟨56, [.val true [.int .i64, .int .i64, .int .i64, .int .i64, .int .i64, .int .i64, .int .i64, .int .i64, .int .i64], .val true [.int .i64, .int .i64, .int .i64, .int .i64, .int .i64, .int .i64, .bool]], [.val false [.bool]], []⟩
def rVal_T : T (List X) :=
  (.sub (.call 54 [(.V 0), (.V 1), (.V 2), (.V 3), (.V 4), (.V 5), (.V 6), (.V 7), (.V 8)] 1
   (.ite (.eq (.V 16) (.N 0))
    (.sub (.ite (.lt (.V 9) (.wr .i64 (.sub (.N 0) (.V 6))))
      (.ret [(.B false)])
      (.ret [(.not (.lt (.V 6) (.V 9)))])) 1
     (.ite (.V 17)
      (.sub (.ite (.lt (.V 10) (.wr .i64 (.sub (.N 0) (.V 6))))
        (.ret [(.B false)])
        (.ret [(.not (.lt (.V 6) (.V 10)))])) 1
       (.ite (.V 18)
        (.sub (.ite (.lt (.V 11) (.wr .i64 (.sub (.N 0) (.V 6))))
          (.ret [(.B false)])
          (.ret [(.not (.lt (.V 6) (.V 11)))])) 1
         (.ite (.V 19)
          (.sub (.ite (.lt (.V 12) (.N (-100000000)))
            (.ret [(.B false)])
            (.ite (.lt (.N 100000000) (.V 12))
             (.ret [(.B false)])
             (.ite (.lt (.V 13) (.N (-100000000)))
              (.ret [(.B false)])
              (.ret [(.not (.lt (.N 100000000) (.V 13)))])))) 1
           (.ite (.V 20)
            (.sub (.ite (.lt (.V 14) (.N 0))
              (.ret [(.B false)])
              (.ret [(.not (.lt (.N 3599) (.V 14)))])) 1
             (.ret [(.V 21)]))
            (.ret [(.B false)])))
          (.ret [(.B false)])))
        (.ret [(.B false)])))
      (.ret [(.B false)])))
    (.ret [(.B false)]))) 1
  (.ret [(.V 16)]))
set_option maxRecDepth 100000 in
theorem rVal_t : runS Try.prog [rChk_K.to []] [] rVal_K = rVal_T := by kernel_rfl
def pSig_K : Con := ⟨61, [.val false [.int .i64]], [.val false [.int .i64]], []⟩
def pSig_T : T (List X) :=
  (.call 118 [(.V 0)] 1
  (.sub (.ite (.lt (.V 1) (.N 1800))
    (.ret [(.V 1)])
    (.ret [(.wr .i64 (.sub (.V 1) (.N 3600)))])) 1
   (.ret [(.V 2)])))
set_option maxRecDepth 100000 in
theorem pSig_t : runS Try.prog [pNorm_K.to []] [] pSig_K = pSig_T := by kernel_rfl
def rSig_K : Con := ⟨62, [.val false [.int .i64]], [.val false [.int .i64]], []⟩
def rSig_T : T (List X) :=
  (.call 106 [(.V 0)] 1
  (.sub (.ite (.lt (.V 1) (.N 1800))
    (.ret [(.V 1)])
    (.ret [(.wr .i64 (.sub (.V 1) (.N 3600)))])) 1
   (.ret [(.V 2)])))
set_option maxRecDepth 100000 in
theorem rSig_t : runS Try.prog [rNorm_K.to []] [] rSig_K = rSig_T := by kernel_rfl
def pBod_K : Con := ⟨59, [.val true [.int .i64, .int .i64], .val true [.int .i64, .int .i64], .val false [.int .i64]], [.val false [.int .i64], .val false [.int .i64]], []⟩
def pBod_T : T (List X) :=
  (.sub (.sub (.sub (.sub (.ite (.lt (.V 0) (.N (-100000000)))
      (.ret [(.B true)])
      (.ret [(.lt (.N 100000000) (.V 0))])) 1
     (.ite (.V 5)
      (.ret [(.N 0)])
      (.sub (.ite (.lt (.V 1) (.N (-100000000)))
        (.ret [(.B true)])
        (.ret [(.lt (.N 100000000) (.V 1))])) 1
       (.ite (.V 6)
        (.ret [(.N 0)])
        (.ret [(.N 1)]))))) 1
    (.ite (.eq (.V 5) (.N 0))
     (.ret [(.B false)])
     (.ret [(.B true)]))) 1
   (.ite (.V 5)
    (.sub (.sub (.sub (.ite (.lt (.V 2) (.N (-100000000)))
        (.ret [(.B true)])
        (.ret [(.lt (.N 100000000) (.V 2))])) 1
       (.ite (.V 6)
        (.ret [(.N 0)])
        (.sub (.ite (.lt (.V 3) (.N (-100000000)))
          (.ret [(.B true)])
          (.ret [(.lt (.N 100000000) (.V 3))])) 1
         (.ite (.V 7)
          (.ret [(.N 0)])
          (.ret [(.N 1)]))))) 1
      (.ite (.eq (.V 6) (.N 0))
       (.ret [(.B false)])
       (.ret [(.B true)]))) 1
     (.ite (.V 6)
      (.sub (.ite (.lt (.V 4) (.N 0))
        (.ret [(.B false)])
        (.ret [(.lt (.V 4) (.N 3600))])) 1
       (.ret [(.not (.V 7))]))
      (.ret [(.B true)])))
    (.ret [(.B true)]))) 1
  (.ite (.V 5)
   (.ret [(.N 0), (.N 0)])
   (.call 100 [(.V 4)] 1
    (.call 101 [(.V 4)] 1
     (.call 102 [(.wr .i64 (.add (.wr .i64 (.mul (.wr .i64 (.sub (.V 2) (.V 0))) (.V 7))) (.wr .i64 (.mul (.wr .i64 (.sub (.V 3) (.V 1))) (.V 6))))), (.N 10000)] 2
      (.call 102 [(.wr .i64 (.sub (.wr .i64 (.mul (.wr .i64 (.sub (.V 3) (.V 1))) (.V 7))) (.wr .i64 (.mul (.wr .i64 (.sub (.V 2) (.V 0))) (.V 6))))), (.N 10000)] 2
       (.ret [(.V 8), (.V 10)])))))))
set_option maxRecDepth 100000 in
theorem pBod_t : runS Try.prog [pSin_K.to [], pCos_K.to [], pHalf_K.to []] [] pBod_K = pBod_T := by kernel_rfl
def rBod_K : Con := ⟨60, [.val true [.int .i64, .int .i64], .val true [.int .i64, .int .i64], .val false [.int .i64]], [.val false [.int .i64], .val false [.int .i64]], []⟩
def rBod_T : T (List X) :=
  (.sub (.sub (.ite (.lt (.V 0) (.N (-100000000)))
    (.ret [(.B false)])
    (.ite (.lt (.N 100000000) (.V 0))
     (.ret [(.B false)])
     (.ite (.lt (.V 1) (.N (-100000000)))
      (.ret [(.B false)])
      (.ret [(.not (.lt (.N 100000000) (.V 1)))])))) 1
   (.ite (.V 5)
    (.sub (.ite (.lt (.V 2) (.N (-100000000)))
      (.ret [(.B false)])
      (.ite (.lt (.N 100000000) (.V 2))
       (.ret [(.B false)])
       (.ite (.lt (.V 3) (.N (-100000000)))
        (.ret [(.B false)])
        (.ret [(.not (.lt (.N 100000000) (.V 3)))])))) 1
     (.ite (.V 6)
      (.sub (.ite (.lt (.V 4) (.N 0))
        (.ret [(.B false)])
        (.ret [(.not (.lt (.N 3599) (.V 4)))])) 1
       (.ret [(.not (.V 7))]))
      (.ret [(.B true)])))
    (.ret [(.B true)]))) 1
  (.ite (.V 5)
   (.ret [(.N 0), (.N 0)])
   (.call 103 [(.V 4)] 1
    (.call 104 [(.V 4)] 1
     (.call 99 [(.wr .i64 (.add (.wr .i64 (.mul (.wr .i64 (.sub (.V 2) (.V 0))) (.V 6))) (.wr .i64 (.mul (.wr .i64 (.sub (.V 3) (.V 1))) (.V 7))))), (.N 10000)] 1
      (.call 99 [(.wr .i64 (.sub (.wr .i64 (.mul (.wr .i64 (.sub (.V 3) (.V 1))) (.V 6))) (.wr .i64 (.mul (.wr .i64 (.sub (.V 2) (.V 0))) (.V 7))))), (.N 10000)] 1
       (.ret [(.V 8), (.V 9)])))))))
set_option maxRecDepth 100000 in
theorem rBod_t : runS Try.prog [rSin_K.to [], rCos_K.to [], rRound_K.to []] [] rBod_K = rBod_T := by kernel_rfl
def pDem_K : Con := ⟨57, [.val true [.int .i64, .int .i64, .int .i64, .int .i64, .int .i64, .int .i64, .int .i64, .int .i64, .int .i64], .val true [.int .i64, .int .i64, .int .i64, .int .i64, .int .i64, .int .i64, .bool], .val true [.int .i64, .int .i64], .val false [.int .i64], .val true [.int .i64, .int .i64, .int .i64]], [.val true [.int .i64, .int .i64, .int .i64], .val true [.int .i64, .int .i64, .int .i64, .int .i64, .int .i64, .int .i64, .bool], .val false [.int .i64]], []⟩
def pDem_T : T (List X) :=
  (.call 53 [(.V 0), (.V 1), (.V 2), (.V 3), (.V 4), (.V 5), (.V 6), (.V 7), (.V 8)] 1
  (.ite (.eq (.V 22) (.N 0))
   (.sub (.call 55 [(.V 0), (.V 1), (.V 2), (.V 3), (.V 4), (.V 5), (.V 6), (.V 7), (.V 8), (.V 9), (.V 10), (.V 11), (.V 12), (.V 13), (.V 14), (.V 15)] 1
     (.ite (.V 23)
      (.sub (.sub (.sub (.ite (.lt (.V 16) (.N (-100000000)))
          (.ret [(.B true)])
          (.ret [(.lt (.N 100000000) (.V 16))])) 1
         (.ite (.V 24)
          (.ret [(.N 0)])
          (.sub (.ite (.lt (.V 17) (.N (-100000000)))
            (.ret [(.B true)])
            (.ret [(.lt (.N 100000000) (.V 17))])) 1
           (.ite (.V 25)
            (.ret [(.N 0)])
            (.ret [(.N 1)]))))) 1
        (.ite (.eq (.V 24) (.N 0))
         (.ret [(.B false)])
         (.ret [(.B true)]))) 1
       (.ite (.V 24)
        (.sub (.sub (.sub (.ite (.lt (.V 19) (.N (-100000000)))
            (.ret [(.B true)])
            (.ret [(.lt (.N 100000000) (.V 19))])) 1
           (.ite (.V 25)
            (.ret [(.N 0)])
            (.sub (.ite (.lt (.V 20) (.N (-100000000)))
              (.ret [(.B true)])
              (.ret [(.lt (.N 100000000) (.V 20))])) 1
             (.ite (.V 26)
              (.ret [(.N 0)])
              (.ret [(.N 1)]))))) 1
          (.ite (.eq (.V 25) (.N 0))
           (.ret [(.B false)])
           (.ret [(.B true)]))) 1
         (.ite (.V 25)
          (.sub (.ite (.lt (.V 18) (.N 0))
            (.ret [(.B false)])
            (.ret [(.lt (.V 18) (.N 3600))])) 1
           (.ite (.V 26)
            (.sub (.ite (.lt (.V 21) (.N 0))
              (.ret [(.B false)])
              (.ret [(.lt (.V 21) (.N 3600))])) 1
             (.ret [(.not (.V 27))]))
            (.ret [(.B true)])))
          (.ret [(.B true)])))
        (.ret [(.B true)])))
      (.ret [(.B true)]))) 1
    (.ite (.V 23)
     (.ret [(.N 0), (.N 0), (.N 0), (.N 0), (.N 0), (.N 0), (.N 0), (.N 0), (.N 0), (.B false), (.N 1)])
     (.call 59 [(.V 16), (.V 17), (.V 19), (.V 20), (.V 18)] 2
      (.call 61 [(.wr .i64 (.sub (.V 21) (.V 18)))] 1
       (.sub (.ite (.V 15)
         (.call 59 [(.V 12), (.V 13), (.V 16), (.V 17), (.V 18)] 2
          (.call 61 [(.wr .i64 (.sub (.V 18) (.V 14)))] 1
           (.ret [(.V 27), (.V 28), (.V 29)])))
         (.ret [(.N 0), (.N 0), (.N 0)])) 3
        (.call 102 [(.wr .i64 (.sub (.wr .i64 (.add (.wr .i64 (.mul (.V 0) (.V 24))) (.wr .i64 (.mul (.V 1) (.mx (.wr .i64 (.sub (.N 0) (.V 6))) (.mn (.wr .i64 (.add (.V 9) (.V 24))) (.V 6))))))) (.wr .i64 (.mul (.V 2) (.V 27))))), (.N 1000)] 2
         (.call 102 [(.wr .i64 (.sub (.wr .i64 (.add (.wr .i64 (.mul (.V 0) (.V 25))) (.wr .i64 (.mul (.V 1) (.mx (.wr .i64 (.sub (.N 0) (.V 6))) (.mn (.wr .i64 (.add (.V 10) (.V 25))) (.V 6))))))) (.wr .i64 (.mul (.V 2) (.V 28))))), (.N 1000)] 2
          (.call 102 [(.wr .i64 (.sub (.wr .i64 (.add (.wr .i64 (.mul (.V 3) (.V 26))) (.wr .i64 (.mul (.V 4) (.mx (.wr .i64 (.sub (.N 0) (.V 6))) (.mn (.wr .i64 (.add (.V 11) (.V 26))) (.V 6))))))) (.wr .i64 (.mul (.V 5) (.V 29))))), (.N 1000)] 2
           (.ret [(.mx (.wr .i64 (.sub (.N 0) (.V 7))) (.mn (.V 30) (.V 7))), (.mx (.wr .i64 (.sub (.N 0) (.V 7))) (.mn (.V 32) (.V 7))), (.mx (.wr .i64 (.sub (.N 0) (.V 8))) (.mn (.V 34) (.V 8))), (.mx (.wr .i64 (.sub (.N 0) (.V 6))) (.mn (.wr .i64 (.add (.V 9) (.V 24))) (.V 6))), (.mx (.wr .i64 (.sub (.N 0) (.V 6))) (.mn (.wr .i64 (.add (.V 10) (.V 25))) (.V 6))), (.mx (.wr .i64 (.sub (.N 0) (.V 6))) (.mn (.wr .i64 (.add (.V 11) (.V 26))) (.V 6))), (.V 16), (.V 17), (.V 18), (.B true), (.N 0)])))))))))
   (.ret [(.N 0), (.N 0), (.N 0), (.N 0), (.N 0), (.N 0), (.N 0), (.N 0), (.N 0), (.B false), (.V 22)])))
set_option maxRecDepth 100000 in
theorem pDem_t : runS Try.prog [pChk_K.to [], pVal_K.to [], pBod_K.to [], pSig_K.to [], pHalf_K.to []] [] pDem_K = pDem_T := by kernel_rfl
def rDem_K : Con := ⟨58, [.val true [.int .i64, .int .i64, .int .i64, .int .i64, .int .i64, .int .i64, .int .i64, .int .i64, .int .i64], .val true [.int .i64, .int .i64, .int .i64, .int .i64, .int .i64, .int .i64, .bool], .val true [.int .i64, .int .i64], .val false [.int .i64], .val true [.int .i64, .int .i64, .int .i64]], [.val true [.int .i64, .int .i64, .int .i64], .val true [.int .i64, .int .i64, .int .i64, .int .i64, .int .i64, .int .i64, .bool], .val false [.int .i64]], []⟩
def rDem_T : T (List X) :=
  (.call 54 [(.V 0), (.V 1), (.V 2), (.V 3), (.V 4), (.V 5), (.V 6), (.V 7), (.V 8)] 1
  (.ite (.eq (.V 22) (.N 0))
   (.sub (.call 56 [(.V 0), (.V 1), (.V 2), (.V 3), (.V 4), (.V 5), (.V 6), (.V 7), (.V 8), (.V 9), (.V 10), (.V 11), (.V 12), (.V 13), (.V 14), (.V 15)] 1
     (.ite (.V 23)
      (.sub (.ite (.lt (.V 16) (.N (-100000000)))
        (.ret [(.B false)])
        (.ite (.lt (.N 100000000) (.V 16))
         (.ret [(.B false)])
         (.ite (.lt (.V 17) (.N (-100000000)))
          (.ret [(.B false)])
          (.ret [(.not (.lt (.N 100000000) (.V 17)))])))) 1
       (.ite (.V 24)
        (.sub (.ite (.lt (.V 19) (.N (-100000000)))
          (.ret [(.B false)])
          (.ite (.lt (.N 100000000) (.V 19))
           (.ret [(.B false)])
           (.ite (.lt (.V 20) (.N (-100000000)))
            (.ret [(.B false)])
            (.ret [(.not (.lt (.N 100000000) (.V 20)))])))) 1
         (.ite (.V 25)
          (.sub (.ite (.lt (.V 18) (.N 0))
            (.ret [(.B false)])
            (.ret [(.not (.lt (.N 3599) (.V 18)))])) 1
           (.ite (.V 26)
            (.sub (.ite (.lt (.V 21) (.N 0))
              (.ret [(.B false)])
              (.ret [(.not (.lt (.N 3599) (.V 21)))])) 1
             (.ret [(.not (.V 27))]))
            (.ret [(.B true)])))
          (.ret [(.B true)])))
        (.ret [(.B true)])))
      (.ret [(.B true)]))) 1
    (.ite (.V 23)
     (.ret [(.N 0), (.N 0), (.N 0), (.N 0), (.N 0), (.N 0), (.N 0), (.N 0), (.N 0), (.B false), (.N 1)])
     (.call 60 [(.V 16), (.V 17), (.V 19), (.V 20), (.V 18)] 2
      (.call 62 [(.wr .i64 (.sub (.V 21) (.V 18)))] 1
       (.sub (.ite (.V 15)
         (.call 60 [(.V 12), (.V 13), (.V 16), (.V 17), (.V 18)] 2
          (.call 62 [(.wr .i64 (.sub (.V 18) (.V 14)))] 1
           (.ret [(.V 27), (.V 28), (.V 29)])))
         (.ret [(.N 0), (.N 0), (.N 0)])) 3
        (.call 99 [(.wr .i64 (.sub (.wr .i64 (.add (.wr .i64 (.mul (.V 0) (.V 24))) (.wr .i64 (.mul (.V 1) (.mx (.wr .i64 (.sub (.N 0) (.V 6))) (.mn (.wr .i64 (.add (.V 9) (.V 24))) (.V 6))))))) (.wr .i64 (.mul (.V 2) (.V 27))))), (.N 1000)] 1
         (.call 99 [(.wr .i64 (.sub (.wr .i64 (.add (.wr .i64 (.mul (.V 0) (.V 25))) (.wr .i64 (.mul (.V 1) (.mx (.wr .i64 (.sub (.N 0) (.V 6))) (.mn (.wr .i64 (.add (.V 10) (.V 25))) (.V 6))))))) (.wr .i64 (.mul (.V 2) (.V 28))))), (.N 1000)] 1
          (.call 99 [(.wr .i64 (.sub (.wr .i64 (.add (.wr .i64 (.mul (.V 3) (.V 26))) (.wr .i64 (.mul (.V 4) (.mx (.wr .i64 (.sub (.N 0) (.V 6))) (.mn (.wr .i64 (.add (.V 11) (.V 26))) (.V 6))))))) (.wr .i64 (.mul (.V 5) (.V 29))))), (.N 1000)] 1
           (.ret [(.mx (.wr .i64 (.sub (.N 0) (.V 7))) (.mn (.V 30) (.V 7))), (.mx (.wr .i64 (.sub (.N 0) (.V 7))) (.mn (.V 31) (.V 7))), (.mx (.wr .i64 (.sub (.N 0) (.V 8))) (.mn (.V 32) (.V 8))), (.mx (.wr .i64 (.sub (.N 0) (.V 6))) (.mn (.wr .i64 (.add (.V 9) (.V 24))) (.V 6))), (.mx (.wr .i64 (.sub (.N 0) (.V 6))) (.mn (.wr .i64 (.add (.V 10) (.V 25))) (.V 6))), (.mx (.wr .i64 (.sub (.N 0) (.V 6))) (.mn (.wr .i64 (.add (.V 11) (.V 26))) (.V 6))), (.V 16), (.V 17), (.V 18), (.B true), (.N 0)])))))))))
   (.ret [(.N 0), (.N 0), (.N 0), (.N 0), (.N 0), (.N 0), (.N 0), (.N 0), (.N 0), (.B false), (.V 22)])))
set_option maxRecDepth 100000 in
theorem rDem_t : runS Try.prog [rChk_K.to [], rVal_K.to [], rBod_K.to [], rSig_K.to [], rRound_K.to []] [] rDem_K = rDem_T := by kernel_rfl
end Go.Proofs.Ytlhnhidoljfnnaa
