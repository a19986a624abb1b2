/- Trees for VesselExact: the reference's, and what of the program's was not there. -/
import Derived.Test.YtdkamfkpmplaoaaWx
import Derived.Test.YtdkamfkpmplaoaaVxA
import Derived.Test.YtdkamfkpmplaoaaVesX
set_option linter.unusedVariables false
namespace Go.Proofs.Ytdkamfkpmplaoaa
open Go.RowKit Fx
def xvV_K : Con := ⟨90, [.val true [.int .i64, .int .i64, .int .i64, .int .i64, .int .i64, .int .i64, .int .i64]], [.val false [.bool]], []⟩
def xvV_T : T (List X) :=
  (.sub (.ite (.lt (.V 0) (.N 0))
   (.ret [(.B false)])
   (.ite (.lt (.N 2147483648) (.V 0))
    (.ret [(.B false)])
    (.sub (.ite (.lt (.V 1) (.N (-10000000000)))
      (.ret [(.B false)])
      (.ret [(.not (.lt (.N 10000000000) (.V 1)))])) 1
     (.ite (.V 7)
      (.sub (.ite (.lt (.V 2) (.N (-10000000000)))
        (.ret [(.B false)])
        (.ret [(.not (.lt (.N 10000000000) (.V 2)))])) 1
       (.ite (.V 8)
        (.ite (.lt (.V 3) (.N 0))
         (.ret [(.B false)])
         (.ite (.lt (.V 3) (.N 360000))
          (.sub (.ite (.lt (.V 4) (.N (-100000)))
            (.ret [(.B false)])
            (.ret [(.not (.lt (.N 100000) (.V 4)))])) 1
           (.ite (.V 9)
            (.sub (.ite (.lt (.V 5) (.N (-100000)))
              (.ret [(.B false)])
              (.ret [(.not (.lt (.N 100000) (.V 5)))])) 1
             (.ite (.V 10)
              (.sub (.ite (.lt (.V 6) (.N (-10000)))
                (.ret [(.B false)])
                (.ret [(.not (.lt (.N 10000) (.V 6)))])) 1
               (.ret [(.V 11)]))
              (.ret [(.B false)])))
            (.ret [(.B false)])))
          (.ret [(.B false)])))
        (.ret [(.B false)])))
      (.ret [(.B false)]))))) 1
  (.ret [(.V 7)]))
set_option maxRecDepth 100000 in
theorem xvV_t : runS Try.prog [] [] xvV_K = xvV_T := by kernel_rfl
def yvV_K : Con := ⟨91, [.val true [.int .i64, .int .i64, .int .i64, .int .i64, .int .i64, .int .i64, .int .i64]], [.val false [.bool]], []⟩
def yvV_T : T (List X) :=
  (.sub (.sub (.ite (.lt (.V 0) (.N 0))
    (.ret [(.B false)])
    (.ret [(.not (.lt (.N 2147483648) (.V 0)))])) 1
   (.ite (.V 7)
    (.sub (.ite (.lt (.V 1) (.N (-10000000000)))
      (.ret [(.B false)])
      (.ret [(.not (.lt (.N 10000000000) (.V 1)))])) 1
     (.ite (.V 8)
      (.sub (.ite (.lt (.V 2) (.N (-10000000000)))
        (.ret [(.B false)])
        (.ret [(.not (.lt (.N 10000000000) (.V 2)))])) 1
       (.ite (.V 9)
        (.sub (.ite (.lt (.V 3) (.N 0))
          (.ret [(.B false)])
          (.ret [(.not (.lt (.N 359999) (.V 3)))])) 1
         (.ite (.V 10)
          (.sub (.ite (.lt (.V 4) (.N (-100000)))
            (.ret [(.B false)])
            (.ret [(.not (.lt (.N 100000) (.V 4)))])) 1
           (.ite (.V 11)
            (.sub (.ite (.lt (.V 5) (.N (-100000)))
              (.ret [(.B false)])
              (.ret [(.not (.lt (.N 100000) (.V 5)))])) 1
             (.ite (.V 12)
              (.sub (.ite (.lt (.V 6) (.N (-10000)))
                (.ret [(.B false)])
                (.ret [(.not (.lt (.N 10000) (.V 6)))])) 1
               (.ret [(.V 13)]))
              (.ret [(.B false)])))
            (.ret [(.B false)])))
          (.ret [(.B false)])))
        (.ret [(.B false)])))
      (.ret [(.B false)])))
    (.ret [(.B false)]))) 1
  (.ret [(.V 7)]))
set_option maxRecDepth 100000 in
theorem yvV_t : runS Try.prog [] [] yvV_K = yvV_T := by kernel_rfl
def xvP_K : Con := ⟨92, [.val true [.int .i64, .int .i64, .int .i64, .int .i64, .int .i64, .int .i64, .int .i64]], [.val true [.int .i64, .int .i64]], []⟩
def xvP_T : T (List X) :=
  (.sub (.sub (.ite (.lt (.rem (.V 1) (.N 100)) (.N 0))
    (.ret [(.wr .i64 (.sub (.wr .i64 (.quo (.V 1) (.N 100))) (.N 1))), (.add (.rem (.V 1) (.N 100)) (.N 100))])
    (.ret [(.wr .i64 (.quo (.V 1) (.N 100))), (.rem (.V 1) (.N 100))])) 2
   (.ite (.lt (.mul (.N 2) (.V 8)) (.N 100))
    (.ret [(.V 7)])
    (.ret [(.wr .i64 (.add (.V 7) (.N 1)))]))) 1
  (.sub (.sub (.ite (.lt (.rem (.V 2) (.N 100)) (.N 0))
     (.ret [(.wr .i64 (.sub (.wr .i64 (.quo (.V 2) (.N 100))) (.N 1))), (.add (.rem (.V 2) (.N 100)) (.N 100))])
     (.ret [(.wr .i64 (.quo (.V 2) (.N 100))), (.rem (.V 2) (.N 100))])) 2
    (.ite (.lt (.mul (.N 2) (.V 9)) (.N 100))
     (.ret [(.V 8)])
     (.ret [(.wr .i64 (.add (.V 8) (.N 1)))]))) 1
   (.ret [(.V 7), (.V 8)])))
set_option maxRecDepth 100000 in
theorem xvP_t : runS Try.prog [] [] xvP_K = xvP_T := by kernel_rfl
def yvP_K : Con := ⟨93, [.val true [.int .i64, .int .i64, .int .i64, .int .i64, .int .i64, .int .i64, .int .i64]], [.val true [.int .i64, .int .i64]], []⟩
def yvP_T : T (List X) :=
  (.sub (.ite (.lt (.rem (.V 1) (.N 100)) (.N 0))
   (.ret [(.wr .i64 (.sub (.wr .i64 (.quo (.V 1) (.N 100))) (.N 1))), (.add (.rem (.V 1) (.N 100)) (.N 100))])
   (.ret [(.wr .i64 (.quo (.V 1) (.N 100))), (.rem (.V 1) (.N 100))])) 2
  (.sub (.ite (.lt (.V 8) (.N 50))
    (.ret [(.V 7)])
    (.ret [(.wr .i64 (.add (.V 7) (.N 1)))])) 1
   (.sub (.ite (.lt (.rem (.V 2) (.N 100)) (.N 0))
     (.ret [(.wr .i64 (.sub (.wr .i64 (.quo (.V 2) (.N 100))) (.N 1))), (.add (.rem (.V 2) (.N 100)) (.N 100))])
     (.ret [(.wr .i64 (.quo (.V 2) (.N 100))), (.rem (.V 2) (.N 100))])) 2
    (.sub (.ite (.lt (.V 11) (.N 50))
      (.ret [(.V 10)])
      (.ret [(.wr .i64 (.add (.V 10) (.N 1)))])) 1
     (.ret [(.V 9), (.V 12)])))))
set_option maxRecDepth 100000 in
theorem yvP_t : runS Try.prog [] [] yvP_K = yvP_T := by kernel_rfl
def xvH_K : Con := ⟨94, [.val true [.int .i64, .int .i64, .int .i64, .int .i64, .int .i64, .int .i64, .int .i64]], [.val false [.int .i64]], []⟩
def xvH_T : T (List X) :=
  (.sub (.ite (.lt (.rem (.V 3) (.N 100)) (.N 0))
   (.ret [(.wr .i64 (.sub (.wr .i64 (.quo (.V 3) (.N 100))) (.N 1))), (.add (.rem (.V 3) (.N 100)) (.N 100))])
   (.ret [(.wr .i64 (.quo (.V 3) (.N 100))), (.rem (.V 3) (.N 100))])) 2
  (.sub (.ite (.lt (.rem (.V 7) (.N 3600)) (.N 0))
    (.ret [(.add (.rem (.V 7) (.N 3600)) (.N 3600))])
    (.ret [(.rem (.V 7) (.N 3600))])) 1
   (.ret [(.V 9)])))
set_option maxRecDepth 100000 in
theorem xvH_t : runS Try.prog [] [] xvH_K = xvH_T := by kernel_rfl
def yvH_K : Con := ⟨95, [.val true [.int .i64, .int .i64, .int .i64, .int .i64, .int .i64, .int .i64, .int .i64]], [.val false [.int .i64]], []⟩
def yvH_T : T (List X) :=
  (.sub (.ite (.lt (.rem (.V 3) (.N 360000)) (.N 0))
   (.ret [(.add (.rem (.V 3) (.N 360000)) (.N 360000))])
   (.ret [(.rem (.V 3) (.N 360000))])) 1
  (.ret [(.quo (.V 7) (.N 100))]))
set_option maxRecDepth 100000 in
theorem yvH_t : runS Try.prog [] [] yvH_K = yvH_T := by kernel_rfl
def xvS_K : Con := ⟨96, [.val true [.int .i64, .int .i64, .int .i64, .int .i64, .int .i64, .int .i64, .int .i64]], [.val false [.bool]], []⟩
def xvS_T : T (List X) :=
  (.sub (.ite (.eq (.V 4) (.N 0))
   (.ite (.eq (.V 5) (.N 0))
    (.ret [(.eq (.V 6) (.N 0))])
    (.ret [(.B false)]))
   (.ret [(.B false)])) 1
  (.ret [(.V 7)]))
set_option maxRecDepth 100000 in
theorem xvS_t : runS Try.prog [] [] xvS_K = xvS_T := by kernel_rfl
def yvS_K : Con := ⟨97, [.val true [.int .i64, .int .i64, .int .i64, .int .i64, .int .i64, .int .i64, .int .i64]], [.val false [.bool]], []⟩
def yvS_T : T (List X) :=
  (.sub (.ite (.eq (.V 4) (.N 0))
   (.ite (.eq (.V 5) (.N 0))
    (.ret [(.eq (.V 6) (.N 0))])
    (.ret [(.B false)]))
   (.ret [(.B false)])) 1
  (.ret [(.V 7)]))
set_option maxRecDepth 100000 in
theorem yvS_t : runS Try.prog [] [] yvS_K = yvS_T := by kernel_rfl
def srcPick_K : Con := ⟨89, [.ptr [.sl [.int .i64], .int .i64], .val false [.sl [.int .i64]]], [.val false [.int .i64]], []⟩
def srcPick_T : T (List X) :=
  (.call 10 [(.V 0), (.V 1), (.len (.V 2))] 3
  (.need (.and (.not (.lt (.V 3) (.N 0))) (.lt (.V 3) (.len (.V 2))))
   (.ret [(.at (.V 2) (.V 3) 0), (.V 4), (.V 5)])))
set_option maxRecDepth 100000 in
theorem srcPick_t : runS Try.prog [srcN_K.to []] [] srcPick_K = srcPick_T := by kernel_rfl
def yStep_K : Con := ⟨100, [.val true [.sl [.int .i64], .sl [.int .i64], .sl [.int .i64], .sl [.int .i64], .sl [.int .i64], .sl [.int .i64], .sl [.int .i64], .sl [.int .i64], .sl [.int .i64], .int .i64, .int .i64, .int .i64, .int .i64], .val true [.int .i64, .int .i64, .int .i64, .int .i64, .int .i64, .int .i64, .int .i64], .val true [.int .i64, .int .i64, .int .i64]], [.val true [.int .i64, .int .i64, .int .i64, .int .i64, .int .i64, .int .i64, .int .i64], .val false [.int .i64]], []⟩
def yStep_T : T (List X) :=
  (.call 76 [(.V 0), (.V 1), (.V 2), (.V 3), (.V 4), (.V 5), (.V 6), (.V 7), (.V 8), (.V 9), (.V 10), (.V 11), (.V 12)] 1
  (.ite (.eq (.V 23) (.N 0))
   (.call 91 [(.V 13), (.V 14), (.V 15), (.V 16), (.V 17), (.V 18), (.V 19)] 1
    (.ite (.V 24)
     (.sub (.sub (.ite (.lt (.V 20) (.N (-1000000)))
        (.ret [(.B false)])
        (.ret [(.not (.lt (.N 1000000) (.V 20)))])) 1
       (.ite (.V 25)
        (.sub (.ite (.lt (.V 21) (.N (-1000000)))
          (.ret [(.B false)])
          (.ret [(.not (.lt (.N 1000000) (.V 21)))])) 1
         (.ite (.V 26)
          (.sub (.ite (.lt (.V 22) (.N (-1000000)))
            (.ret [(.B false)])
            (.ret [(.not (.lt (.N 1000000) (.V 22)))])) 1
           (.ret [(.not (.V 27))]))
          (.ret [(.B true)])))
        (.ret [(.B true)]))) 1
      (.ite (.V 25)
       (.ret [(.N 0), (.N 0), (.N 0), (.N 0), (.N 0), (.N 0), (.N 0), (.N 1)])
       (.call 141 [(.wr .i64 (.sub (.wr .i64 (.mul (.N 10000) (.V 20))) (.wr .i64 (.mul (.V 11) (.V 17))))), (.V 9)] 1
        (.call 141 [(.wr .i64 (.sub (.wr .i64 (.mul (.N 10000) (.V 21))) (.wr .i64 (.mul (.V 11) (.V 18))))), (.V 9)] 1
         (.call 141 [(.wr .i64 (.sub (.wr .i64 (.mul (.N 10000) (.V 22))) (.wr .i64 (.mul (.V 12) (.V 19))))), (.V 10)] 1
          (.sub (.ite (.lt (.rem (.wr .i64 (.add (.V 16) (.wr .i64 (.add (.V 19) (.V 28))))) (.N 360000)) (.N 0))
            (.ret [(.add (.rem (.wr .i64 (.add (.V 16) (.wr .i64 (.add (.V 19) (.V 28))))) (.N 360000)) (.N 360000))])
            (.ret [(.rem (.wr .i64 (.add (.V 16) (.wr .i64 (.add (.V 19) (.V 28))))) (.N 360000))])) 1
           (.call 95 [(.wr .i64 (.add (.V 13) (.N 1))), (.V 14), (.V 15), (.V 29), (.wr .i64 (.add (.V 17) (.V 26))), (.wr .i64 (.add (.V 18) (.V 27))), (.wr .i64 (.add (.V 19) (.V 28)))] 1
            (.call 17 [(.V 30)] 1
             (.call 15 [(.V 30)] 1
              (.call 141 [(.wr .i64 (.sub (.wr .i64 (.mul (.wr .i64 (.add (.V 17) (.V 26))) (.V 31))) (.wr .i64 (.mul (.wr .i64 (.add (.V 18) (.V 27))) (.V 32))))), (.N 10000)] 1
               (.call 15 [(.V 30)] 1
                (.call 17 [(.V 30)] 1
                 (.call 141 [(.wr .i64 (.add (.wr .i64 (.mul (.wr .i64 (.add (.V 17) (.V 26))) (.V 34))) (.wr .i64 (.mul (.wr .i64 (.add (.V 18) (.V 27))) (.V 35))))), (.N 10000)] 1
                  (.call 91 [(.wr .i64 (.add (.V 13) (.N 1))), (.wr .i64 (.add (.V 14) (.V 33))), (.wr .i64 (.add (.V 15) (.V 36))), (.V 29), (.wr .i64 (.add (.V 17) (.V 26))), (.wr .i64 (.add (.V 18) (.V 27))), (.wr .i64 (.add (.V 19) (.V 28)))] 1
                   (.ite (.V 37)
                    (.ret [(.wr .i64 (.add (.V 13) (.N 1))), (.wr .i64 (.add (.V 14) (.V 33))), (.wr .i64 (.add (.V 15) (.V 36))), (.V 29), (.wr .i64 (.add (.V 17) (.V 26))), (.wr .i64 (.add (.V 18) (.V 27))), (.wr .i64 (.add (.V 19) (.V 28))), (.N 0)])
                    (.ret [(.N 0), (.N 0), (.N 0), (.N 0), (.N 0), (.N 0), (.N 0), (.N 2)]))))))))))))))))
     (.ret [(.N 0), (.N 0), (.N 0), (.N 0), (.N 0), (.N 0), (.N 0), (.N 61)])))
   (.ret [(.N 0), (.N 0), (.N 0), (.N 0), (.N 0), (.N 0), (.N 0), (.V 23)])))
set_option maxRecDepth 100000 in
theorem yStep_t : runS Try.prog [rwCheck_K.to [], yvV_K.to [], yvH_K.to [], rwRound_K.to [], rSin_K.to [], rCos_K.to []] [] yStep_K = yStep_T := by kernel_rfl
def yRun_H : List Hint := [
  ⟨1152903912420809585, 28, [], ⟨[.und, .und, .und, .und, .ptr 0 0, .ptr 1 0, .ptr 2 0, .und, .ptr 3 0, .int .i64 (.N 0), .und, .und, .und, .und, .und, .und, .und, .und, .und, .und, .und, .und, .und, .und, .und, .und, .und, .und, .und, .und, .und, .und, .und, .und, .und, .und, .und, .und, .und, .und, .und, .und, .und, .und, .int .i64 (.V 23), .int .i64 (.V 35), .und, .und, .und, .und, .und, .und, .und, .und, .und, .und, .und, .und, .und, .und, .und], [.fix [.var 0, .var 1, .var 2, .var 3, .var 4, .var 5, .var 6, .var 7, .var 8, .int .i64 (.V 9), .int .i64 (.V 10), .int .i64 (.V 11), .int .i64 (.V 12)] true, .fix [.int .i64 (.V 28), .int .i64 (.V 29), .int .i64 (.V 30), .int .i64 (.V 31), .int .i64 (.V 32), .int .i64 (.V 33), .int .i64 (.V 34)] true, .fix [.int .i64 (.V 20), .int .i64 (.V 21), .int .i64 (.V 22)] true, .fix [.int .i64 (.N 0), .int .i64 (.N 0), .int .i64 (.N 0), .int .i64 (.N 0), .int .i64 (.N 0), .int .i64 (.N 0), .int .i64 (.N 0)] true], 36, 9, [none, none, none, none, none, none, none, none, none, none, none, none, none, none, none, none, none, none, none, none, none, none, none, none, none, none, none, none, none, none, none, none, none, none, none, none], [], [⟨0, [.int .i64], (.V 0)⟩, ⟨1, [.int .i64], (.V 1)⟩, ⟨2, [.int .i64], (.V 2)⟩, ⟨3, [.int .i64], (.V 3)⟩, ⟨4, [.int .i64], (.V 4)⟩, ⟨5, [.int .i64], (.V 5)⟩, ⟨6, [.int .i64], (.V 6)⟩, ⟨7, [.int .i64], (.V 7)⟩, ⟨8, [.int .i64], (.V 8)⟩]⟩⟩]
def yRun_K : Con := ⟨102, [.val true [.sl [.int .i64], .sl [.int .i64], .sl [.int .i64], .sl [.int .i64], .sl [.int .i64], .sl [.int .i64], .sl [.int .i64], .sl [.int .i64], .sl [.int .i64], .int .i64, .int .i64, .int .i64, .int .i64], .val true [.int .i64, .int .i64, .int .i64, .int .i64, .int .i64, .int .i64, .int .i64], .val true [.int .i64, .int .i64, .int .i64], .val false [.int .i64]], [.val true [.int .i64, .int .i64, .int .i64, .int .i64, .int .i64, .int .i64, .int .i64], .val false [.int .i64]], []⟩
def yRun_T : T (List X) :=
  (.sub (.ite (.lt (.V 23) (.N 0))
   (.ret [(.B false)])
   (.ret [(.not (.lt (.N 400) (.V 23)))])) 1
  (.ite (.V 24)
   (.call 76 [(.V 0), (.V 1), (.V 2), (.V 3), (.V 4), (.V 5), (.V 6), (.V 7), (.V 8), (.V 9), (.V 10), (.V 11), (.V 12)] 1
    (.ite (.eq (.V 25) (.N 0))
     (.call 91 [(.V 13), (.V 14), (.V 15), (.V 16), (.V 17), (.V 18), (.V 19)] 1
      (.ite (.V 26)
       (.sub (.sub (.ite (.lt (.V 20) (.N (-1000000)))
          (.ret [(.B false)])
          (.ret [(.not (.lt (.N 1000000) (.V 20)))])) 1
         (.ite (.V 27)
          (.sub (.ite (.lt (.V 21) (.N (-1000000)))
            (.ret [(.B false)])
            (.ret [(.not (.lt (.N 1000000) (.V 21)))])) 1
           (.ite (.V 28)
            (.sub (.ite (.lt (.V 22) (.N (-1000000)))
              (.ret [(.B false)])
              (.ret [(.not (.lt (.N 1000000) (.V 22)))])) 1
             (.ret [(.not (.V 29))]))
            (.ret [(.B true)])))
          (.ret [(.B true)]))) 1
        (.ite (.V 27)
         (.ret [(.N 0), (.N 0), (.N 0), (.N 0), (.N 0), (.N 0), (.N 0), (.N 1)])
         (.loop [(.V 13), (.V 14), (.V 15), (.V 16), (.V 17), (.V 18), (.V 19), (.N 0)]
          (.ite (.lt (.V 35) (.V 23))
           (.call 100 [(.V 0), (.V 1), (.V 2), (.V 3), (.V 4), (.V 5), (.V 6), (.V 7), (.V 8), (.V 9), (.V 10), (.V 11), (.V 12), (.V 28), (.V 29), (.V 30), (.V 31), (.V 32), (.V 33), (.V 34), (.V 20), (.V 21), (.V 22)] 8
            (.ite (.eq (.V 43) (.N 0))
             (.ret (true, [(.V 36), (.V 37), (.V 38), (.V 39), (.V 40), (.V 41), (.V 42), (.wr .i64 (.add (.V 35) (.N 1)))]))
             (.ret (false, [(.N 0), (.V 28), (.V 29), (.V 30), (.V 31), (.V 32), (.V 33), (.V 34), (.V 36), (.V 37), (.V 38), (.V 39), (.V 40), (.V 41), (.V 42), (.V 43)]))))
           (.ret (false, [(.N 1), (.V 28), (.V 29), (.V 30), (.V 31), (.V 32), (.V 33), (.V 34), (.N 0), (.N 0), (.N 0), (.N 0), (.N 0), (.N 0), (.N 0), (.N 0)]))) 16
          (.ite (.eq (.V 28) (.N 0))
           (.ret [(.N 0), (.N 0), (.N 0), (.N 0), (.N 0), (.N 0), (.N 0), (.V 43)])
           (.ret [(.V 29), (.V 30), (.V 31), (.V 32), (.V 33), (.V 34), (.V 35), (.N 0)])))))
       (.ret [(.N 0), (.N 0), (.N 0), (.N 0), (.N 0), (.N 0), (.N 0), (.N 61)])))
     (.ret [(.N 0), (.N 0), (.N 0), (.N 0), (.N 0), (.N 0), (.N 0), (.V 25)])))
   (.ret [(.N 0), (.N 0), (.N 0), (.N 0), (.N 0), (.N 0), (.N 0), (.N 2)])))
set_option maxRecDepth 100000 in
theorem yRun_t : runS Try.prog [rwCheck_K.to [], yvV_K.to [], yStep_K.to []] [(102, yRun_H)] yRun_K = yRun_T := by kernel_rfl
end Go.Proofs.Ytdkamfkpmplaoaa
