/- The trees of MonitorTrue, MonitorFreezes and MonitorTicks. -/
import Derived.Test.YtladhlgibapohaaStepM
import Derived.Test.YtladhlgibapohaaSane07
set_option linter.unusedVariables false
namespace Go.Proofs.Ytladhlgibapohaa
open Go.RowKit Fx
def srcRef_K : Con := ⟨20, [.ptr [.sl [.int .i64], .int .i64]], [.val true [.int .i64, .int .i64, .int .i64, .int .i64]], []⟩
def srcRef_T : T (List X) :=
  (.call 21 [(.V 0), (.V 1), (.N 4)] 3
  (.call 21 [(.V 3), (.V 4), (.N 3)] 3
   (.need (.and (.not (.lt (.V 5) (.N 0))) (.lt (.V 5) (.N 3)))
    (.call 21 [(.V 6), (.V 7), (.N 3)] 3
     (.need (.and (.not (.lt (.V 8) (.N 0))) (.lt (.V 8) (.N 3)))
      (.call 21 [(.V 9), (.V 10), (.N 4)] 3
       (.need (.and (.not (.lt (.V 11) (.N 0))) (.lt (.V 11) (.N 4)))
        (.ret [(.V 2), (.at (.rows [[(.N 0)], [(.N 10)], [(.N 100)]]) (.V 5) 0), (.at (.rows [[(.N 1)], [(.N 3)], [(.N 10)]]) (.V 8) 0), (.at (.rows [[(.N 0)], [(.N 0)], [(.N 2)], [(.N 4)]]) (.V 11) 0), (.V 12), (.V 13)]))))))))
set_option maxRecDepth 100000 in
theorem srcRef_t : runS Try.prog [srcN_K.to []] [] srcRef_K = srcRef_T := by kernel_rfl
def srcFix_K : Con := ⟨55, [.ptr [.sl [.int .i64], .int .i64], .val false [.int .i64]], [.val true [.int .i64, .int .i64, .int .i64, .int .i64]], []⟩
def srcFix_T : T (List X) :=
  (.call 21 [(.V 0), (.V 1), (.N 6)] 3
  (.need (.and (.not (.lt (.V 3) (.N 0))) (.lt (.V 3) (.N 6)))
   (.call 21 [(.V 4), (.V 5), (.N 4)] 3
    (.need (.and (.not (.lt (.V 6) (.N 0))) (.lt (.V 6) (.N 4)))
     (.call 21 [(.V 7), (.V 8), (.N 4)] 3
      (.need (.and (.not (.lt (.V 9) (.N 0))) (.lt (.V 9) (.N 4)))
       (.ret [(.V 2), (.at (.rows [[(.N 0)], [(.N 0)], [(.N 1)], [(.N 20)], [(.N (-30))], [(.N 1000)]]) (.V 3) 0), (.at (.rows [[(.N 0)], [(.N 0)], [(.N 5)], [(.N (-20))]]) (.V 6) 0), (.at (.rows [[(.N 1)], [(.N 10)], [(.N 50)], [(.N 200)]]) (.V 9) 0), (.V 10), (.V 11)])))))))
set_option maxRecDepth 100000 in
theorem srcFix_t : runS Try.prog [srcN_K.to []] [] srcFix_K = srcFix_T := by kernel_rfl
def srcFixes_K : Con := ⟨24, [.ptr [.sl [.int .i64], .int .i64], .val false [.int .i64]], [.val false [.sl [.int .i64, .int .i64, .int .i64, .int .i64]]], []⟩
def srcFixes_T : T (List X) :=
  (.call 21 [(.V 0), (.V 1), (.wr .i64 (.add (.V 2) (.N 1)))] 3
  (.loop [(.rows []), (.V 4), (.V 5), (.N 0), (.V 3)]
   (.ite (.lt (.N 0) (.V 10))
    (.call 21 [(.V 7), (.V 8), (.N 5)] 3
     (.need (.and (.not (.lt (.V 11) (.N 0))) (.lt (.V 11) (.N 5)))
      (.call 55 [(.V 12), (.V 13), (.wr .i64 (.add (.V 9) (.at (.rows [[(.N 1)], [(.N 1)], [(.N 2)], [(.N 5)], [(.N 0)]]) (.V 11) 0)))] 6
       (.need (.not (.lt (.N 4398046511104) (.add (.len (.V 6)) (.N 1))))
        (.ret (true, [(.app (.V 6) (.rows [[(.V 14), (.V 15), (.V 16), (.V 17)]])), (.V 18), (.V 19), (.wr .i64 (.add (.V 9) (.at (.rows [[(.N 1)], [(.N 1)], [(.N 2)], [(.N 5)], [(.N 0)]]) (.V 11) 0))), (.wr .i64 (.sub (.V 10) (.N 1)))]))))))
    (.ret (false, [(.V 6), (.V 7), (.V 8)]))) 3
   (.ret [(.V 6), (.V 7), (.V 8)])))
set_option maxRecDepth 100000 in
theorem srcFixes_t : runS Try.prog [srcN_K.to [], srcFix_K.to []] [24] srcFixes_K = srcFixes_T := by kernel_rfl
def mRun_K : Con := ⟨17, [.val true [.int .i64, .int .i64, .int .i64, .int .i64], .val false [.sl [.int .i64, .int .i64, .int .i64, .int .i64]]], [.val true [.int .i64, .int .i64, .int .i64, .int .i64, .int .i64, .int .i64, .int .i64, .int .i64, .bool, .int .i64, .int .i64], .val false [.int .i64]], []⟩
def mRun_T : T (List X) :=
  (.loop [(.N 0), (.N 0), (.N 0), (.N 0), (.N 0), (.N 0), (.N 0), (.N 0), (.B false), (.N 0), (.N 0), (.N 0)]
  (.ite (.lt (.V 16) (.len (.V 4)))
   (.need (.and (.not (.lt (.V 16) (.N 0))) (.lt (.V 16) (.len (.V 4))))
    (.call 18 [(.V 0), (.V 1), (.V 2), (.V 3), (.V 5), (.V 6), (.V 7), (.V 8), (.V 9), (.V 10), (.V 11), (.V 12), (.V 13), (.V 14), (.V 15), (.at (.V 4) (.V 16) 0), (.at (.V 4) (.V 16) 1), (.at (.V 4) (.V 16) 2), (.at (.V 4) (.V 16) 3)] 12
     (.ite (.eq (.V 28) (.N 0))
      (.ret (true, [(.V 17), (.V 18), (.V 19), (.V 20), (.V 21), (.V 22), (.V 23), (.V 24), (.V 25), (.V 26), (.V 27), (.wr .i64 (.add (.V 16) (.N 1)))]))
      (.ret (false, [(.N 0), (.V 5), (.V 6), (.V 7), (.V 8), (.V 9), (.V 10), (.V 11), (.V 12), (.V 13), (.V 14), (.V 15), (.V 5), (.V 6), (.V 7), (.V 8), (.V 9), (.V 10), (.V 11), (.V 12), (.V 13), (.V 14), (.V 15), (.at (.V 4) (.V 16) 0), (.at (.V 4) (.V 16) 1), (.at (.V 4) (.V 16) 2), (.at (.V 4) (.V 16) 3), (.V 17), (.V 18), (.V 19), (.V 20), (.V 21), (.V 22), (.V 23), (.V 24), (.V 25), (.V 26), (.V 27), (.V 28)])))))
   (.ret (false, [(.N 1), (.V 5), (.V 6), (.V 7), (.V 8), (.V 9), (.V 10), (.V 11), (.V 12), (.V 13), (.V 14), (.V 15), (.N 0), (.N 0), (.N 0), (.N 0), (.N 0), (.N 0), (.N 0), (.N 0), (.N 0), (.N 0), (.N 0), (.N 0), (.N 0), (.N 0), (.N 0), (.N 0), (.N 0), (.N 0), (.N 0), (.N 0), (.N 0), (.N 0), (.N 0), (.N 0), (.N 0), (.N 0), (.N 0)]))) 39
  (.ite (.eq (.V 5) (.N 0))
   (.ret [(.V 6), (.V 7), (.V 8), (.V 9), (.V 10), (.V 11), (.V 12), (.V 13), (.V 14), (.V 15), (.V 16), (.V 43)])
   (.ret [(.V 6), (.V 7), (.V 8), (.V 9), (.V 10), (.V 11), (.V 12), (.V 13), (.V 14), (.V 15), (.V 16), (.N 0)])))
set_option maxRecDepth 100000 in
theorem mRun_t : runS Try.prog [mStep_K.to []] [17] mRun_K = mRun_T := by kernel_rfl
def mTick_K : Con := ⟨23, [.val true [.int .i64, .int .i64, .int .i64, .int .i64], .val true [.int .i64, .int .i64, .int .i64, .int .i64, .int .i64, .int .i64, .int .i64, .int .i64, .bool, .int .i64, .int .i64], .val false [.int .i64]], [.val true [.int .i64, .int .i64, .int .i64, .int .i64, .int .i64, .int .i64, .int .i64, .int .i64, .bool, .int .i64, .int .i64], .val false [.int .i64]], []⟩
def mTick_T : T (List X) :=
  (.sub (.sub (.ite (.lt (.V 0) (.N 0))
    (.ret [(.B false)])
    (.ite (.lt (.V 0) (.N 8))
     (.ite (.lt (.V 1) (.N 0))
      (.ret [(.B false)])
      (.ite (.lt (.N 1000) (.V 1))
       (.ret [(.B false)])
       (.ite (.lt (.V 2) (.N 1))
        (.ret [(.B false)])
        (.ite (.lt (.N 600) (.V 2))
         (.ret [(.B false)])
         (.ite (.lt (.V 3) (.N 0))
          (.ret [(.B false)])
          (.ret [(.not (.lt (.N 600) (.V 3)))]))))))
     (.ret [(.B false)]))) 1
   (.ite (.V 16)
    (.sub (.ite (.lt (.V 15) (.N 0))
      (.ret [(.B false)])
      (.ret [(.not (.lt (.N 2147483648) (.V 15)))])) 1
     (.ite (.V 17)
      (.sub (.ite (.V 12)
        (.sub (.sub (.ite (.lt (.V 4) (.N 0))
           (.ret [(.B false)])
           (.ret [(.not (.lt (.N 2147483648) (.V 4)))])) 1
          (.ite (.V 18)
           (.sub (.sub (.sub (.ite (.lt (.V 5) (.N (-100000000)))
               (.ret [(.B true)])
               (.ret [(.lt (.N 100000000) (.V 5))])) 1
              (.ite (.V 19)
               (.ret [(.N 0)])
               (.sub (.ite (.lt (.V 6) (.N (-100000000)))
                 (.ret [(.B true)])
                 (.ret [(.lt (.N 100000000) (.V 6))])) 1
                (.ite (.V 20)
                 (.ret [(.N 0)])
                 (.ret [(.N 1)]))))) 1
             (.ite (.eq (.V 19) (.N 0))
              (.ret [(.B false)])
              (.ret [(.B true)]))) 1
            (.ite (.V 19)
             (.ite (.lt (.V 7) (.N 1))
              (.ret [(.B false)])
              (.ret [(.not (.lt (.N 100000) (.V 7)))]))
             (.ret [(.B false)])))
           (.ret [(.B false)]))) 1
         (.ite (.V 18)
          (.sub (.sub (.ite (.lt (.V 8) (.N 0))
             (.ret [(.B false)])
             (.ret [(.not (.lt (.N 2147483648) (.V 8)))])) 1
            (.ite (.V 19)
             (.sub (.sub (.sub (.ite (.lt (.V 9) (.N (-100000000)))
                 (.ret [(.B true)])
                 (.ret [(.lt (.N 100000000) (.V 9))])) 1
                (.ite (.V 20)
                 (.ret [(.N 0)])
                 (.sub (.ite (.lt (.V 10) (.N (-100000000)))
                   (.ret [(.B true)])
                   (.ret [(.lt (.N 100000000) (.V 10))])) 1
                  (.ite (.V 21)
                   (.ret [(.N 0)])
                   (.ret [(.N 1)]))))) 1
               (.ite (.eq (.V 20) (.N 0))
                (.ret [(.B false)])
                (.ret [(.B true)]))) 1
              (.ite (.V 20)
               (.ite (.lt (.V 11) (.N 1))
                (.ret [(.B false)])
                (.ret [(.not (.lt (.N 100000) (.V 11)))]))
               (.ret [(.B false)])))
             (.ret [(.B false)]))) 1
           (.ite (.V 19)
            (.ite (.lt (.V 13) (.N 1))
             (.ret [(.B false)])
             (.ret [(.not (.lt (.N 2147483648) (.V 13)))]))
            (.ret [(.B false)])))
          (.ret [(.B false)])))
        (.ret [(.B true)])) 1
       (.ret [(.not (.V 18))]))
      (.ret [(.B true)])))
    (.ret [(.B true)]))) 1
  (.ite (.V 16)
   (.ret [(.N 0), (.N 0), (.N 0), (.N 0), (.N 0), (.N 0), (.N 0), (.N 0), (.B false), (.N 0), (.N 0), (.N 1)])
   (.sub (.ite (.V 12)
     (.ret [(.lt (.V 15) (.V 4))])
     (.ret [(.B false)])) 1
    (.ite (.V 17)
     (.ret [(.N 0), (.N 0), (.N 0), (.N 0), (.N 0), (.N 0), (.N 0), (.N 0), (.B false), (.N 0), (.N 0), (.N 16)])
     (.sub (.sub (.ite (.V 12)
        (.ret [(.not (.lt (.wr .i64 (.sub (.V 15) (.V 4))) (.V 2)))])
        (.ret [(.B false)])) 1
       (.ite (.V 18)
        (.ret [(.N 2)])
        (.ret [(.V 14)]))) 1
      (.ret [(.V 4), (.V 5), (.V 6), (.V 7), (.V 8), (.V 9), (.V 10), (.V 11), (.V 12), (.V 13), (.V 18), (.N 0)]))))))
set_option maxRecDepth 100000 in
theorem mTick_t : runS Try.prog [] [] mTick_K = mTick_T := by kernel_rfl
def mTrue_K : Con := ⟨4, [.val false [.sl [.int .i64]]], [.val false [.bool]], []⟩
def mTrue_T : T (List X) :=
  (.need (.not (.lt (.len (.V 0)) (.mn (.len (.V 0)) (.N 600))))
  (.call 20 [(.take (.V 0) (.mn (.len (.V 0)) (.N 600))), (.N 0)] 6
   (.call 21 [(.V 5), (.V 6), (.N 12)] 3
    (.loop [(.V 8), (.V 9), (.N 0), (.N 0), (.N 0), (.N 0), (.N 0), (.N 0), (.N 0), (.N 0), (.B false), (.N 0), (.N 0), (.N 0), (.N 0), (.N 0), (.V 7)]
     (.ite (.lt (.N 0) (.V 26))
      (.call 21 [(.V 10), (.V 11), (.N 4)] 3
       (.call 21 [(.V 28), (.V 29), (.wr .i64 (.add (.wr .i64 (.sub (.wr .i64 (.mul (.V 2) (.wr .i64 (.add (.N 1) (.V 27))))) (.wr .i64 (.mul (.wr .i64 (.sub (.N 0) (.V 2))) (.wr .i64 (.add (.N 1) (.V 27))))))) (.N 1)))] 3
        (.call 21 [(.V 31), (.V 32), (.wr .i64 (.add (.wr .i64 (.sub (.wr .i64 (.mul (.V 2) (.wr .i64 (.add (.N 1) (.V 27))))) (.wr .i64 (.mul (.wr .i64 (.sub (.N 0) (.V 2))) (.wr .i64 (.add (.N 1) (.V 27))))))) (.N 1)))] 3
         (.call 21 [(.V 34), (.V 35), (.N 3)] 3
          (.need (.and (.not (.lt (.V 36) (.N 0))) (.lt (.V 36) (.N 3)))
           (.call 21 [(.V 37), (.V 38), (.wr .i64 (.add (.wr .i64 (.sub (.at (.rows [[(.N 1)], [(.N 10)], [(.N 200)]]) (.V 36) 0) (.wr .i64 (.sub (.N 0) (.at (.rows [[(.N 1)], [(.N 10)], [(.N 200)]]) (.V 36) 0))))) (.N 1)))] 3
            (.call 21 [(.V 40), (.V 41), (.wr .i64 (.add (.wr .i64 (.sub (.at (.rows [[(.N 1)], [(.N 10)], [(.N 200)]]) (.V 36) 0) (.wr .i64 (.sub (.N 0) (.at (.rows [[(.N 1)], [(.N 10)], [(.N 200)]]) (.V 36) 0))))) (.N 1)))] 3
             (.call 18 [(.V 1), (.V 2), (.V 3), (.N 0), (.V 12), (.V 13), (.V 14), (.V 15), (.V 16), (.V 17), (.V 18), (.V 19), (.V 20), (.V 21), (.V 22), (.wr .i64 (.add (.V 25) (.wr .i64 (.add (.N 1) (.V 27))))), (.wr .i64 (.add (.wr .i64 (.add (.V 23) (.wr .i64 (.add (.wr .i64 (.mul (.wr .i64 (.sub (.N 0) (.V 2))) (.wr .i64 (.add (.N 1) (.V 27))))) (.V 30))))) (.wr .i64 (.add (.wr .i64 (.sub (.N 0) (.at (.rows [[(.N 1)], [(.N 10)], [(.N 200)]]) (.V 36) 0))) (.V 39))))), (.wr .i64 (.add (.wr .i64 (.add (.V 24) (.wr .i64 (.add (.wr .i64 (.mul (.wr .i64 (.sub (.N 0) (.V 2))) (.wr .i64 (.add (.N 1) (.V 27))))) (.V 33))))) (.wr .i64 (.add (.wr .i64 (.sub (.N 0) (.at (.rows [[(.N 1)], [(.N 10)], [(.N 200)]]) (.V 36) 0))) (.V 42))))), (.at (.rows [[(.N 1)], [(.N 10)], [(.N 200)]]) (.V 36) 0)] 12
              (.sub (.ite (.eq (.V 56) (.N 0))
                (.ret [(.not (.eq (.V 55) (.N 1)))])
                (.ret [(.B true)])) 1
               (.ite (.V 57)
                (.ret (false, [(.N 0), (.V 43), (.V 44), (.V 12), (.V 13), (.V 14), (.V 15), (.V 16), (.V 17), (.V 18), (.V 19), (.V 20), (.V 21), (.V 22), (.V 45), (.V 46), (.V 47), (.V 48), (.V 49), (.V 50), (.V 51), (.V 52), (.V 53), (.V 54), (.V 55)]))
                (.ret (true, [(.V 43), (.V 44), (.V 45), (.V 46), (.V 47), (.V 48), (.V 49), (.V 50), (.V 51), (.V 52), (.V 53), (.V 54), (.V 55), (.wr .i64 (.add (.V 23) (.wr .i64 (.add (.wr .i64 (.mul (.wr .i64 (.sub (.N 0) (.V 2))) (.wr .i64 (.add (.N 1) (.V 27))))) (.V 30))))), (.wr .i64 (.add (.V 24) (.wr .i64 (.add (.wr .i64 (.mul (.wr .i64 (.sub (.N 0) (.V 2))) (.wr .i64 (.add (.N 1) (.V 27))))) (.V 33))))), (.wr .i64 (.add (.V 25) (.wr .i64 (.add (.N 1) (.V 27))))), (.wr .i64 (.sub (.V 26) (.N 1)))]))))))))))))
      (.ret (false, [(.N 1), (.V 10), (.V 11), (.V 12), (.V 13), (.V 14), (.V 15), (.V 16), (.V 17), (.V 18), (.V 19), (.V 20), (.V 21), (.V 22), (.N 0), (.N 0), (.N 0), (.N 0), (.N 0), (.N 0), (.N 0), (.N 0), (.N 0), (.N 0), (.N 0)]))) 25
     (.ite (.eq (.V 10) (.N 0))
      (.ret [(.B false)])
      (.call 19 [] 1
       (.ret [(.V 35)])))))))
set_option maxRecDepth 100000 in
theorem mTrue_t : runS Try.prog [srcN_K.to [], srcRef_K.to [], mStep_K.to [], sane07_K.to []] [4] mTrue_K = mTrue_T := by kernel_rfl
def mFreezes_K : Con := ⟨5, [.val false [.sl [.int .i64]], .val false [.int .u8]], [.val false [.bool]], [none, some (0, 255)]⟩
def mFreezes_T : T (List X) :=
  (.need (.not (.lt (.len (.V 0)) (.mn (.len (.V 0)) (.N 600))))
  (.call 21 [(.take (.V 0) (.mn (.len (.V 0)) (.N 600))), (.N 0), (.N 9)] 3
   (.loop [(.N 0), (.N 0), (.N 0), (.N 0), (.N 0), (.N 0), (.N 0), (.N 0), (.B false), (.N 0), (.N 0), (.N 1)]
    (.ite (.lt (.V 16) (.N 12))
     (.call 18 [(.N 0), (.N 1000), (.wr .i64 (.add (.N 1) (.V 2))), (.add (.N 1) (.rem (.V 1) (.N 6))), (.V 5), (.V 6), (.V 7), (.V 8), (.V 9), (.V 10), (.V 11), (.V 12), (.V 13), (.V 14), (.V 15), (.V 16), (.N 7), (.N 0), (.N 5)] 12
      (.sub (.ite (.eq (.V 28) (.N 0))
        (.ite (.lt (.N 1) (.V 16))
         (.ite (.beq (.eq (.V 27) (.N 3)) (.not (.lt (.V 16) (.add (.N 1) (.rem (.V 1) (.N 6))))))
          (.ret [(.not (.beq (.eq (.V 27) (.N 3)) (.not (.lt (.V 16) (.add (.N 1) (.rem (.V 1) (.N 6))))))), (.not (.beq (.eq (.V 27) (.N 3)) (.not (.lt (.V 16) (.add (.N 1) (.rem (.V 1) (.N 6))))))), (.not (.eq (.V 26) (.V 16)))])
          (.ret [(.not (.beq (.eq (.V 27) (.N 3)) (.not (.lt (.V 16) (.add (.N 1) (.rem (.V 1) (.N 6))))))), (.not (.beq (.eq (.V 27) (.N 3)) (.not (.lt (.V 16) (.add (.N 1) (.rem (.V 1) (.N 6))))))), (.B true)]))
         (.ret [(.B false), (.B false), (.not (.eq (.V 26) (.V 16)))]))
        (.ret [(.B true), (.B true), (.B true)])) 3
       (.ite (.V 31)
        (.ret (false, [(.N 0), (.V 5), (.V 6), (.V 7), (.V 8), (.V 9), (.V 10), (.V 11), (.V 12), (.V 13), (.V 14), (.V 15), (.V 17), (.V 18), (.V 19), (.V 20), (.V 21), (.V 22), (.V 23), (.V 24), (.V 25), (.V 26), (.V 27)]))
        (.ret (true, [(.V 17), (.V 18), (.V 19), (.V 20), (.V 21), (.V 22), (.V 23), (.V 24), (.V 25), (.V 26), (.V 27), (.add (.V 16) (.N 1))])))))
     (.ret (false, [(.N 1), (.V 5), (.V 6), (.V 7), (.V 8), (.V 9), (.V 10), (.V 11), (.V 12), (.V 13), (.V 14), (.V 15), (.N 0), (.N 0), (.N 0), (.N 0), (.N 0), (.N 0), (.N 0), (.N 0), (.N 0), (.N 0), (.N 0)]))) 23
    (.ite (.eq (.V 5) (.N 0))
     (.ret [(.B false)])
     (.call 18 [(.N 0), (.N 1000), (.wr .i64 (.add (.N 1) (.V 2))), (.add (.N 1) (.rem (.V 1) (.N 6))), (.V 6), (.V 7), (.V 8), (.V 9), (.V 10), (.V 11), (.V 12), (.V 13), (.V 14), (.V 15), (.V 16), (.N 13), (.N 8), (.N 0), (.N 5)] 12
      (.sub (.ite (.eq (.V 39) (.N 0))
        (.ret [(.not (.beq (.eq (.V 38) (.N 3)) (.eq (.add (.N 1) (.rem (.V 1) (.N 6))) (.N 1))))])
        (.ret [(.B true)])) 1
       (.ite (.V 40)
        (.ret [(.B false)])
        (.call 23 [(.N 0), (.N 1000), (.wr .i64 (.add (.N 1) (.V 2))), (.add (.N 1) (.rem (.V 1) (.N 6))), (.V 28), (.V 29), (.V 30), (.V 31), (.V 32), (.V 33), (.V 34), (.V 35), (.V 36), (.V 37), (.V 38), (.wr .i64 (.add (.N 12) (.wr .i64 (.add (.N 1) (.V 2)))))] 12
         (.call 23 [(.N 0), (.N 1000), (.wr .i64 (.add (.N 1) (.V 2))), (.add (.N 1) (.rem (.V 1) (.N 6))), (.V 28), (.V 29), (.V 30), (.V 31), (.V 32), (.V 33), (.V 34), (.V 35), (.V 36), (.V 37), (.V 38), (.wr .i64 (.add (.N 13) (.wr .i64 (.add (.N 1) (.V 2)))))] 12
          (.sub (.ite (.eq (.V 52) (.N 0))
            (.ite (.eq (.V 64) (.N 0))
             (.ite (.and (.and (.eq (.V 41) (.V 28)) (.and (.eq (.V 42) (.V 29)) (.and (.eq (.V 43) (.V 30)) (.eq (.V 44) (.V 31))))) (.and (.and (.eq (.V 45) (.V 32)) (.and (.eq (.V 46) (.V 33)) (.and (.eq (.V 47) (.V 34)) (.eq (.V 48) (.V 35))))) (.and (.beq (.V 49) (.V 36)) (.and (.eq (.V 50) (.V 37)) (.eq (.V 51) (.V 38))))))
              (.ite (.eq (.V 63) (.N 2))
               (.ite (.and (.eq (.V 53) (.V 28)) (.and (.eq (.V 54) (.V 29)) (.and (.eq (.V 55) (.V 30)) (.eq (.V 56) (.V 31)))))
                (.call 19 [] 1
                 (.ret [(.V 65)]))
                (.ret [(.B false)]))
               (.ret [(.B false)]))
              (.ret [(.B false)]))
             (.ret [(.B false)]))
            (.ret [(.B false)])) 1
           (.ret [(.V 65)])))))))))))
set_option maxRecDepth 100000 in
theorem mFreezes_t : runS Try.prog [srcN_K.to [], mStep_K.to [], mTick_K.to [], sane07_K.to []] [5] mFreezes_K = mFreezes_T := by kernel_rfl
def mTicks_K : Con := ⟨6, [.val false [.sl [.int .i64]]], [.val false [.bool]], []⟩
def mTicks_T : T (List X) :=
  (.need (.not (.lt (.len (.V 0)) (.mn (.len (.V 0)) (.N 600))))
  (.call 20 [(.take (.V 0) (.mn (.len (.V 0)) (.N 600))), (.N 0)] 6
   (.call 24 [(.V 5), (.V 6), (.N 6)] 3
    (.call 17 [(.V 1), (.V 2), (.V 3), (.V 4), (.V 7)] 12
     (.sub (.ite (.eq (.V 21) (.N 0))
       (.ret [(.B false)])
       (.ret [(.not (.eq (.V 21) (.N 16)))])) 1
      (.ite (.V 22)
       (.ret [(.B false)])
       (.call 21 [(.V 8), (.V 9), (.N 12)] 3
        (.call 23 [(.V 1), (.V 2), (.V 3), (.V 4), (.V 10), (.V 11), (.V 12), (.V 13), (.V 14), (.V 15), (.V 16), (.V 17), (.V 18), (.V 19), (.V 20), (.wr .i64 (.add (.V 10) (.V 23)))] 12
         (.call 21 [(.V 24), (.V 25), (.N 5)] 3
          (.call 23 [(.V 1), (.V 2), (.V 3), (.V 4), (.V 26), (.V 27), (.V 28), (.V 29), (.V 30), (.V 31), (.V 32), (.V 33), (.V 34), (.V 35), (.V 36), (.wr .i64 (.add (.wr .i64 (.add (.V 10) (.V 23))) (.V 38)))] 12
           (.call 23 [(.V 1), (.V 2), (.V 3), (.V 4), (.N 0), (.N 0), (.N 0), (.N 0), (.N 0), (.N 0), (.N 0), (.N 0), (.B false), (.N 0), (.N 0), (.wr .i64 (.add (.V 10) (.V 23)))] 12
            (.sub (.ite (.eq (.V 37) (.N 0))
              (.ite (.eq (.V 52) (.N 0))
               (.ite (.eq (.V 64) (.N 0))
                (.ret [(.not (.and (.and (.eq (.V 53) (.N 0)) (.and (.eq (.V 54) (.N 0)) (.and (.eq (.V 55) (.N 0)) (.eq (.V 56) (.N 0))))) (.and (.and (.eq (.V 57) (.N 0)) (.and (.eq (.V 58) (.N 0)) (.and (.eq (.V 59) (.N 0)) (.eq (.V 60) (.N 0))))) (.and (.beq (.V 61) (.B false)) (.and (.eq (.V 62) (.N 0)) (.eq (.V 63) (.N 0)))))))])
                (.ret [(.B true)]))
               (.ret [(.B true)]))
              (.ret [(.B true)])) 1
             (.ite (.V 65)
              (.ret [(.B false)])
              (.sub (.ite (.and (.and (.eq (.V 26) (.V 10)) (.and (.eq (.V 27) (.V 11)) (.and (.eq (.V 28) (.V 12)) (.eq (.V 29) (.V 13))))) (.and (.and (.eq (.V 30) (.V 14)) (.and (.eq (.V 31) (.V 15)) (.and (.eq (.V 32) (.V 16)) (.eq (.V 33) (.V 17))))) (.and (.beq (.V 34) (.V 18)) (.eq (.V 35) (.V 19)))))
                (.ite (.eq (.V 36) (.V 20))
                 (.ite (.eq (.V 36) (.N 2))
                  (.ret [(.not (.and (.and (.eq (.V 41) (.V 26)) (.and (.eq (.V 42) (.V 27)) (.and (.eq (.V 43) (.V 28)) (.eq (.V 44) (.V 29))))) (.and (.and (.eq (.V 45) (.V 30)) (.and (.eq (.V 46) (.V 31)) (.and (.eq (.V 47) (.V 32)) (.eq (.V 48) (.V 33))))) (.and (.beq (.V 49) (.V 34)) (.and (.eq (.V 50) (.V 35)) (.eq (.V 51) (.V 36)))))))])
                  (.ret [(.B false)]))
                 (.ite (.eq (.V 36) (.N 2))
                  (.ret [(.not (.and (.and (.eq (.V 41) (.V 26)) (.and (.eq (.V 42) (.V 27)) (.and (.eq (.V 43) (.V 28)) (.eq (.V 44) (.V 29))))) (.and (.and (.eq (.V 45) (.V 30)) (.and (.eq (.V 46) (.V 31)) (.and (.eq (.V 47) (.V 32)) (.eq (.V 48) (.V 33))))) (.and (.beq (.V 49) (.V 34)) (.and (.eq (.V 50) (.V 35)) (.eq (.V 51) (.V 36)))))))])
                  (.ret [(.B true)])))
                (.ret [(.B true)])) 1
               (.ite (.V 66)
                (.ret [(.B false)])
                (.sub (.ite (.beq (.eq (.V 36) (.N 1)) (.eq (.V 36) (.N 1)))
                  (.call 19 [] 1
                   (.ret [(.V 67)]))
                  (.ret [(.B false)])) 1
                 (.ret [(.V 67)])))))))))))))))))
set_option maxRecDepth 100000 in
theorem mTicks_t : runS Try.prog [srcN_K.to [], srcRef_K.to [], srcFixes_K.to [], mRun_K.to [], mTick_K.to [], sane07_K.to []] [] mTicks_K = mTicks_T := by kernel_rfl
end Go.Proofs.Ytladhlgibapohaa
