/- The trees of thrusters. -/
import Derived.Test.YtladhlgibapohaaAuto
set_option linter.unusedVariables false
namespace Go.Proofs.Ytladhlgibapohaa
open Go.RowKit Fx
def sValid_K : Con := ⟨37, [.val true [.int .i64, .int .i64, .int .i64, .int .i64, .int .i64, .sl [.int .i64, .int .i64]]], [.val false [.bool]], []⟩
def sValid_T : T (List X) :=
  (.sub (.ite (.lt (.V 0) (.N 1))
   (.ret [(.B true)])
   (.ite (.lt (.N 3) (.V 0))
    (.ret [(.B true)])
    (.ite (.eq (.V 1) (.N 0))
     (.ret [(.B false)])
     (.ret [(.not (.eq (.V 1) (.N 1)))])))) 1
  (.ite (.V 6)
   (.ret [(.B false)])
   (.sub (.ite (.lt (.V 2) (.N 0))
     (.ret [(.B true)])
     (.ite (.lt (.N 5000) (.V 2))
      (.ret [(.B true)])
      (.ite (.lt (.V 3) (.N 0))
       (.ret [(.B true)])
       (.ite (.lt (.N 5000) (.V 3))
        (.ret [(.B true)])
        (.ite (.lt (.V 4) (.N 1))
         (.ret [(.B true)])
         (.ite (.lt (.N 100) (.V 4))
          (.ret [(.B true)])
          (.ret [(.lt (.N 4) (.len (.V 5)))]))))))) 1
    (.ite (.V 7)
     (.ret [(.B false)])
     (.loop [(.N 0)]
      (.ite (.lt (.V 8) (.len (.V 5)))
       (.need (.and (.not (.lt (.V 8) (.N 0))) (.lt (.V 8) (.len (.V 5))))
        (.sub (.ite (.lt (.at (.V 5) (.V 8) 0) (.N 0))
          (.ret [(.B false)])
          (.ite (.lt (.at (.V 5) (.V 8) 0) (.N 3600))
           (.ite (.lt (.at (.V 5) (.V 8) 1) (.N 0))
            (.ret [(.B false)])
            (.ite (.lt (.at (.V 5) (.V 8) 1) (.N 3600))
             (.sub (.ite (.lt (.rem (.wr .i64 (.sub (.at (.V 5) (.V 8) 1) (.at (.V 5) (.V 8) 0))) (.N 3600)) (.N 0))
               (.ret [(.add (.rem (.wr .i64 (.sub (.at (.V 5) (.V 8) 1) (.at (.V 5) (.V 8) 0))) (.N 3600)) (.N 3600))])
               (.ret [(.rem (.wr .i64 (.sub (.at (.V 5) (.V 8) 1) (.at (.V 5) (.V 8) 0))) (.N 3600))])) 1
              (.ret [(.lt (.V 9) (.N 1800))]))
             (.ret [(.B false)])))
           (.ret [(.B false)]))) 1
         (.ite (.V 9)
          (.ret (true, [(.wr .i64 (.add (.V 8) (.N 1)))]))
          (.ret (false, [(.N 0), (.at (.V 5) (.V 8) 0), (.at (.V 5) (.V 8) 1), (.at (.V 5) (.V 8) 0), (.at (.V 5) (.V 8) 1)])))))
       (.ret (false, [(.N 1), (.N 0), (.N 0), (.N 0), (.N 0)]))) 5
      (.ite (.eq (.V 8) (.N 0))
       (.ret [(.B false)])
       (.ret [(.B true)])))))))
set_option maxRecDepth 100000 in
theorem sValid_t : runS Try.prog [] [37] sValid_K = sValid_T := by kernel_rfl
def aRoot_K : Con := ⟨58, [.val false [.int .i64]], [.val false [.int .i64], .val false [.int .i64]], []⟩
def aRoot_T : T (List X) :=
  (.sub (.ite (.lt (.V 0) (.N 0))
   (.ret [(.B true)])
   (.ret [(.lt (.N 1000000000000000000) (.V 0))])) 1
  (.ite (.V 1)
   (.ret [(.N 0), (.N 1)])
   (.loop [(.N 0), (.N 1000000001)]
    (.ite (.lt (.N 1) (.wr .i64 (.sub (.V 3) (.V 2))))
     (.ite (.lt (.V 0) (.wr .i64 (.mul (.quo (.wr .i64 (.add (.V 2) (.V 3))) (.N 2)) (.quo (.wr .i64 (.add (.V 2) (.V 3))) (.N 2)))))
      (.ret (true, [(.V 2), (.quo (.wr .i64 (.add (.V 2) (.V 3))) (.N 2))]))
      (.ret (true, [(.quo (.wr .i64 (.add (.V 2) (.V 3))) (.N 2)), (.V 3)])))
     (.ret (false, [(.V 2)]))) 1
    (.ret [(.V 2), (.N 0)]))))
set_option maxRecDepth 100000 in
theorem aRoot_t : runS Try.prog [] [58] aRoot_K = aRoot_T := by kernel_rfl
def tPower_K : Con := ⟨30, [.val true [.int .i64, .int .i64, .int .i64, .int .i64, .int .i64, .sl [.int .i64, .int .i64]], .val true [.int .i64, .int .i64]], [.val false [.int .i64], .val false [.int .i64]], []⟩
def tPower_T : T (List X) :=
  (.sub (.call 37 [(.V 0), (.V 1), (.V 2), (.V 3), (.V 4), (.V 5)] 1
   (.ite (.V 8)
    (.sub (.ite (.lt (.N 5000) (.mx (.V 6) (.V 7)))
      (.ret [(.B false)])
      (.ret [(.not (.lt (.mn (.V 6) (.V 7)) (.N (-5000))))])) 1
     (.ret [(.not (.V 9))]))
    (.ret [(.B true)]))) 1
  (.ite (.V 8)
   (.ret [(.N 0), (.N 1)])
   (.sub (.sub (.ite (.lt (.wr .i64 (.mul (.wr .i64 (.add (.wr .i64 (.mul (.V 6) (.V 6))) (.wr .i64 (.mul (.V 7) (.V 7))))) (.V 4))) (.N (-1000000000000000000)))
      (.ret [(.B true)])
      (.ite (.lt (.N 1000000000000000000) (.wr .i64 (.mul (.wr .i64 (.add (.wr .i64 (.mul (.V 6) (.V 6))) (.wr .i64 (.mul (.V 7) (.V 7))))) (.V 4))))
       (.ret [(.B true)])
       (.ret [(.B false)]))) 1
     (.ite (.V 9)
      (.ret [(.N 0), (.N 1)])
      (.sub (.ite (.lt (.rem (.wr .i64 (.mul (.wr .i64 (.add (.wr .i64 (.mul (.V 6) (.V 6))) (.wr .i64 (.mul (.V 7) (.V 7))))) (.V 4))) (.N 1000)) (.N 0))
        (.ret [(.sub (.quo (.wr .i64 (.mul (.wr .i64 (.add (.wr .i64 (.mul (.V 6) (.V 6))) (.wr .i64 (.mul (.V 7) (.V 7))))) (.V 4))) (.N 1000)) (.N 1)), (.add (.rem (.wr .i64 (.mul (.wr .i64 (.add (.wr .i64 (.mul (.V 6) (.V 6))) (.wr .i64 (.mul (.V 7) (.V 7))))) (.V 4))) (.N 1000)) (.N 1000))])
        (.ret [(.quo (.wr .i64 (.mul (.wr .i64 (.add (.wr .i64 (.mul (.V 6) (.V 6))) (.wr .i64 (.mul (.V 7) (.V 7))))) (.V 4))) (.N 1000)), (.rem (.wr .i64 (.mul (.wr .i64 (.add (.wr .i64 (.mul (.V 6) (.V 6))) (.wr .i64 (.mul (.V 7) (.V 7))))) (.V 4))) (.N 1000))])) 2
       (.sub (.ite (.lt (.N 0) (.V 11))
         (.ret [(.add (.V 10) (.N 1))])
         (.ret [(.V 10)])) 1
        (.ret [(.V 12), (.N 0)]))))) 2
    (.ret [(.V 9), (.V 10)]))))
set_option maxRecDepth 100000 in
theorem tPower_t : runS Try.prog [sValid_K.to []] [] tPower_K = tPower_T := by kernel_rfl
def tMost_K : Con := ⟨28, [.val true [.int .i64, .int .i64, .int .i64, .int .i64, .int .i64, .sl [.int .i64, .int .i64]], .val false [.int .i64]], [.val false [.int .i64]], []⟩
def tMost_T : T (List X) :=
  (.call 30 [(.V 0), (.V 1), (.V 2), (.V 3), (.V 4), (.V 5), (.V 2), (.N 0)] 2
  (.sub (.ite (.eq (.V 8) (.N 0))
    (.ret [(.lt (.V 6) (.N 0))])
    (.ret [(.B true)])) 1
   (.ite (.V 9)
    (.ret [(.N 0)])
    (.ite (.lt (.V 6) (.V 7))
     (.sub (.sub (.ite (.lt (.wr .i64 (.mul (.N 1000) (.V 6))) (.N (-1000000000000000000)))
        (.ret [(.B true)])
        (.ite (.lt (.N 1000000000000000000) (.wr .i64 (.mul (.N 1000) (.V 6))))
         (.ret [(.B true)])
         (.ite (.lt (.V 4) (.N 1))
          (.ret [(.B true)])
          (.ret [(.lt (.N 1000000000) (.V 4))])))) 1
       (.ite (.V 10)
        (.ret [(.N 0), (.N 1)])
        (.need (.not (.eq (.V 4) (.N 0)))
         (.sub (.ite (.lt (.rem (.wr .i64 (.mul (.N 1000) (.V 6))) (.V 4)) (.N 0))
           (.ret [(.wr .i64 (.sub (.wr .i64 (.quo (.wr .i64 (.mul (.N 1000) (.V 6))) (.V 4))) (.N 1))), (.wr .i64 (.add (.rem (.wr .i64 (.mul (.N 1000) (.V 6))) (.V 4)) (.V 4)))])
           (.ret [(.wr .i64 (.quo (.wr .i64 (.mul (.N 1000) (.V 6))) (.V 4))), (.rem (.wr .i64 (.mul (.N 1000) (.V 6))) (.V 4))])) 2
          (.ret [(.V 11), (.N 0)]))))) 2
      (.call 58 [(.V 10)] 2
       (.ret [(.V 12)])))
     (.ret [(.V 2)])))))
set_option maxRecDepth 100000 in
theorem tMost_t : runS Try.prog [tPower_K.to [], aRoot_K.to []] [] tMost_K = tMost_T := by kernel_rfl
def srcThr_K : Con := ⟨26, [.ptr [.sl [.int .i64], .int .i64]], [.val true [.int .i64, .int .i64, .int .i64, .int .i64, .int .i64, .sl [.int .i64, .int .i64]]], []⟩
def srcThr_T : T (List X) :=
  (.call 21 [(.V 0), (.V 1), (.N 3)] 3
  (.call 21 [(.V 3), (.V 4), (.N 2)] 3
   (.call 21 [(.V 6), (.V 7), (.N 5)] 3
    (.need (.and (.not (.lt (.V 8) (.N 0))) (.lt (.V 8) (.N 5)))
     (.call 21 [(.V 9), (.V 10), (.N 4)] 3
      (.need (.and (.not (.lt (.V 11) (.N 0))) (.lt (.V 11) (.N 4)))
       (.call 21 [(.V 12), (.V 13), (.N 4)] 3
        (.need (.and (.not (.lt (.V 14) (.N 0))) (.lt (.V 14) (.N 4)))
         (.call 21 [(.V 15), (.V 16), (.N 3)] 3
          (.loop [(.rows []), (.V 18), (.V 19), (.V 17)]
           (.ite (.lt (.N 0) (.V 23))
            (.call 21 [(.V 21), (.V 22), (.N 7)] 3
             (.need (.and (.not (.lt (.V 24) (.N 0))) (.lt (.V 24) (.N 7)))
              (.call 21 [(.V 25), (.V 26), (.N 5)] 3
               (.need (.and (.not (.lt (.V 27) (.N 0))) (.lt (.V 27) (.N 5)))
                (.need (.not (.lt (.N 8796093022208) (.add (.len (.V 20)) (.N 1))))
                 (.ret (true, [(.app (.V 20) (.rows [[(.at (.rows [[(.N 0)], [(.N 450)], [(.N 800)], [(.N 1350)], [(.N 1800)], [(.N 2600)], [(.N 3500)]]) (.V 24) 0), (.rem (.wr .i64 (.add (.at (.rows [[(.N 0)], [(.N 450)], [(.N 800)], [(.N 1350)], [(.N 1800)], [(.N 2600)], [(.N 3500)]]) (.V 24) 0) (.at (.rows [[(.N 0)], [(.N 100)], [(.N 300)], [(.N 900)], [(.N 1799)]]) (.V 27) 0))) (.N 3600))]])), (.V 28), (.V 29), (.wr .i64 (.sub (.V 23) (.N 1)))])))))))
            (.ret (false, [(.V 20), (.V 21), (.V 22)]))) 3
           (.ret [(.wr .i64 (.add (.N 1) (.V 2))), (.V 5), (.at (.rows [[(.N 0)], [(.N 1)], [(.N 7)], [(.N 20)], [(.N 40)]]) (.V 8) 0), (.at (.rows [[(.N 0)], [(.N 1)], [(.N 5)], [(.N 50)]]) (.V 11) 0), (.at (.rows [[(.N 1)], [(.N 2)], [(.N 3)], [(.N 100)]]) (.V 14) 0), (.V 20), (.V 21), (.V 22)])))))))))))
set_option maxRecDepth 100000 in
theorem srcThr_t : runS Try.prog [srcN_K.to []] [26] srcThr_K = srcThr_T := by kernel_rfl
def clone_K : Con := ⟨56, [.val false [.sl [.int .i64, .int .i64]]], [.val false [.sl [.int .i64, .int .i64]]], []⟩
def clone_T : T (List X) :=
  (.fail 7)
set_option maxRecDepth 100000 in
theorem clone_t : runS Try.prog [] [] clone_K = clone_T := by kernel_rfl
def sane12_K : Con := ⟨29, [], [.val false [.bool]], []⟩
def sane12_T : T (List X) :=
  (.call 30 [(.N 2), (.N 0), (.N 500), (.N 0), (.N 3), (.rows []), (.N 100), (.N 0)] 2
  (.call 30 [(.N 2), (.N 0), (.N 500), (.N 0), (.N 3), (.rows []), (.N 10), (.N 0)] 2
   (.sub (.ite (.eq (.V 1) (.N 0))
     (.ite (.eq (.V 3) (.N 0))
      (.ite (.eq (.V 0) (.N 30))
       (.ite (.eq (.V 2) (.N 1))
        (.call 28 [(.N 2), (.N 0), (.N 500), (.N 0), (.N 3), (.rows []), (.N 30)] 1
         (.ite (.eq (.V 4) (.N 100))
          (.call 56 [(.rows [])] 1
           (.ret [(.B true)]))
          (.ret [(.B false)])))
        (.ret [(.B false)]))
       (.ret [(.B false)]))
      (.ret [(.B false)]))
     (.ret [(.B false)])) 1
    (.ret [(.V 4)]))))
set_option maxRecDepth 100000 in
theorem sane12_t : runS Try.prog [tPower_K.to [], tMost_K.to [], clone_K.to []] [] sane12_K = sane12_T := by kernel_rfl
def tMore_K : Con := ⟨7, [.val false [.sl [.int .i64]], .val false [.int .u16], .val false [.int .u16]], [.val false [.bool]], [none, some (0, 65535), some (0, 65535)]⟩
def tMore_T : T (List X) :=
  (.need (.not (.lt (.len (.V 0)) (.mn (.len (.V 0)) (.N 600))))
  (.call 26 [(.take (.V 0) (.mn (.len (.V 0)) (.N 600))), (.N 0)] 8
   (.call 21 [(.V 9), (.V 10), (.N 20)] 3
    (.call 21 [(.V 12), (.V 13), (.N 63)] 3
     (.sub (.ite (.lt (.wr .i64 (.add (.N (-2)) (.V 14))) (.N 0))
       (.ret [(.N 0)])
       (.ret [(.wr .i64 (.add (.N (-2)) (.V 14)))])) 1
      (.call 56 [(.V 8)] 1
       (.sub (.call 28 [(.V 3), (.V 4), (.V 5), (.V 6), (.V 7), (.V 8), (.rem (.V 1) (.N 2000))] 1
         (.call 28 [(.V 3), (.V 4), (.V 5), (.V 6), (.V 7), (.V 8), (.add (.rem (.V 1) (.N 2000)) (.rem (.V 2) (.N 2000)))] 1
          (.ite (.lt (.V 20) (.V 19))
           (.ret [(.B false)])
           (.call 28 [(.V 3), (.V 4), (.V 5), (.V 6), (.mn (.wr .i64 (.add (.V 7) (.V 11))) (.N 100)), (.V 8), (.rem (.V 1) (.N 2000))] 1
            (.call 28 [(.V 3), (.V 4), (.V 5), (.V 6), (.V 7), (.V 8), (.rem (.V 1) (.N 2000))] 1
             (.ite (.lt (.V 22) (.V 21))
              (.ret [(.B false)])
              (.ite (.lt (.mn (.V 5) (.V 17)) (.N 0))
               (.ret [(.B false)])
               (.ite (.lt (.V 5) (.mn (.V 5) (.V 17)))
                (.ret [(.B false)])
                (.call 28 [(.V 3), (.V 4), (.mn (.V 5) (.V 17)), (.V 6), (.V 7), (.V 18), (.rem (.V 1) (.N 2000))] 1
                 (.call 28 [(.V 3), (.V 4), (.V 5), (.V 6), (.V 7), (.V 8), (.rem (.V 1) (.N 2000))] 1
                  (.ite (.lt (.V 24) (.V 23))
                   (.ret [(.B false)])
                   (.call 28 [(.V 3), (.V 4), (.V 5), (.V 6), (.V 7), (.V 8), (.N (-1))] 1
                    (.ite (.eq (.V 25) (.N 0))
                     (.call 29 [] 1
                      (.ret [(.V 26)]))
                     (.ret [(.B false)])))))))))))))) 1
        (.ret [(.V 19)]))))))))
set_option maxRecDepth 100000 in
theorem tMore_t : runS Try.prog [srcN_K.to [], srcThr_K.to [], clone_K.to [], tMost_K.to [], sane12_K.to []] [] tMore_K = tMore_T := by kernel_rfl
def tPow_K : Con := ⟨8, [.val false [.sl [.int .i64]]], [.val false [.bool]], []⟩
def tPow_T : T (List X) :=
  (.need (.not (.lt (.len (.V 0)) (.mn (.len (.V 0)) (.N 600))))
  (.call 26 [(.take (.V 0) (.mn (.len (.V 0)) (.N 600))), (.N 0)] 8
   (.call 21 [(.V 7), (.V 8), (.N 3)] 3
    (.need (.and (.not (.lt (.V 9) (.N 0))) (.lt (.V 9) (.N 3)))
     (.call 21 [(.V 10), (.V 11), (.N 4)] 3
      (.need (.and (.not (.lt (.V 12) (.N 0))) (.lt (.V 12) (.N 4)))
       (.call 28 [(.V 1), (.V 2), (.at (.rows [[(.N 0)], [(.N 30)], [(.N 200)]]) (.V 9) 0), (.V 4), (.V 5), (.V 6), (.at (.rows [[(.N 0)], [(.N 1)], [(.N 10)], [(.N 500)]]) (.V 12) 0)] 1
        (.sub (.ite (.lt (.V 15) (.N 0))
          (.ret [(.B true)])
          (.ret [(.lt (.at (.rows [[(.N 0)], [(.N 30)], [(.N 200)]]) (.V 9) 0) (.V 15))])) 1
         (.ite (.V 16)
          (.ret [(.B false)])
          (.call 21 [(.V 13), (.V 14), (.wr .i64 (.add (.wr .i64 (.sub (.V 15) (.wr .i64 (.sub (.N 0) (.V 15))))) (.N 1)))] 3
           (.loop [(.N 0)]
            (.ite (.lt (.wr .i64 (.mul (.V 15) (.V 15))) (.wr .i64 (.add (.wr .i64 (.mul (.wr .i64 (.add (.V 20) (.N 1))) (.wr .i64 (.add (.V 20) (.N 1))))) (.wr .i64 (.mul (.wr .i64 (.add (.wr .i64 (.sub (.N 0) (.V 15))) (.V 17))) (.wr .i64 (.add (.wr .i64 (.sub (.N 0) (.V 15))) (.V 17))))))))
             (.ret (false, [(.V 20)]))
             (.ret (true, [(.wr .i64 (.add (.V 20) (.N 1)))]))) 1
            (.call 30 [(.V 1), (.V 2), (.at (.rows [[(.N 0)], [(.N 30)], [(.N 200)]]) (.V 9) 0), (.V 4), (.V 5), (.V 6), (.wr .i64 (.add (.wr .i64 (.sub (.N 0) (.V 15))) (.V 17))), (.V 20)] 2
             (.call 30 [(.V 1), (.V 2), (.at (.rows [[(.N 0)], [(.N 30)], [(.N 200)]]) (.V 9) 0), (.V 4), (.V 5), (.V 6), (.V 15), (.N 0)] 2
              (.call 30 [(.V 1), (.V 2), (.at (.rows [[(.N 0)], [(.N 30)], [(.N 200)]]) (.V 9) 0), (.V 4), (.V 5), (.V 6), (.wr .i64 (.add (.V 15) (.N 1))), (.N 0)] 2
               (.sub (.ite (.eq (.V 22) (.N 0))
                 (.ite (.eq (.V 24) (.N 0))
                  (.ite (.eq (.V 26) (.N 0))
                   (.ite (.lt (.at (.rows [[(.N 0)], [(.N 1)], [(.N 10)], [(.N 500)]]) (.V 12) 0) (.V 21))
                    (.ret [(.B false)])
                    (.ite (.lt (.V 23) (.V 21))
                     (.ret [(.B false)])
                     (.ite (.lt (.at (.rows [[(.N 0)], [(.N 1)], [(.N 10)], [(.N 500)]]) (.V 12) 0) (.V 23))
                      (.ret [(.B false)])
                      (.ite (.eq (.V 15) (.at (.rows [[(.N 0)], [(.N 30)], [(.N 200)]]) (.V 9) 0))
                       (.ite (.lt (.V 25) (.V 23))
                        (.ret [(.B false)])
                        (.call 29 [] 1
                         (.ret [(.V 27)])))
                       (.ite (.lt (.at (.rows [[(.N 0)], [(.N 1)], [(.N 10)], [(.N 500)]]) (.V 12) 0) (.V 25))
                        (.ite (.lt (.V 25) (.V 23))
                         (.ret [(.B false)])
                         (.call 29 [] 1
                          (.ret [(.V 27)])))
                        (.ret [(.B false)]))))))
                   (.ret [(.B false)]))
                  (.ret [(.B false)]))
                 (.ret [(.B false)])) 1
                (.ret [(.V 27)]))))))))))))))))
set_option maxRecDepth 100000 in
theorem tPow_t : runS Try.prog [srcN_K.to [], srcThr_K.to [], clone_K.to [], tMost_K.to [], tPower_K.to [], sane12_K.to []] [8] tPow_K = tPow_T := by kernel_rfl
end Go.Proofs.Ytladhlgibapohaa
