/- The tree of Demand. -/
import Derived.Test.YthfagiihfkjamaaSinF
set_option linter.unusedVariables false
namespace Go.Proofs.Ythfagiihfkjamaa
open Go.RowKit Fx
def demand_K : Con := ⟨26, [.val true [.int .i64, .int .i64, .int .i64, .int .i64, .int .i64, .int .i64, .int .i64, .int .i64, .int .i64], .val true [.int .i64, .int .i64, .int .i64, .int .i64, .int .i64, .int .i64, .bool], .val true [.int .i64, .int .i64], .val false [.int .i64], .val true [.int .i64, .int .i64, .int .i64]], [.val true [.int .i64, .int .i64, .int .i64], .val true [.int .i64, .int .i64, .int .i64, .int .i64, .int .i64, .int .i64, .bool], .val false [.int .i64]], [some (0, 1000), some (0, 5), some (0, 500), some (0, 100), some (0, 3), some (0, 70), some (0, 10000), some (0, 60), some (0, 3000), some (-10000, 10000), some (-10000, 10000), some (-10000, 10000), some (-100000000, 100000000), some (-100000000, 100000000), some (0, 3599), none, some (-100000000, 100000000), some (-100000000, 100000000), some (0, 3599), some (-100000000, 100000000), some (-100000000, 100000000), some (0, 3599)]⟩
def demand_T : T (List X) :=
  (.sub (.sub (.sub (.ite (.lt (.V 9) (.sub (.N 0) (.V 6)))
     (.ret [(.B false)])
     (.ret [(.not (.lt (.V 6) (.V 9)))])) 1
    (.ite (.V 22)
     (.sub (.ite (.lt (.V 10) (.sub (.N 0) (.V 6)))
       (.ret [(.B false)])
       (.ret [(.not (.lt (.V 6) (.V 10)))])) 1
      (.ite (.V 23)
       (.sub (.ite (.lt (.V 11) (.sub (.N 0) (.V 6)))
         (.ret [(.B false)])
         (.ret [(.not (.lt (.V 6) (.V 11)))])) 1
        (.ite (.V 24)
         (.ret [(.B true)])
         (.ret [(.B false)])))
       (.ret [(.B false)])))
     (.ret [(.B false)]))) 1
   (.ite (.V 22)
    (.ret [(.B false)])
    (.ret [(.B true)]))) 1
  (.ite (.V 22)
   (.ret [(.N 0), (.N 0), (.N 0), (.N 0), (.N 0), (.N 0), (.N 0), (.N 0), (.N 0), (.B false), (.N 1)])
   (.call 62 [(.V 18)] 1
    (.need (.and (.not (.lt (.V 23) (.N (-10000)))) (.not (.lt (.N 10000) (.V 23))))
     (.call 63 [(.V 18)] 1
      (.need (.and (.not (.lt (.V 24) (.N (-10000)))) (.not (.lt (.N 10000) (.V 24))))
       (.sub (.ite (.lt (.rem (.add (.mul (.sub (.V 19) (.V 16)) (.V 24)) (.mul (.sub (.V 20) (.V 17)) (.V 23))) (.N 10000)) (.N 0))
         (.ret [(.sub (.quo (.add (.mul (.sub (.V 19) (.V 16)) (.V 24)) (.mul (.sub (.V 20) (.V 17)) (.V 23))) (.N 10000)) (.N 1)), (.add (.rem (.add (.mul (.sub (.V 19) (.V 16)) (.V 24)) (.mul (.sub (.V 20) (.V 17)) (.V 23))) (.N 10000)) (.N 10000))])
         (.ret [(.quo (.add (.mul (.sub (.V 19) (.V 16)) (.V 24)) (.mul (.sub (.V 20) (.V 17)) (.V 23))) (.N 10000)), (.rem (.add (.mul (.sub (.V 19) (.V 16)) (.V 24)) (.mul (.sub (.V 20) (.V 17)) (.V 23))) (.N 10000))])) 2
        (.sub (.ite (.lt (.mul (.N 2) (.V 26)) (.N 10000))
          (.ret [(.V 25)])
          (.ret [(.add (.V 25) (.N 1))])) 1
         (.sub (.ite (.lt (.rem (.sub (.mul (.sub (.V 20) (.V 17)) (.V 24)) (.mul (.sub (.V 19) (.V 16)) (.V 23))) (.N 10000)) (.N 0))
           (.ret [(.sub (.quo (.sub (.mul (.sub (.V 20) (.V 17)) (.V 24)) (.mul (.sub (.V 19) (.V 16)) (.V 23))) (.N 10000)) (.N 1)), (.add (.rem (.sub (.mul (.sub (.V 20) (.V 17)) (.V 24)) (.mul (.sub (.V 19) (.V 16)) (.V 23))) (.N 10000)) (.N 10000))])
           (.ret [(.quo (.sub (.mul (.sub (.V 20) (.V 17)) (.V 24)) (.mul (.sub (.V 19) (.V 16)) (.V 23))) (.N 10000)), (.rem (.sub (.mul (.sub (.V 20) (.V 17)) (.V 24)) (.mul (.sub (.V 19) (.V 16)) (.V 23))) (.N 10000))])) 2
          (.sub (.ite (.lt (.mul (.N 2) (.V 29)) (.N 10000))
            (.ret [(.V 28)])
            (.ret [(.add (.V 28) (.N 1))])) 1
           (.sub (.ite (.lt (.rem (.sub (.V 21) (.V 18)) (.N 3600)) (.N 0))
             (.ret [(.add (.rem (.sub (.V 21) (.V 18)) (.N 3600)) (.N 3600))])
             (.ret [(.rem (.sub (.V 21) (.V 18)) (.N 3600))])) 1
            (.sub (.ite (.lt (.V 31) (.N 1800))
              (.ret [(.V 31)])
              (.ret [(.sub (.V 31) (.N 3600))])) 1
             (.sub (.ite (.V 15)
               (.call 62 [(.V 18)] 1
                (.need (.and (.not (.lt (.V 33) (.N (-10000)))) (.not (.lt (.N 10000) (.V 33))))
                 (.call 63 [(.V 18)] 1
                  (.need (.and (.not (.lt (.V 34) (.N (-10000)))) (.not (.lt (.N 10000) (.V 34))))
                   (.sub (.ite (.lt (.rem (.add (.mul (.sub (.V 16) (.V 12)) (.V 34)) (.mul (.sub (.V 17) (.V 13)) (.V 33))) (.N 10000)) (.N 0))
                     (.ret [(.sub (.quo (.add (.mul (.sub (.V 16) (.V 12)) (.V 34)) (.mul (.sub (.V 17) (.V 13)) (.V 33))) (.N 10000)) (.N 1)), (.add (.rem (.add (.mul (.sub (.V 16) (.V 12)) (.V 34)) (.mul (.sub (.V 17) (.V 13)) (.V 33))) (.N 10000)) (.N 10000))])
                     (.ret [(.quo (.add (.mul (.sub (.V 16) (.V 12)) (.V 34)) (.mul (.sub (.V 17) (.V 13)) (.V 33))) (.N 10000)), (.rem (.add (.mul (.sub (.V 16) (.V 12)) (.V 34)) (.mul (.sub (.V 17) (.V 13)) (.V 33))) (.N 10000))])) 2
                    (.sub (.ite (.lt (.mul (.N 2) (.V 36)) (.N 10000))
                      (.ret [(.V 35)])
                      (.ret [(.add (.V 35) (.N 1))])) 1
                     (.sub (.ite (.lt (.rem (.sub (.mul (.sub (.V 17) (.V 13)) (.V 34)) (.mul (.sub (.V 16) (.V 12)) (.V 33))) (.N 10000)) (.N 0))
                       (.ret [(.sub (.quo (.sub (.mul (.sub (.V 17) (.V 13)) (.V 34)) (.mul (.sub (.V 16) (.V 12)) (.V 33))) (.N 10000)) (.N 1)), (.add (.rem (.sub (.mul (.sub (.V 17) (.V 13)) (.V 34)) (.mul (.sub (.V 16) (.V 12)) (.V 33))) (.N 10000)) (.N 10000))])
                       (.ret [(.quo (.sub (.mul (.sub (.V 17) (.V 13)) (.V 34)) (.mul (.sub (.V 16) (.V 12)) (.V 33))) (.N 10000)), (.rem (.sub (.mul (.sub (.V 17) (.V 13)) (.V 34)) (.mul (.sub (.V 16) (.V 12)) (.V 33))) (.N 10000))])) 2
                      (.sub (.ite (.lt (.mul (.N 2) (.V 39)) (.N 10000))
                        (.ret [(.V 38)])
                        (.ret [(.add (.V 38) (.N 1))])) 1
                       (.sub (.ite (.lt (.rem (.sub (.V 18) (.V 14)) (.N 3600)) (.N 0))
                         (.ret [(.add (.rem (.sub (.V 18) (.V 14)) (.N 3600)) (.N 3600))])
                         (.ret [(.rem (.sub (.V 18) (.V 14)) (.N 3600))])) 1
                        (.sub (.ite (.lt (.V 41) (.N 1800))
                          (.ret [(.V 41)])
                          (.ret [(.sub (.V 41) (.N 3600))])) 1
                         (.ret [(.V 37), (.V 40), (.V 42)])))))))))))
               (.ret [(.N 0), (.N 0), (.N 0)])) 3
              (.sub (.ite (.lt (.rem (.sub (.add (.mul (.V 0) (.V 27)) (.mul (.V 1) (.mx (.sub (.N 0) (.V 6)) (.mn (.add (.V 9) (.V 27)) (.V 6))))) (.mul (.V 2) (.V 33))) (.N 1000)) (.N 0))
                (.ret [(.sub (.quo (.sub (.add (.mul (.V 0) (.V 27)) (.mul (.V 1) (.mx (.sub (.N 0) (.V 6)) (.mn (.add (.V 9) (.V 27)) (.V 6))))) (.mul (.V 2) (.V 33))) (.N 1000)) (.N 1)), (.add (.rem (.sub (.add (.mul (.V 0) (.V 27)) (.mul (.V 1) (.mx (.sub (.N 0) (.V 6)) (.mn (.add (.V 9) (.V 27)) (.V 6))))) (.mul (.V 2) (.V 33))) (.N 1000)) (.N 1000))])
                (.ret [(.quo (.sub (.add (.mul (.V 0) (.V 27)) (.mul (.V 1) (.mx (.sub (.N 0) (.V 6)) (.mn (.add (.V 9) (.V 27)) (.V 6))))) (.mul (.V 2) (.V 33))) (.N 1000)), (.rem (.sub (.add (.mul (.V 0) (.V 27)) (.mul (.V 1) (.mx (.sub (.N 0) (.V 6)) (.mn (.add (.V 9) (.V 27)) (.V 6))))) (.mul (.V 2) (.V 33))) (.N 1000))])) 2
               (.sub (.ite (.lt (.mul (.N 2) (.V 37)) (.N 1000))
                 (.ret [(.V 36)])
                 (.ret [(.add (.V 36) (.N 1))])) 1
                (.sub (.ite (.lt (.rem (.sub (.add (.mul (.V 0) (.V 30)) (.mul (.V 1) (.mx (.sub (.N 0) (.V 6)) (.mn (.add (.V 10) (.V 30)) (.V 6))))) (.mul (.V 2) (.V 34))) (.N 1000)) (.N 0))
                  (.ret [(.sub (.quo (.sub (.add (.mul (.V 0) (.V 30)) (.mul (.V 1) (.mx (.sub (.N 0) (.V 6)) (.mn (.add (.V 10) (.V 30)) (.V 6))))) (.mul (.V 2) (.V 34))) (.N 1000)) (.N 1)), (.add (.rem (.sub (.add (.mul (.V 0) (.V 30)) (.mul (.V 1) (.mx (.sub (.N 0) (.V 6)) (.mn (.add (.V 10) (.V 30)) (.V 6))))) (.mul (.V 2) (.V 34))) (.N 1000)) (.N 1000))])
                  (.ret [(.quo (.sub (.add (.mul (.V 0) (.V 30)) (.mul (.V 1) (.mx (.sub (.N 0) (.V 6)) (.mn (.add (.V 10) (.V 30)) (.V 6))))) (.mul (.V 2) (.V 34))) (.N 1000)), (.rem (.sub (.add (.mul (.V 0) (.V 30)) (.mul (.V 1) (.mx (.sub (.N 0) (.V 6)) (.mn (.add (.V 10) (.V 30)) (.V 6))))) (.mul (.V 2) (.V 34))) (.N 1000))])) 2
                 (.sub (.ite (.lt (.mul (.N 2) (.V 40)) (.N 1000))
                   (.ret [(.V 39)])
                   (.ret [(.add (.V 39) (.N 1))])) 1
                  (.sub (.ite (.lt (.rem (.sub (.add (.mul (.V 3) (.V 32)) (.mul (.V 4) (.mx (.sub (.N 0) (.V 6)) (.mn (.add (.V 11) (.V 32)) (.V 6))))) (.mul (.V 5) (.V 35))) (.N 1000)) (.N 0))
                    (.ret [(.sub (.quo (.sub (.add (.mul (.V 3) (.V 32)) (.mul (.V 4) (.mx (.sub (.N 0) (.V 6)) (.mn (.add (.V 11) (.V 32)) (.V 6))))) (.mul (.V 5) (.V 35))) (.N 1000)) (.N 1)), (.add (.rem (.sub (.add (.mul (.V 3) (.V 32)) (.mul (.V 4) (.mx (.sub (.N 0) (.V 6)) (.mn (.add (.V 11) (.V 32)) (.V 6))))) (.mul (.V 5) (.V 35))) (.N 1000)) (.N 1000))])
                    (.ret [(.quo (.sub (.add (.mul (.V 3) (.V 32)) (.mul (.V 4) (.mx (.sub (.N 0) (.V 6)) (.mn (.add (.V 11) (.V 32)) (.V 6))))) (.mul (.V 5) (.V 35))) (.N 1000)), (.rem (.sub (.add (.mul (.V 3) (.V 32)) (.mul (.V 4) (.mx (.sub (.N 0) (.V 6)) (.mn (.add (.V 11) (.V 32)) (.V 6))))) (.mul (.V 5) (.V 35))) (.N 1000))])) 2
                   (.sub (.ite (.lt (.mul (.N 2) (.V 43)) (.N 1000))
                     (.ret [(.V 42)])
                     (.ret [(.add (.V 42) (.N 1))])) 1
                    (.ret [(.mx (.sub (.N 0) (.V 7)) (.mn (.V 38) (.V 7))), (.mx (.sub (.N 0) (.V 7)) (.mn (.V 41) (.V 7))), (.mx (.sub (.N 0) (.V 8)) (.mn (.V 44) (.V 8))), (.mx (.sub (.N 0) (.V 6)) (.mn (.add (.V 9) (.V 27)) (.V 6))), (.mx (.sub (.N 0) (.V 6)) (.mn (.add (.V 10) (.V 30)) (.V 6))), (.mx (.sub (.N 0) (.V 6)) (.mn (.add (.V 11) (.V 32)) (.V 6))), (.V 16), (.V 17), (.V 18), (.B true), (.N 0)]))))))))))))))))))))
set_option maxRecDepth 100000 in
theorem demand_t : runS Try.prog [fxSin_K.to [some (-10000, 10000)], fxCos_K.to [some (-10000, 10000)]] [] demand_K = demand_T := by kernel_rfl
end Go.Proofs.Ythfagiihfkjamaa
