/- The tree of ControlDirects. -/
import Derived.Test.YthfagiihfkjamaaSane24
import Derived.Test.YthfagiihfkjamaaSinF
set_option linter.unusedVariables false
namespace Go.Proofs.Ythfagiihfkjamaa
open Go.RowKit Fx
def directs_K : Con := ⟨7, [.val false [.sl [.int .i64]]], [.val false [.bool]], []⟩
def directs_T : T (List X) :=
  (.ite (.lt (.N 600) (.len (.V 0)))
  (.call 15 [] 1
   (.ret [(.V 1)]))
  (.need (.not (.lt (.len (.V 0)) (.mn (.len (.V 0)) (.N 600))))
   (.call 17 [(.take (.V 0) (.mn (.len (.V 0)) (.N 600))), (.N 0)] 11
    (.need (.and (.not (.lt (.V 1) (.N 0))) (.not (.lt (.N 1000) (.V 1))))
     (.need (.and (.not (.lt (.V 2) (.N 0))) (.not (.lt (.N 5) (.V 2))))
      (.need (.and (.not (.lt (.V 3) (.N 0))) (.not (.lt (.N 500) (.V 3))))
       (.need (.and (.not (.lt (.V 4) (.N 0))) (.not (.lt (.N 100) (.V 4))))
        (.need (.and (.not (.lt (.V 5) (.N 0))) (.not (.lt (.N 3) (.V 5))))
         (.need (.and (.not (.lt (.V 6) (.N 0))) (.not (.lt (.N 70) (.V 6))))
          (.need (.and (.not (.lt (.V 7) (.N 0))) (.not (.lt (.N 10000) (.V 7))))
           (.need (.and (.not (.lt (.V 8) (.N 0))) (.not (.lt (.N 60) (.V 8))))
            (.need (.and (.not (.lt (.V 9) (.N 0))) (.not (.lt (.N 3000) (.V 9))))
             (.need (.and (.not (.lt (.V 11) (.N 0))) (.not (.lt (.N 600) (.V 11))))
              (.call 19 [(.V 10), (.V 11)] 4
               (.need (.and (.not (.lt (.V 12) (.N (-100000000)))) (.not (.lt (.N 100000000) (.V 12))))
                (.need (.and (.not (.lt (.V 13) (.N (-100000000)))) (.not (.lt (.N 100000000) (.V 13))))
                 (.need (.and (.not (.lt (.V 15) (.N 0))) (.not (.lt (.N 600) (.V 15))))
                  (.call 19 [(.V 14), (.V 15)] 4
                   (.need (.and (.not (.lt (.V 16) (.N (-100000000)))) (.not (.lt (.N 100000000) (.V 16))))
                    (.need (.and (.not (.lt (.V 17) (.N (-100000000)))) (.not (.lt (.N 100000000) (.V 17))))
                     (.need (.and (.not (.lt (.V 19) (.N 0))) (.not (.lt (.N 600) (.V 19))))
                      (.sub (.ite (.lt (.V 19) (.len (.V 18)))
                        (.need (.lt (.sub (.add (.V 19) (.N 1)) (.N 1)) (.len (.V 18)))
                         (.ret [(.add (.V 19) (.N 1)), (.rem (.add (.rem (.at (.V 18) (.sub (.add (.V 19) (.N 1)) (.N 1)) 0) (.N 3600)) (.N 3600)) (.N 3600))]))
                        (.ret [(.V 19), (.N 0)])) 2
                       (.sub (.ite (.lt (.V 20) (.len (.V 18)))
                         (.need (.lt (.sub (.add (.V 20) (.N 1)) (.N 1)) (.len (.V 18)))
                          (.ret [(.add (.V 20) (.N 1)), (.rem (.add (.rem (.at (.V 18) (.sub (.add (.V 20) (.N 1)) (.N 1)) 0) (.N 3600)) (.N 3600)) (.N 3600))]))
                         (.ret [(.V 20), (.N 0)])) 2
                        (.call 62 [(.V 23)] 1
                         (.need (.and (.not (.lt (.V 24) (.N (-10000)))) (.not (.lt (.N 10000) (.V 24))))
                          (.call 63 [(.V 23)] 1
                           (.need (.and (.not (.lt (.V 25) (.N (-10000)))) (.not (.lt (.N 10000) (.V 25))))
                            (.sub (.ite (.lt (.rem (.add (.mul (.sub (.V 16) (.V 12)) (.V 25)) (.mul (.sub (.V 17) (.V 13)) (.V 24))) (.N 10000)) (.N 0))
                              (.ret [(.sub (.quo (.add (.mul (.sub (.V 16) (.V 12)) (.V 25)) (.mul (.sub (.V 17) (.V 13)) (.V 24))) (.N 10000)) (.N 1)), (.add (.rem (.add (.mul (.sub (.V 16) (.V 12)) (.V 25)) (.mul (.sub (.V 17) (.V 13)) (.V 24))) (.N 10000)) (.N 10000))])
                              (.ret [(.quo (.add (.mul (.sub (.V 16) (.V 12)) (.V 25)) (.mul (.sub (.V 17) (.V 13)) (.V 24))) (.N 10000)), (.rem (.add (.mul (.sub (.V 16) (.V 12)) (.V 25)) (.mul (.sub (.V 17) (.V 13)) (.V 24))) (.N 10000))])) 2
                             (.sub (.ite (.lt (.mul (.N 2) (.V 27)) (.N 10000))
                               (.ret [(.V 26)])
                               (.ret [(.add (.V 26) (.N 1))])) 1
                              (.sub (.ite (.lt (.rem (.sub (.mul (.sub (.V 17) (.V 13)) (.V 25)) (.mul (.sub (.V 16) (.V 12)) (.V 24))) (.N 10000)) (.N 0))
                                (.ret [(.sub (.quo (.sub (.mul (.sub (.V 17) (.V 13)) (.V 25)) (.mul (.sub (.V 16) (.V 12)) (.V 24))) (.N 10000)) (.N 1)), (.add (.rem (.sub (.mul (.sub (.V 17) (.V 13)) (.V 25)) (.mul (.sub (.V 16) (.V 12)) (.V 24))) (.N 10000)) (.N 10000))])
                                (.ret [(.quo (.sub (.mul (.sub (.V 17) (.V 13)) (.V 25)) (.mul (.sub (.V 16) (.V 12)) (.V 24))) (.N 10000)), (.rem (.sub (.mul (.sub (.V 17) (.V 13)) (.V 25)) (.mul (.sub (.V 16) (.V 12)) (.V 24))) (.N 10000))])) 2
                               (.sub (.ite (.lt (.mul (.N 2) (.V 30)) (.N 10000))
                                 (.ret [(.V 29)])
                                 (.ret [(.add (.V 29) (.N 1))])) 1
                                (.sub (.ite (.lt (.rem (.sub (.V 21) (.V 23)) (.N 3600)) (.N 0))
                                  (.ret [(.add (.rem (.sub (.V 21) (.V 23)) (.N 3600)) (.N 3600))])
                                  (.ret [(.rem (.sub (.V 21) (.V 23)) (.N 3600))])) 1
                                 (.sub (.ite (.lt (.V 32) (.N 1800))
                                   (.ret [(.V 32)])
                                   (.ret [(.sub (.V 32) (.N 3600))])) 1
                                  (.sub (.ite (.lt (.rem (.sub (.add (.mul (.V 1) (.V 28)) (.mul (.V 2) (.mx (.sub (.N 0) (.V 7)) (.mn (.add (.N 0) (.V 28)) (.V 7))))) (.N 0)) (.N 1000)) (.N 0))
                                    (.ret [(.sub (.quo (.sub (.add (.mul (.V 1) (.V 28)) (.mul (.V 2) (.mx (.sub (.N 0) (.V 7)) (.mn (.add (.N 0) (.V 28)) (.V 7))))) (.N 0)) (.N 1000)) (.N 1)), (.add (.rem (.sub (.add (.mul (.V 1) (.V 28)) (.mul (.V 2) (.mx (.sub (.N 0) (.V 7)) (.mn (.add (.N 0) (.V 28)) (.V 7))))) (.N 0)) (.N 1000)) (.N 1000))])
                                    (.ret [(.quo (.sub (.add (.mul (.V 1) (.V 28)) (.mul (.V 2) (.mx (.sub (.N 0) (.V 7)) (.mn (.add (.N 0) (.V 28)) (.V 7))))) (.N 0)) (.N 1000)), (.rem (.sub (.add (.mul (.V 1) (.V 28)) (.mul (.V 2) (.mx (.sub (.N 0) (.V 7)) (.mn (.add (.N 0) (.V 28)) (.V 7))))) (.N 0)) (.N 1000))])) 2
                                   (.sub (.ite (.lt (.mul (.N 2) (.V 35)) (.N 1000))
                                     (.ret [(.V 34)])
                                     (.ret [(.add (.V 34) (.N 1))])) 1
                                    (.sub (.ite (.lt (.rem (.sub (.add (.mul (.V 1) (.V 31)) (.mul (.V 2) (.mx (.sub (.N 0) (.V 7)) (.mn (.add (.N 0) (.V 31)) (.V 7))))) (.N 0)) (.N 1000)) (.N 0))
                                      (.ret [(.sub (.quo (.sub (.add (.mul (.V 1) (.V 31)) (.mul (.V 2) (.mx (.sub (.N 0) (.V 7)) (.mn (.add (.N 0) (.V 31)) (.V 7))))) (.N 0)) (.N 1000)) (.N 1)), (.add (.rem (.sub (.add (.mul (.V 1) (.V 31)) (.mul (.V 2) (.mx (.sub (.N 0) (.V 7)) (.mn (.add (.N 0) (.V 31)) (.V 7))))) (.N 0)) (.N 1000)) (.N 1000))])
                                      (.ret [(.quo (.sub (.add (.mul (.V 1) (.V 31)) (.mul (.V 2) (.mx (.sub (.N 0) (.V 7)) (.mn (.add (.N 0) (.V 31)) (.V 7))))) (.N 0)) (.N 1000)), (.rem (.sub (.add (.mul (.V 1) (.V 31)) (.mul (.V 2) (.mx (.sub (.N 0) (.V 7)) (.mn (.add (.N 0) (.V 31)) (.V 7))))) (.N 0)) (.N 1000))])) 2
                                     (.sub (.ite (.lt (.mul (.N 2) (.V 38)) (.N 1000))
                                       (.ret [(.V 37)])
                                       (.ret [(.add (.V 37) (.N 1))])) 1
                                      (.sub (.ite (.lt (.rem (.sub (.add (.mul (.V 4) (.V 33)) (.mul (.V 5) (.mx (.sub (.N 0) (.V 7)) (.mn (.add (.N 0) (.V 33)) (.V 7))))) (.N 0)) (.N 1000)) (.N 0))
                                        (.ret [(.sub (.quo (.sub (.add (.mul (.V 4) (.V 33)) (.mul (.V 5) (.mx (.sub (.N 0) (.V 7)) (.mn (.add (.N 0) (.V 33)) (.V 7))))) (.N 0)) (.N 1000)) (.N 1)), (.add (.rem (.sub (.add (.mul (.V 4) (.V 33)) (.mul (.V 5) (.mx (.sub (.N 0) (.V 7)) (.mn (.add (.N 0) (.V 33)) (.V 7))))) (.N 0)) (.N 1000)) (.N 1000))])
                                        (.ret [(.quo (.sub (.add (.mul (.V 4) (.V 33)) (.mul (.V 5) (.mx (.sub (.N 0) (.V 7)) (.mn (.add (.N 0) (.V 33)) (.V 7))))) (.N 0)) (.N 1000)), (.rem (.sub (.add (.mul (.V 4) (.V 33)) (.mul (.V 5) (.mx (.sub (.N 0) (.V 7)) (.mn (.add (.N 0) (.V 33)) (.V 7))))) (.N 0)) (.N 1000))])) 2
                                       (.sub (.ite (.lt (.mul (.N 2) (.V 41)) (.N 1000))
                                         (.ret [(.V 40)])
                                         (.ret [(.add (.V 40) (.N 1))])) 1
                                        (.call 62 [(.V 23)] 1
                                         (.need (.and (.not (.lt (.V 43) (.N (-10000)))) (.not (.lt (.N 10000) (.V 43))))
                                          (.call 63 [(.V 23)] 1
                                           (.need (.and (.not (.lt (.V 44) (.N (-10000)))) (.not (.lt (.N 10000) (.V 44))))
                                            (.sub (.ite (.lt (.rem (.add (.mul (.sub (.V 16) (.V 12)) (.V 44)) (.mul (.sub (.V 17) (.V 13)) (.V 43))) (.N 10000)) (.N 0))
                                              (.ret [(.sub (.quo (.add (.mul (.sub (.V 16) (.V 12)) (.V 44)) (.mul (.sub (.V 17) (.V 13)) (.V 43))) (.N 10000)) (.N 1)), (.add (.rem (.add (.mul (.sub (.V 16) (.V 12)) (.V 44)) (.mul (.sub (.V 17) (.V 13)) (.V 43))) (.N 10000)) (.N 10000))])
                                              (.ret [(.quo (.add (.mul (.sub (.V 16) (.V 12)) (.V 44)) (.mul (.sub (.V 17) (.V 13)) (.V 43))) (.N 10000)), (.rem (.add (.mul (.sub (.V 16) (.V 12)) (.V 44)) (.mul (.sub (.V 17) (.V 13)) (.V 43))) (.N 10000))])) 2
                                             (.sub (.ite (.lt (.mul (.N 2) (.V 46)) (.N 10000))
                                               (.ret [(.V 45)])
                                               (.ret [(.add (.V 45) (.N 1))])) 1
                                              (.sub (.ite (.lt (.rem (.sub (.mul (.sub (.V 17) (.V 13)) (.V 44)) (.mul (.sub (.V 16) (.V 12)) (.V 43))) (.N 10000)) (.N 0))
                                                (.ret [(.sub (.quo (.sub (.mul (.sub (.V 17) (.V 13)) (.V 44)) (.mul (.sub (.V 16) (.V 12)) (.V 43))) (.N 10000)) (.N 1)), (.add (.rem (.sub (.mul (.sub (.V 17) (.V 13)) (.V 44)) (.mul (.sub (.V 16) (.V 12)) (.V 43))) (.N 10000)) (.N 10000))])
                                                (.ret [(.quo (.sub (.mul (.sub (.V 17) (.V 13)) (.V 44)) (.mul (.sub (.V 16) (.V 12)) (.V 43))) (.N 10000)), (.rem (.sub (.mul (.sub (.V 17) (.V 13)) (.V 44)) (.mul (.sub (.V 16) (.V 12)) (.V 43))) (.N 10000))])) 2
                                               (.sub (.ite (.lt (.mul (.N 2) (.V 49)) (.N 10000))
                                                 (.ret [(.V 48)])
                                                 (.ret [(.add (.V 48) (.N 1))])) 1
                                                (.sub (.ite (.lt (.rem (.sub (.V 21) (.V 23)) (.N 3600)) (.N 0))
                                                  (.ret [(.add (.rem (.sub (.V 21) (.V 23)) (.N 3600)) (.N 3600))])
                                                  (.ret [(.rem (.sub (.V 21) (.V 23)) (.N 3600))])) 1
                                                 (.sub (.ite (.lt (.V 51) (.N 1800))
                                                   (.ret [(.V 51)])
                                                   (.ret [(.sub (.V 51) (.N 3600))])) 1
                                                  (.sub (.sub (.ite (.eq (.mx (.sub (.N 0) (.V 8)) (.mn (.V 36) (.V 8))) (.N 0))
                                                     (.ret [(.B true)])
                                                     (.ite (.beq (.lt (.N 0) (.mx (.sub (.N 0) (.V 8)) (.mn (.V 36) (.V 8)))) (.lt (.N 0) (.V 47)))
                                                      (.ret [(.not (.eq (.V 47) (.N 0)))])
                                                      (.ret [(.B false)]))) 1
                                                    (.ite (.V 53)
                                                     (.sub (.ite (.eq (.mx (.sub (.N 0) (.V 8)) (.mn (.V 39) (.V 8))) (.N 0))
                                                       (.ret [(.B true)])
                                                       (.ite (.beq (.lt (.N 0) (.mx (.sub (.N 0) (.V 8)) (.mn (.V 39) (.V 8)))) (.lt (.N 0) (.V 50)))
                                                        (.ret [(.not (.eq (.V 50) (.N 0)))])
                                                        (.ret [(.B false)]))) 1
                                                      (.ite (.V 54)
                                                       (.sub (.ite (.eq (.mx (.sub (.N 0) (.V 9)) (.mn (.V 42) (.V 9))) (.N 0))
                                                         (.ret [(.B true)])
                                                         (.ite (.beq (.lt (.N 0) (.mx (.sub (.N 0) (.V 9)) (.mn (.V 42) (.V 9)))) (.lt (.N 0) (.V 52)))
                                                          (.ret [(.not (.eq (.V 52) (.N 0)))])
                                                          (.ret [(.B false)]))) 1
                                                        (.ite (.V 55)
                                                         (.call 15 [] 1
                                                          (.ret [(.V 56)]))
                                                         (.ret [(.B false)])))
                                                       (.ret [(.B false)])))
                                                     (.ret [(.B false)]))) 1
                                                   (.ret [(.V 53)])))))))))))))))))))))))))))))))))))))))))))))))))))
set_option maxRecDepth 100000 in
theorem directs_t : runS Try.prog [srcGains_K.to [some (0, 1000), some (0, 5), some (0, 500), some (0, 100), some (0, 3), some (0, 70), some (0, 10000), some (0, 60), some (0, 3000), none, some (0, 600)], srcPoint_K.to [some (-100000000, 100000000), some (-100000000, 100000000), none, some (0, 600)], fxSin_K.to [some (-10000, 10000)], fxCos_K.to [some (-10000, 10000)], sane24_K.to []] [] directs_K = directs_T := by kernel_rfl
end Go.Proofs.Ythfagiihfkjamaa
