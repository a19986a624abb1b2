/- The tree of ControlBounds. -/
import Derived.Test.YthfagiihfkjamaaSane24
import Derived.Test.YthfagiihfkjamaaKeepF
import Derived.Test.YthfagiihfkjamaaDemF
set_option linter.unusedVariables false
namespace Go.Proofs.Ythfagiihfkjamaa
open Go.RowKit Fx
def bounds_K : Con := ⟨5, [.val false [.sl [.int .i64]]], [.val false [.bool]], []⟩
def bounds_T : T (List X) :=
  (.ite (.lt (.N 600) (.len (.V 0)))
  (.call 15 [] 1
   (.ret [(.V 1)]))
  (.need (.not (.lt (.len (.V 0)) (.mn (.len (.V 0)) (.N 600))))
   (.call 17 [(.take (.V 0) (.mn (.len (.V 0)) (.N 600))), (.N 0)] 11
    (.need (.and (.not (.lt (.V 1) (.N 0))) (.not (.lt (.N 1000) (.V 1))))
     (.need (.and (.not (.lt (.V 2) (.N 0))) (.not (.lt (.N 5) (.V 2))))
      (.need (.and (.not (.lt (.V 3) (.N 0))) (.not (.lt (.N 500) (.V 3))))
       (.need (.and (.not (.lt (.V 4) (.N 0))) (.not (.lt (.N 100) (.V 4))))
        (.need (.and (.not (.lt (.V 5) (.N 0))) (.not (.lt (.N 3) (.V 5))))
         (.need (.and (.not (.lt (.V 6) (.N 0))) (.not (.lt (.N 70) (.V 6))))
          (.need (.and (.not (.lt (.V 7) (.N 0))) (.not (.lt (.N 10000) (.V 7))))
           (.need (.and (.not (.lt (.V 8) (.N 0))) (.not (.lt (.N 60) (.V 8))))
            (.need (.and (.not (.lt (.V 9) (.N 0))) (.not (.lt (.N 3000) (.V 9))))
             (.need (.and (.not (.lt (.V 11) (.N 0))) (.not (.lt (.N 600) (.V 11))))
              (.call 18 [(.V 10), (.V 11), (.V 1), (.V 2), (.V 3), (.V 4), (.V 5), (.V 6), (.V 7), (.V 8), (.V 9)] 9
               (.need (.and (.not (.lt (.V 12) (.N (-10000)))) (.not (.lt (.N 10000) (.V 12))))
                (.need (.and (.not (.lt (.V 13) (.N (-10000)))) (.not (.lt (.N 10000) (.V 13))))
                 (.need (.and (.not (.lt (.V 14) (.N (-10000)))) (.not (.lt (.N 10000) (.V 14))))
                  (.need (.and (.not (.lt (.V 15) (.N (-500)))) (.not (.lt (.N 500) (.V 15))))
                   (.need (.and (.not (.lt (.V 16) (.N (-500)))) (.not (.lt (.N 500) (.V 16))))
                    (.need (.and (.not (.lt (.V 17) (.N 0))) (.not (.lt (.N 3599) (.V 17))))
                     (.need (.and (.not (.lt (.V 20) (.N 0))) (.not (.lt (.N 600) (.V 20))))
                      (.call 19 [(.V 19), (.V 20)] 4
                       (.need (.and (.not (.lt (.V 21) (.N (-100000000)))) (.not (.lt (.N 100000000) (.V 21))))
                        (.need (.and (.not (.lt (.V 22) (.N (-100000000)))) (.not (.lt (.N 100000000) (.V 22))))
                         (.need (.and (.not (.lt (.V 24) (.N 0))) (.not (.lt (.N 600) (.V 24))))
                          (.sub (.ite (.lt (.V 24) (.len (.V 23)))
                            (.need (.lt (.sub (.add (.V 24) (.N 1)) (.N 1)) (.len (.V 23)))
                             (.ret [(.add (.V 24) (.N 1)), (.rem (.add (.rem (.at (.V 23) (.sub (.add (.V 24) (.N 1)) (.N 1)) 0) (.N 3600)) (.N 3600)) (.N 3600))]))
                            (.ret [(.V 24), (.N 0)])) 2
                           (.loop [(.V 23), (.V 25), (.V 12), (.V 13), (.V 14), (.V 15), (.V 16), (.V 17), (.V 18), (.N 0)]
                            (.ite (.lt (.V 36) (.N 12))
                             (.call 19 [(.V 27), (.V 28)] 4
                              (.need (.and (.not (.lt (.V 37) (.N (-100000000)))) (.not (.lt (.N 100000000) (.V 37))))
                               (.need (.and (.not (.lt (.V 38) (.N (-100000000)))) (.not (.lt (.N 100000000) (.V 38))))
                                (.need (.and (.not (.lt (.V 40) (.N 0))) (.not (.lt (.N 600) (.V 40))))
                                 (.sub (.ite (.lt (.V 40) (.len (.V 39)))
                                   (.need (.lt (.sub (.add (.V 40) (.N 1)) (.N 1)) (.len (.V 39)))
                                    (.ret [(.add (.V 40) (.N 1)), (.rem (.add (.rem (.at (.V 39) (.sub (.add (.V 40) (.N 1)) (.N 1)) 0) (.N 3600)) (.N 3600)) (.N 3600))]))
                                   (.ret [(.V 40), (.N 0)])) 2
                                  (.call 26 [(.V 1), (.V 2), (.V 3), (.V 4), (.V 5), (.V 6), (.V 7), (.V 8), (.V 9), (.V 29), (.V 30), (.V 31), (.V 32), (.V 33), (.V 34), (.V 35), (.V 37), (.V 38), (.V 42), (.V 21), (.V 22), (.V 26)] 11
                                   (.need (.and (.not (.lt (.V 43) (.N (-60)))) (.not (.lt (.N 60) (.V 43))))
                                    (.need (.and (.not (.lt (.V 44) (.N (-60)))) (.not (.lt (.N 60) (.V 44))))
                                     (.need (.and (.not (.lt (.V 45) (.N (-3000)))) (.not (.lt (.N 3000) (.V 45))))
                                      (.need (.and (.not (.lt (.V 46) (.N (-10000)))) (.not (.lt (.N 10000) (.V 46))))
                                       (.need (.and (.not (.lt (.V 47) (.N (-10000)))) (.not (.lt (.N 10000) (.V 47))))
                                        (.need (.and (.not (.lt (.V 48) (.N (-10000)))) (.not (.lt (.N 10000) (.V 48))))
                                         (.need (.and (.not (.lt (.V 49) (.N (-100000000)))) (.not (.lt (.N 100000000) (.V 49))))
                                          (.need (.and (.not (.lt (.V 50) (.N (-100000000)))) (.not (.lt (.N 100000000) (.V 50))))
                                           (.need (.and (.not (.lt (.V 51) (.N 0))) (.not (.lt (.N 3599) (.V 51))))
                                            (.need (.and (.not (.lt (.V 53) (.N 0))) (.not (.lt (.N 0) (.V 53))))
                                             (.sub (.sub (.sub (.ite (.lt (.V 46) (.sub (.N 0) (.V 7)))
                                                 (.ret [(.B false)])
                                                 (.ret [(.not (.lt (.V 7) (.V 46)))])) 1
                                                (.ite (.V 54)
                                                 (.sub (.ite (.lt (.V 47) (.sub (.N 0) (.V 7)))
                                                   (.ret [(.B false)])
                                                   (.ret [(.not (.lt (.V 7) (.V 47)))])) 1
                                                  (.ite (.V 55)
                                                   (.sub (.ite (.lt (.V 48) (.sub (.N 0) (.V 7)))
                                                     (.ret [(.B false)])
                                                     (.ret [(.not (.lt (.V 7) (.V 48)))])) 1
                                                    (.ite (.V 56)
                                                     (.ret [(.B true)])
                                                     (.ret [(.B false)])))
                                                   (.ret [(.B false)])))
                                                 (.ret [(.B false)]))) 1
                                               (.ite (.V 54)
                                                (.ite (.lt (.V 8) (.mx (.mx (.mx (.V 43) (.sub (.N 0) (.V 43))) (.V 44)) (.sub (.N 0) (.V 44))))
                                                 (.ret [(.V 54), (.not (.V 54)), (.not (.V 54)), (.not (.V 54)), (.lt (.V 8) (.mx (.mx (.mx (.V 43) (.sub (.N 0) (.V 43))) (.V 44)) (.sub (.N 0) (.V 44)))), (.lt (.V 8) (.mx (.mx (.mx (.V 43) (.sub (.N 0) (.V 43))) (.V 44)) (.sub (.N 0) (.V 44)))), (.B true)])
                                                 (.ret [(.V 54), (.not (.V 54)), (.not (.V 54)), (.not (.V 54)), (.lt (.V 8) (.mx (.mx (.mx (.V 43) (.sub (.N 0) (.V 43))) (.V 44)) (.sub (.N 0) (.V 44)))), (.lt (.V 8) (.mx (.mx (.mx (.V 43) (.sub (.N 0) (.V 43))) (.V 44)) (.sub (.N 0) (.V 44)))), (.lt (.V 9) (.mx (.V 45) (.sub (.N 0) (.V 45))))]))
                                                (.ret [(.V 54), (.not (.V 54)), (.not (.V 54)), (.not (.V 54)), (.B true), (.B true), (.B true)]))) 7
                                              (.ite (.V 60)
                                               (.ret (false, [(.N 0), (.V 39), (.V 41), (.V 29), (.V 30), (.V 31), (.V 32), (.V 33), (.V 34), (.V 35)]))
                                               (.ret (true, [(.V 39), (.V 41), (.V 46), (.V 47), (.V 48), (.V 49), (.V 50), (.V 51), (.V 52), (.add (.V 36) (.N 1))]))))))))))))))))))))
                             (.ret (false, [(.N 1), (.V 27), (.V 28), (.V 29), (.V 30), (.V 31), (.V 32), (.V 33), (.V 34), (.V 35)]))) 10
                            (.ite (.eq (.V 27) (.N 0))
                             (.ret [(.B false)])
                             (.call 15 [] 1
                              (.ret [(.V 37)]))))))))))))))))))))))))))))))
set_option maxRecDepth 100000 in
theorem bounds_t : runS Try.prog [srcGains_K.to [some (0, 1000), some (0, 5), some (0, 500), some (0, 100), some (0, 3), some (0, 70), some (0, 10000), some (0, 60), some (0, 3000), none, some (0, 600)], srcKeeper_K.to [some (-10000, 10000), some (-10000, 10000), some (-10000, 10000), some (-500, 500), some (-500, 500), some (0, 3599), none, none, some (0, 600)], srcPoint_K.to [some (-100000000, 100000000), some (-100000000, 100000000), none, some (0, 600)], demand_K.to [some (-60, 60), some (-60, 60), some (-3000, 3000), some (-10000, 10000), some (-10000, 10000), some (-10000, 10000), some (-100000000, 100000000), some (-100000000, 100000000), some (0, 3599), none, some (0, 0)], sane24_K.to []] [5] bounds_K = bounds_T := by kernel_rfl
end Go.Proofs.Ythfagiihfkjamaa
