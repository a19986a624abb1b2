/- The tree of ControlShifts. -/
import Derived.Test.YthfagiihfkjamaaSane24
import Derived.Test.YthfagiihfkjamaaKeepF
import Derived.Test.YthfagiihfkjamaaDemF
set_option linter.unusedVariables false
namespace Go.Proofs.Ythfagiihfkjamaa
open Go.RowKit Fx
def shifts_K : Con := ⟨6, [.val false [.sl [.int .i64]], .val false [.int .i16], .val false [.int .i16]], [.val false [.bool]], [none, some (-32768, 32767), some (-32768, 32767)]⟩
def shifts_T : T (List X) :=
  (.ite (.lt (.N 600) (.len (.V 0)))
  (.call 15 [] 1
   (.ret [(.V 3)]))
  (.need (.not (.lt (.len (.V 0)) (.mn (.len (.V 0)) (.N 600))))
   (.call 17 [(.take (.V 0) (.mn (.len (.V 0)) (.N 600))), (.N 0)] 11
    (.need (.and (.not (.lt (.V 3) (.N 0))) (.not (.lt (.N 1000) (.V 3))))
     (.need (.and (.not (.lt (.V 4) (.N 0))) (.not (.lt (.N 5) (.V 4))))
      (.need (.and (.not (.lt (.V 5) (.N 0))) (.not (.lt (.N 500) (.V 5))))
       (.need (.and (.not (.lt (.V 6) (.N 0))) (.not (.lt (.N 100) (.V 6))))
        (.need (.and (.not (.lt (.V 7) (.N 0))) (.not (.lt (.N 3) (.V 7))))
         (.need (.and (.not (.lt (.V 8) (.N 0))) (.not (.lt (.N 70) (.V 8))))
          (.need (.and (.not (.lt (.V 9) (.N 0))) (.not (.lt (.N 10000) (.V 9))))
           (.need (.and (.not (.lt (.V 10) (.N 0))) (.not (.lt (.N 60) (.V 10))))
            (.need (.and (.not (.lt (.V 11) (.N 0))) (.not (.lt (.N 3000) (.V 11))))
             (.need (.and (.not (.lt (.V 13) (.N 0))) (.not (.lt (.N 600) (.V 13))))
              (.call 18 [(.V 12), (.V 13), (.V 3), (.V 4), (.V 5), (.V 6), (.V 7), (.V 8), (.V 9), (.V 10), (.V 11)] 9
               (.need (.and (.not (.lt (.V 14) (.N (-10000)))) (.not (.lt (.N 10000) (.V 14))))
                (.need (.and (.not (.lt (.V 15) (.N (-10000)))) (.not (.lt (.N 10000) (.V 15))))
                 (.need (.and (.not (.lt (.V 16) (.N (-10000)))) (.not (.lt (.N 10000) (.V 16))))
                  (.need (.and (.not (.lt (.V 17) (.N (-500)))) (.not (.lt (.N 500) (.V 17))))
                   (.need (.and (.not (.lt (.V 18) (.N (-500)))) (.not (.lt (.N 500) (.V 18))))
                    (.need (.and (.not (.lt (.V 19) (.N 0))) (.not (.lt (.N 3599) (.V 19))))
                     (.need (.and (.not (.lt (.V 22) (.N 0))) (.not (.lt (.N 600) (.V 22))))
                      (.sub (.ite (.lt (.V 22) (.len (.V 21)))
                        (.need (.lt (.sub (.add (.V 22) (.N 1)) (.N 1)) (.len (.V 21)))
                         (.ret [(.add (.V 22) (.N 1)), (.rem (.add (.rem (.at (.V 21) (.sub (.add (.V 22) (.N 1)) (.N 1)) 0) (.N 1801)) (.N 1801)) (.N 1801))]))
                        (.ret [(.V 22), (.N 0)])) 2
                       (.sub (.ite (.lt (.V 23) (.len (.V 21)))
                         (.need (.lt (.sub (.add (.V 23) (.N 1)) (.N 1)) (.len (.V 21)))
                          (.ret [(.add (.V 23) (.N 1)), (.rem (.add (.rem (.at (.V 21) (.sub (.add (.V 23) (.N 1)) (.N 1)) 0) (.N 1801)) (.N 1801)) (.N 1801))]))
                         (.ret [(.V 23), (.N 0)])) 2
                        (.sub (.ite (.lt (.V 25) (.len (.V 21)))
                          (.need (.lt (.sub (.add (.V 25) (.N 1)) (.N 1)) (.len (.V 21)))
                           (.ret [(.add (.V 25) (.N 1)), (.rem (.add (.rem (.at (.V 21) (.sub (.add (.V 25) (.N 1)) (.N 1)) 0) (.N 1801)) (.N 1801)) (.N 1801))]))
                          (.ret [(.V 25), (.N 0)])) 2
                         (.sub (.ite (.lt (.V 27) (.len (.V 21)))
                           (.need (.lt (.sub (.add (.V 27) (.N 1)) (.N 1)) (.len (.V 21)))
                            (.ret [(.add (.V 27) (.N 1)), (.rem (.add (.rem (.at (.V 21) (.sub (.add (.V 27) (.N 1)) (.N 1)) 0) (.N 3600)) (.N 3600)) (.N 3600))]))
                           (.ret [(.V 27), (.N 0)])) 2
                          (.sub (.ite (.lt (.V 29) (.len (.V 21)))
                            (.need (.lt (.sub (.add (.V 29) (.N 1)) (.N 1)) (.len (.V 21)))
                             (.ret [(.add (.V 29) (.N 1)), (.rem (.add (.rem (.at (.V 21) (.sub (.add (.V 29) (.N 1)) (.N 1)) 0) (.N 3600)) (.N 3600)) (.N 3600))]))
                            (.ret [(.V 29), (.N 0)])) 2
                           (.call 26 [(.V 3), (.V 4), (.V 5), (.V 6), (.V 7), (.V 8), (.V 9), (.V 10), (.V 11), (.V 14), (.V 15), (.V 16), (.V 17), (.V 18), (.V 19), (.V 20), (.add (.N (-900)) (.V 24)), (.add (.N (-900)) (.V 26)), (.V 32), (.add (.N (-900)) (.V 28)), (.N 0), (.V 30)] 11
                            (.need (.and (.not (.lt (.V 33) (.N (-60)))) (.not (.lt (.N 60) (.V 33))))
                             (.need (.and (.not (.lt (.V 34) (.N (-60)))) (.not (.lt (.N 60) (.V 34))))
                              (.need (.and (.not (.lt (.V 35) (.N (-3000)))) (.not (.lt (.N 3000) (.V 35))))
                               (.need (.and (.not (.lt (.V 36) (.N (-10000)))) (.not (.lt (.N 10000) (.V 36))))
                                (.need (.and (.not (.lt (.V 37) (.N (-10000)))) (.not (.lt (.N 10000) (.V 37))))
                                 (.need (.and (.not (.lt (.V 38) (.N (-10000)))) (.not (.lt (.N 10000) (.V 38))))
                                  (.need (.and (.not (.lt (.V 39) (.N (-100000000)))) (.not (.lt (.N 100000000) (.V 39))))
                                   (.need (.and (.not (.lt (.V 40) (.N (-100000000)))) (.not (.lt (.N 100000000) (.V 40))))
                                    (.need (.and (.not (.lt (.V 41) (.N 0))) (.not (.lt (.N 3599) (.V 41))))
                                     (.need (.and (.not (.lt (.V 43) (.N 0))) (.not (.lt (.N 0) (.V 43))))
                                      (.call 26 [(.V 3), (.V 4), (.V 5), (.V 6), (.V 7), (.V 8), (.V 9), (.V 10), (.V 11), (.V 14), (.V 15), (.V 16), (.add (.V 17) (.V 1)), (.add (.V 18) (.V 2)), (.V 19), (.V 20), (.add (.add (.N (-900)) (.V 24)) (.V 1)), (.add (.add (.N (-900)) (.V 26)) (.V 2)), (.V 32), (.add (.add (.N (-900)) (.V 28)) (.V 1)), (.add (.N 0) (.V 2)), (.V 30)] 11
                                       (.need (.and (.not (.lt (.V 44) (.N (-60)))) (.not (.lt (.N 60) (.V 44))))
                                        (.need (.and (.not (.lt (.V 45) (.N (-60)))) (.not (.lt (.N 60) (.V 45))))
                                         (.need (.and (.not (.lt (.V 46) (.N (-3000)))) (.not (.lt (.N 3000) (.V 46))))
                                          (.need (.and (.not (.lt (.V 47) (.N (-10000)))) (.not (.lt (.N 10000) (.V 47))))
                                           (.need (.and (.not (.lt (.V 48) (.N (-10000)))) (.not (.lt (.N 10000) (.V 48))))
                                            (.need (.and (.not (.lt (.V 49) (.N (-10000)))) (.not (.lt (.N 10000) (.V 49))))
                                             (.need (.and (.not (.lt (.V 50) (.N (-100000000)))) (.not (.lt (.N 100000000) (.V 50))))
                                              (.need (.and (.not (.lt (.V 51) (.N (-100000000)))) (.not (.lt (.N 100000000) (.V 51))))
                                               (.need (.and (.not (.lt (.V 52) (.N 0))) (.not (.lt (.N 3599) (.V 52))))
                                                (.need (.and (.not (.lt (.V 54) (.N 0))) (.not (.lt (.N 0) (.V 54))))
                                                 (.sub (.ite (.and (.eq (.V 33) (.V 44)) (.and (.eq (.V 34) (.V 45)) (.eq (.V 35) (.V 46))))
                                                   (.ite (.eq (.V 36) (.V 47))
                                                    (.ite (.eq (.V 37) (.V 48))
                                                     (.ite (.eq (.V 38) (.V 49))
                                                      (.call 15 [] 1
                                                       (.ret [(.V 55)]))
                                                      (.ret [(.B false)]))
                                                     (.ret [(.B false)]))
                                                    (.ret [(.B false)]))
                                                   (.ret [(.B false)])) 1
                                                  (.ret [(.V 55)]))))))))))))))))))))))))))))))))))))))))))))))))))
set_option maxRecDepth 100000 in
theorem shifts_t : runS Try.prog [srcGains_K.to [some (0, 1000), some (0, 5), some (0, 500), some (0, 100), some (0, 3), some (0, 70), some (0, 10000), some (0, 60), some (0, 3000), none, some (0, 600)], srcKeeper_K.to [some (-10000, 10000), some (-10000, 10000), some (-10000, 10000), some (-500, 500), some (-500, 500), some (0, 3599), none, none, some (0, 600)], demand_K.to [some (-60, 60), some (-60, 60), some (-3000, 3000), some (-10000, 10000), some (-10000, 10000), some (-10000, 10000), some (-100000000, 100000000), some (-100000000, 100000000), some (0, 3599), none, some (0, 0)], sane24_K.to []] [] shifts_K = shifts_T := by kernel_rfl
end Go.Proofs.Ythfagiihfkjamaa
