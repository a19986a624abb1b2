/- The tree of ControlRests. -/
import Derived.Test.YthfagiihfkjamaaSane24
import Derived.Test.YthfagiihfkjamaaSinF
set_option linter.unusedVariables false
namespace Go.Proofs.Ythfagiihfkjamaa
open Go.RowKit Fx
def rests_K : Con := ⟨4, [.val false [.sl [.int .i64]]], [.val false [.bool]], []⟩
def rests_T : T (List X) :=
  (.ite (.lt (.N 600) (.len (.V 0)))
  (.call 15 [] 1
   (.ret [(.V 1)]))
  (.need (.not (.lt (.len (.V 0)) (.mn (.len (.V 0)) (.N 600))))
   (.call 17 [(.take (.V 0) (.mn (.len (.V 0)) (.N 600))), (.N 0)] 11
    (.need (.and (.not (.lt (.V 1) (.N 0))) (.not (.lt (.N 1000) (.V 1))))
     (.need (.and (.not (.lt (.V 2) (.N 0))) (.not (.lt (.N 5) (.V 2))))
      (.need (.and (.not (.lt (.V 3) (.N 0))) (.not (.lt (.N 500) (.V 3))))
       (.need (.and (.not (.lt (.V 4) (.N 0))) (.not (.lt (.N 100) (.V 4))))
        (.need (.and (.not (.lt (.V 5) (.N 0))) (.not (.lt (.N 3) (.V 5))))
         (.need (.and (.not (.lt (.V 6) (.N 0))) (.not (.lt (.N 70) (.V 6))))
          (.need (.and (.not (.lt (.V 7) (.N 0))) (.not (.lt (.N 10000) (.V 7))))
           (.need (.and (.not (.lt (.V 8) (.N 0))) (.not (.lt (.N 60) (.V 8))))
            (.need (.and (.not (.lt (.V 9) (.N 0))) (.not (.lt (.N 3000) (.V 9))))
             (.need (.and (.not (.lt (.V 11) (.N 0))) (.not (.lt (.N 600) (.V 11))))
              (.call 19 [(.V 10), (.V 11)] 4
               (.need (.and (.not (.lt (.V 12) (.N (-100000000)))) (.not (.lt (.N 100000000) (.V 12))))
                (.need (.and (.not (.lt (.V 13) (.N (-100000000)))) (.not (.lt (.N 100000000) (.V 13))))
                 (.need (.and (.not (.lt (.V 15) (.N 0))) (.not (.lt (.N 600) (.V 15))))
                  (.sub (.ite (.lt (.V 15) (.len (.V 14)))
                    (.need (.lt (.sub (.add (.V 15) (.N 1)) (.N 1)) (.len (.V 14)))
                     (.ret [(.add (.V 15) (.N 1)), (.rem (.add (.rem (.at (.V 14) (.sub (.add (.V 15) (.N 1)) (.N 1)) 0) (.N 3600)) (.N 3600)) (.N 3600))]))
                    (.ret [(.V 15), (.N 0)])) 2
                   (.sub (.ite (.lt (.V 16) (.len (.V 14)))
                     (.need (.lt (.sub (.add (.V 16) (.N 1)) (.N 1)) (.len (.V 14)))
                      (.ret [(.add (.V 16) (.N 1)), (.rem (.add (.rem (.at (.V 14) (.sub (.add (.V 16) (.N 1)) (.N 1)) 0) (.N 2)) (.N 2)) (.N 2))]))
                     (.ret [(.V 16), (.N 0)])) 2
                    (.call 62 [(.V 17)] 1
                     (.need (.and (.not (.lt (.V 20) (.N (-10000)))) (.not (.lt (.N 10000) (.V 20))))
                      (.call 63 [(.V 17)] 1
                       (.need (.and (.not (.lt (.V 21) (.N (-10000)))) (.not (.lt (.N 10000) (.V 21))))
                        (.sub (.ite (.eq (.V 19) (.N 1))
                          (.call 62 [(.V 17)] 1
                           (.need (.and (.not (.lt (.V 22) (.N (-10000)))) (.not (.lt (.N 10000) (.V 22))))
                            (.call 63 [(.V 17)] 1
                             (.need (.and (.not (.lt (.V 23) (.N (-10000)))) (.not (.lt (.N 10000) (.V 23))))
                              (.ret [])))))
                          (.ret [])) 0
                         (.sub (.ite (.beq (.B true) (.B true))
                           (.call 15 [] 1
                            (.ret [(.V 22)]))
                           (.ret [(.B false)])) 1
                          (.ret [(.V 22)]))))))))))))))))))))))))))
set_option maxRecDepth 100000 in
theorem rests_t : runS Try.prog [srcGains_K.to [some (0, 1000), some (0, 5), some (0, 500), some (0, 100), some (0, 3), some (0, 70), some (0, 10000), some (0, 60), some (0, 3000), none, some (0, 600)], srcPoint_K.to [some (-100000000, 100000000), some (-100000000, 100000000), none, some (0, 600)], fxSin_K.to [some (-10000, 10000)], fxCos_K.to [some (-10000, 10000)], sane24_K.to []] [] rests_K = rests_T := by kernel_rfl
end Go.Proofs.Ythfagiihfkjamaa
