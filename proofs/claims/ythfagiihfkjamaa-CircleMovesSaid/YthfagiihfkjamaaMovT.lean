/- The tree of CircleMoves. -/
import Derived.Test.YthfagiihfkjamaaSane29
import Derived.Test.YthfagiihfkjamaaZoneF
set_option linter.unusedVariables false
namespace Go.Proofs.Ythfagiihfkjamaa
open Go.RowKit Fx
def moves_K : Con := ⟨13, [.val false [.sl [.int .i64]], .val false [.int .i16], .val false [.int .i16]], [.val false [.bool]], [none, some (-32768, 32767), some (-32768, 32767)]⟩
def moves_T : T (List X) :=
  (.ite (.lt (.N 600) (.len (.V 0)))
  (.call 35 [] 1
   (.ret [(.V 3)]))
  (.need (.not (.lt (.len (.V 0)) (.mn (.len (.V 0)) (.N 600))))
   (.call 36 [(.take (.V 0) (.mn (.len (.V 0)) (.N 600))), (.N 0)] 6
    (.need (.and (.not (.lt (.V 3) (.N 0))) (.not (.lt (.N 200) (.V 3))))
     (.need (.and (.not (.lt (.V 4) (.N (-100)))) (.not (.lt (.N 0) (.V 4))))
      (.need (.and (.not (.lt (.V 5) (.N 0))) (.not (.lt (.N 5000) (.V 5))))
       (.need (.and (.not (.lt (.V 6) (.N 0))) (.not (.lt (.N 5000) (.V 6))))
        (.need (.and (.not (.lt (.V 8) (.N 0))) (.not (.lt (.N 600) (.V 8))))
         (.call 39 [(.V 7), (.V 8), (.N 0)] 7
          (.need (.and (.not (.lt (.V 9) (.N (-700)))) (.not (.lt (.N 5000) (.V 9))))
           (.need (.and (.not (.lt (.V 10) (.N (-100)))) (.not (.lt (.N 400) (.V 10))))
            (.need (.and (.not (.lt (.V 11) (.N 0))) (.not (.lt (.N 900) (.V 11))))
             (.need (.and (.not (.lt (.V 13) (.N 0))) (.not (.lt (.N 2) (.V 13))))
              (.need (.and (.not (.lt (.V 15) (.N 0))) (.not (.lt (.N 600) (.V 15))))
               (.sub (.ite (.lt (.V 15) (.len (.V 14)))
                 (.need (.lt (.sub (.add (.V 15) (.N 1)) (.N 1)) (.len (.V 14)))
                  (.ret [(.add (.V 15) (.N 1)), (.rem (.add (.rem (.at (.V 14) (.sub (.add (.V 15) (.N 1)) (.N 1)) 0) (.N 2)) (.N 2)) (.N 2))]))
                 (.ret [(.V 15), (.N 0)])) 2
                (.sub (.call 40 [(.V 3), (.V 4), (.V 5), (.V 6), (.V 9), (.V 10), (.V 11), (.V 12), (.add (.N 1) (.V 17))] 1
                  (.call 40 [(.add (.V 3) (.V 1)), (.add (.V 4) (.V 2)), (.V 5), (.V 6), (.add (.V 9) (.V 1)), (.add (.V 10) (.V 2)), (.V 11), (.V 12), (.add (.N 1) (.V 17))] 1
                   (.ite (.eq (.V 18) (.V 19))
                    (.call 42 [(.V 3), (.V 4), (.V 5), (.V 6), (.V 9), (.V 10), (.V 11), (.V 12), (.add (.N 1) (.V 17))] 1
                     (.call 42 [(.add (.V 3) (.V 1)), (.add (.V 4) (.V 2)), (.V 5), (.V 6), (.add (.V 9) (.V 1)), (.add (.V 10) (.V 2)), (.V 11), (.V 12), (.add (.N 1) (.V 17))] 1
                      (.ite (.eq (.V 20) (.V 21))
                       (.call 40 [(.V 3), (.V 4), (.V 5), (.V 6), (.V 9), (.V 10), (.V 11), (.V 12), (.add (.N 1) (.V 17))] 1
                        (.call 40 [(.sub (.N 0) (.V 3)), (.V 4), (.V 5), (.V 6), (.sub (.N 0) (.V 9)), (.V 10), (.V 11), (.V 12), (.add (.N 1) (.V 17))] 1
                         (.ite (.eq (.V 22) (.V 23))
                          (.call 44 [(.V 3), (.V 4), (.V 5), (.V 6), (.V 9), (.V 10), (.V 11), (.V 12), (.add (.N 1) (.V 17))] 1
                           (.call 44 [(.sub (.N 0) (.V 3)), (.V 4), (.V 5), (.V 6), (.sub (.N 0) (.V 9)), (.V 10), (.V 11), (.V 12), (.add (.N 1) (.V 17))] 1
                            (.ite (.eq (.V 24) (.V 25))
                             (.call 35 [] 1
                              (.ret [(.V 26)]))
                             (.ret [(.B false)]))))
                          (.ret [(.B false)]))))
                       (.ret [(.B false)]))))
                    (.ret [(.B false)])))) 1
                 (.ret [(.V 18)])))))))))))))))))
set_option maxRecDepth 100000 in
theorem moves_t : runS Try.prog [srcCircle_K.to [some (0, 200), some (-100, 0), some (0, 5000), some (0, 5000), none, some (0, 600)], srcEst_K.to [some (-700, 5000), some (-100, 400), some (0, 900), none, some (0, 2), none, some (0, 600)], fxFar_K.to [], fxClose_K.to [], fxWorst_K.to [], sane29_K.to []] [] moves_K = moves_T := by kernel_rfl
end Go.Proofs.Ythfagiihfkjamaa
