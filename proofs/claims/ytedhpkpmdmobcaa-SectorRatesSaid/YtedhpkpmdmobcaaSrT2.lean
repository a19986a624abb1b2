/- The tree of SectorRates. -/
import Derived.Test.YtedhpkpmdmobcaaSN
import Derived.Test.YtedhpkpmdmobcaaSane11
set_option linter.unusedVariables false
namespace Go.Proofs.Ytedhpkpmdmobcaa
open Go.RowKit Fx
def sRates_K : Con := ⟨5, [.val false [.sl [.int .i64]]], [.val false [.bool]], []⟩
def sRates_T : T (List X) :=
  (.need (.not (.lt (.len (.V 0)) (.mn (.len (.V 0)) (.N 600))))
  (.call 12 [(.take (.V 0) (.mn (.len (.V 0)) (.N 600))), (.N 0), (.N 41)] 3
   (.call 12 [(.V 2), (.V 3), (.N 40)] 3
    (.call 12 [(.V 5), (.V 6), (.N 121)] 3
     (.call 12 [(.V 8), (.V 9), (.N 20)] 3
      (.sub (.sub (.sub (.ite (.lt (.wr .i64 (.add (.N (-30)) (.V 1))) (.N (-1000000000)))
          (.ret [(.B true)])
          (.ret [(.lt (.N 1000000000) (.wr .i64 (.add (.N (-30)) (.V 1))))])) 1
         (.ite (.V 13)
          (.ret [(.N 0)])
          (.sub (.ite (.lt (.wr .i64 (.add (.wr .i64 (.add (.N (-30)) (.V 1))) (.V 4))) (.N (-1000000000)))
            (.ret [(.B true)])
            (.ret [(.lt (.N 1000000000) (.wr .i64 (.add (.wr .i64 (.add (.N (-30)) (.V 1))) (.V 4))))])) 1
           (.ite (.V 14)
            (.ret [(.N 0)])
            (.sub (.ite (.lt (.wr .i64 (.add (.N (-60)) (.V 7))) (.N (-1000000000)))
              (.ret [(.B true)])
              (.ret [(.lt (.N 1000000000) (.wr .i64 (.add (.N (-60)) (.V 7))))])) 1
             (.ite (.V 15)
              (.ret [(.N 0)])
              (.sub (.ite (.lt (.V 10) (.N (-1000000000)))
                (.ret [(.B true)])
                (.ret [(.lt (.N 1000000000) (.V 10))])) 1
               (.ite (.V 16)
                (.ret [(.N 0)])
                (.ret [(.N 1)]))))))))) 1
        (.ite (.eq (.V 13) (.N 0))
         (.ret [(.wr .i64 (.add (.N (-30)) (.V 1))), (.wr .i64 (.add (.wr .i64 (.add (.N (-30)) (.V 1))) (.V 4)))])
         (.sub (.ite (.lt (.wr .i64 (.add (.wr .i64 (.add (.N (-30)) (.V 1))) (.V 4))) (.wr .i64 (.add (.N (-30)) (.V 1))))
           (.ret [(.B true)])
           (.ret [(.lt (.V 10) (.N 0))])) 1
          (.ite (.V 14)
           (.ret [(.wr .i64 (.add (.N (-30)) (.V 1))), (.wr .i64 (.add (.wr .i64 (.add (.N (-30)) (.V 1))) (.V 4)))])
           (.ite (.lt (.wr .i64 (.add (.wr .i64 (.add (.N (-60)) (.V 7))) (.V 10))) (.wr .i64 (.add (.N (-30)) (.V 1))))
            (.ret [(.wr .i64 (.add (.N (-30)) (.V 1))), (.wr .i64 (.add (.N (-30)) (.V 1)))])
            (.ite (.lt (.wr .i64 (.add (.wr .i64 (.add (.N (-30)) (.V 1))) (.V 4))) (.wr .i64 (.sub (.wr .i64 (.add (.N (-60)) (.V 7))) (.V 10))))
             (.ret [(.wr .i64 (.add (.wr .i64 (.add (.N (-30)) (.V 1))) (.V 4))), (.wr .i64 (.add (.wr .i64 (.add (.N (-30)) (.V 1))) (.V 4)))])
             (.ret [(.mx (.wr .i64 (.add (.N (-30)) (.V 1))) (.wr .i64 (.sub (.wr .i64 (.add (.N (-60)) (.V 7))) (.V 10)))), (.mn (.wr .i64 (.add (.wr .i64 (.add (.N (-30)) (.V 1))) (.V 4))) (.wr .i64 (.add (.wr .i64 (.add (.N (-60)) (.V 7))) (.V 10))))]))))))) 2
       (.sub (.ite (.lt (.V 14) (.V 13))
         (.ret [(.B true)])
         (.ite (.lt (.V 13) (.wr .i64 (.add (.N (-30)) (.V 1))))
          (.ret [(.B true)])
          (.ret [(.lt (.wr .i64 (.add (.wr .i64 (.add (.N (-30)) (.V 1))) (.V 4))) (.V 14))]))) 1
        (.ite (.V 15)
         (.ret [(.B false)])
         (.sub (.ite (.lt (.wr .i64 (.add (.wr .i64 (.add (.N (-60)) (.V 7))) (.V 10))) (.wr .i64 (.add (.N (-30)) (.V 1))))
           (.ret [(.B true)])
           (.ret [(.lt (.wr .i64 (.add (.wr .i64 (.add (.N (-30)) (.V 1))) (.V 4))) (.wr .i64 (.sub (.wr .i64 (.add (.N (-60)) (.V 7))) (.V 10))))])) 1
          (.ite (.V 16)
           (.sub (.ite (.eq (.V 13) (.V 14))
             (.ite (.eq (.V 13) (.wr .i64 (.add (.N (-30)) (.V 1))))
              (.ite (.lt (.wr .i64 (.add (.N (-60)) (.V 7))) (.wr .i64 (.add (.N (-30)) (.V 1))))
               (.call 15 [] 1
                (.ret [(.V 17)]))
               (.ite (.eq (.V 13) (.wr .i64 (.add (.wr .i64 (.add (.N (-30)) (.V 1))) (.V 4))))
                (.ite (.lt (.wr .i64 (.add (.wr .i64 (.add (.N (-30)) (.V 1))) (.V 4))) (.wr .i64 (.add (.N (-60)) (.V 7))))
                 (.call 15 [] 1
                  (.ret [(.V 17)]))
                 (.ret [(.B false)]))
                (.ret [(.B false)])))
              (.ite (.eq (.V 13) (.wr .i64 (.add (.wr .i64 (.add (.N (-30)) (.V 1))) (.V 4))))
               (.ite (.lt (.wr .i64 (.add (.wr .i64 (.add (.N (-30)) (.V 1))) (.V 4))) (.wr .i64 (.add (.N (-60)) (.V 7))))
                (.call 15 [] 1
                 (.ret [(.V 17)]))
                (.ret [(.B false)]))
               (.ret [(.B false)])))
             (.ret [(.B false)])) 1
            (.ret [(.V 17)]))
           (.sub (.ite (.lt (.V 13) (.wr .i64 (.sub (.wr .i64 (.add (.N (-60)) (.V 7))) (.V 10))))
             (.ret [(.B false)])
             (.ite (.lt (.wr .i64 (.add (.wr .i64 (.add (.N (-60)) (.V 7))) (.V 10))) (.V 14))
              (.ret [(.B false)])
              (.ite (.eq (.V 13) (.wr .i64 (.add (.N (-30)) (.V 1))))
               (.ite (.eq (.V 14) (.wr .i64 (.add (.wr .i64 (.add (.N (-30)) (.V 1))) (.V 4))))
                (.call 15 [] 1
                 (.ret [(.V 17)]))
                (.ite (.eq (.V 14) (.wr .i64 (.add (.wr .i64 (.add (.N (-60)) (.V 7))) (.V 10))))
                 (.call 15 [] 1
                  (.ret [(.V 17)]))
                 (.ret [(.B false)])))
               (.ite (.eq (.V 13) (.wr .i64 (.sub (.wr .i64 (.add (.N (-60)) (.V 7))) (.V 10))))
                (.ite (.eq (.V 14) (.wr .i64 (.add (.wr .i64 (.add (.N (-30)) (.V 1))) (.V 4))))
                 (.call 15 [] 1
                  (.ret [(.V 17)]))
                 (.ite (.eq (.V 14) (.wr .i64 (.add (.wr .i64 (.add (.N (-60)) (.V 7))) (.V 10))))
                  (.call 15 [] 1
                   (.ret [(.V 17)]))
                  (.ret [(.B false)])))
                (.ret [(.B false)]))))) 1
            (.ret [(.V 17)]))))))))))))
set_option maxRecDepth 100000 in
theorem sRates_t : runS Try.prog [srcN_K.to [], sane11_K.to []] [] sRates_K = sRates_T := by kernel_rfl
end Go.Proofs.Ytedhpkpmdmobcaa
