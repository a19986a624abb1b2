/- The example of law 11. -/
import Derived.Test.YtedhpkpmdmobcaaPrg
set_option linter.unusedVariables false
set_option linter.unusedSimpArgs false
namespace Go.Proofs.Ytedhpkpmdmobcaa
open Go.RowKit Fx
def aCross_K : Con := ⟨46, [.val false [.int .i64], .val false [.int .i64], .val false [.int .i64]], [.val false [.int .i64]], []⟩
def aCross_T : T (List X) :=
  (.sub (.sub (.ite (.lt (.V 1) (.N (-1000000000)))
    (.ret [(.B false)])
    (.ret [(.not (.lt (.N 1000000000) (.V 1)))])) 1
   (.ite (.V 3)
    (.sub (.ite (.lt (.V 2) (.N (-1000000000)))
      (.ret [(.B false)])
      (.ret [(.not (.lt (.N 1000000000) (.V 2)))])) 1
     (.ret [(.not (.V 4))]))
    (.ret [(.B true)]))) 1
  (.ite (.V 3)
   (.ret [(.N 0)])
   (.sub (.ite (.lt (.rem (.V 0) (.N 3600)) (.N 0))
     (.ret [(.add (.rem (.V 0) (.N 3600)) (.N 3600))])
     (.ret [(.rem (.V 0) (.N 3600))])) 1
    (.sub (.sub (.ite (.lt (.rem (.add (.V 4) (.N 900)) (.N 3600)) (.N 0))
       (.ret [(.add (.rem (.add (.V 4) (.N 900)) (.N 3600)) (.N 3600))])
       (.ret [(.rem (.add (.V 4) (.N 900)) (.N 3600))])) 1
      (.ite (.lt (.N 1800) (.V 5))
       (.sub (.sub (.ite (.lt (.sub (.N 4050000) (.mul (.sub (.V 5) (.N 1800)) (.sub (.N 1800) (.sub (.V 5) (.N 1800))))) (.N 1))
          (.ret [(.B true)])
          (.ret [(.B false)])) 1
         (.ite (.V 6)
          (.ret [(.N 0), (.N 1)])
          (.need (.not (.eq (.sub (.N 4050000) (.mul (.sub (.V 5) (.N 1800)) (.sub (.N 1800) (.sub (.V 5) (.N 1800))))) (.N 0)))
           (.sub (.ite (.lt (.rem (.mul (.N 40000) (.mul (.sub (.V 5) (.N 1800)) (.sub (.N 1800) (.sub (.V 5) (.N 1800))))) (.sub (.N 4050000) (.mul (.sub (.V 5) (.N 1800)) (.sub (.N 1800) (.sub (.V 5) (.N 1800)))))) (.N 0))
             (.ret [(.wr .i64 (.sub (.wr .i64 (.quo (.mul (.N 40000) (.mul (.sub (.V 5) (.N 1800)) (.sub (.N 1800) (.sub (.V 5) (.N 1800))))) (.sub (.N 4050000) (.mul (.sub (.V 5) (.N 1800)) (.sub (.N 1800) (.sub (.V 5) (.N 1800))))))) (.N 1))), (.wr .i64 (.add (.rem (.mul (.N 40000) (.mul (.sub (.V 5) (.N 1800)) (.sub (.N 1800) (.sub (.V 5) (.N 1800))))) (.sub (.N 4050000) (.mul (.sub (.V 5) (.N 1800)) (.sub (.N 1800) (.sub (.V 5) (.N 1800)))))) (.sub (.N 4050000) (.mul (.sub (.V 5) (.N 1800)) (.sub (.N 1800) (.sub (.V 5) (.N 1800)))))))])
             (.ret [(.wr .i64 (.quo (.mul (.N 40000) (.mul (.sub (.V 5) (.N 1800)) (.sub (.N 1800) (.sub (.V 5) (.N 1800))))) (.sub (.N 4050000) (.mul (.sub (.V 5) (.N 1800)) (.sub (.N 1800) (.sub (.V 5) (.N 1800))))))), (.rem (.mul (.N 40000) (.mul (.sub (.V 5) (.N 1800)) (.sub (.N 1800) (.sub (.V 5) (.N 1800))))) (.sub (.N 4050000) (.mul (.sub (.V 5) (.N 1800)) (.sub (.N 1800) (.sub (.V 5) (.N 1800))))))])) 2
            (.sub (.ite (.lt (.wr .i64 (.mul (.N 2) (.V 8))) (.sub (.N 4050000) (.mul (.sub (.V 5) (.N 1800)) (.sub (.N 1800) (.sub (.V 5) (.N 1800))))))
              (.ret [(.V 7)])
              (.ret [(.wr .i64 (.add (.V 7) (.N 1)))])) 1
             (.ret [(.V 9), (.N 0)])))))) 2
        (.ret [(.wr .i64 (.sub (.N 0) (.V 6)))]))
       (.sub (.sub (.ite (.lt (.sub (.N 4050000) (.mul (.V 5) (.sub (.N 1800) (.V 5)))) (.N 1))
          (.ret [(.B true)])
          (.ret [(.B false)])) 1
         (.ite (.V 6)
          (.ret [(.N 0), (.N 1)])
          (.need (.not (.eq (.sub (.N 4050000) (.mul (.V 5) (.sub (.N 1800) (.V 5)))) (.N 0)))
           (.sub (.ite (.lt (.rem (.mul (.N 40000) (.mul (.V 5) (.sub (.N 1800) (.V 5)))) (.sub (.N 4050000) (.mul (.V 5) (.sub (.N 1800) (.V 5))))) (.N 0))
             (.ret [(.wr .i64 (.sub (.wr .i64 (.quo (.mul (.N 40000) (.mul (.V 5) (.sub (.N 1800) (.V 5)))) (.sub (.N 4050000) (.mul (.V 5) (.sub (.N 1800) (.V 5)))))) (.N 1))), (.wr .i64 (.add (.rem (.mul (.N 40000) (.mul (.V 5) (.sub (.N 1800) (.V 5)))) (.sub (.N 4050000) (.mul (.V 5) (.sub (.N 1800) (.V 5))))) (.sub (.N 4050000) (.mul (.V 5) (.sub (.N 1800) (.V 5))))))])
             (.ret [(.wr .i64 (.quo (.mul (.N 40000) (.mul (.V 5) (.sub (.N 1800) (.V 5)))) (.sub (.N 4050000) (.mul (.V 5) (.sub (.N 1800) (.V 5)))))), (.rem (.mul (.N 40000) (.mul (.V 5) (.sub (.N 1800) (.V 5)))) (.sub (.N 4050000) (.mul (.V 5) (.sub (.N 1800) (.V 5)))))])) 2
            (.sub (.ite (.lt (.wr .i64 (.mul (.N 2) (.V 8))) (.sub (.N 4050000) (.mul (.V 5) (.sub (.N 1800) (.V 5)))))
              (.ret [(.V 7)])
              (.ret [(.wr .i64 (.add (.V 7) (.N 1)))])) 1
             (.ret [(.V 9), (.N 0)])))))) 2
        (.ret [(.V 6)])))) 1
     (.sub (.sub (.ite (.lt (.rem (.V 0) (.N 3600)) (.N 0))
        (.ret [(.add (.rem (.V 0) (.N 3600)) (.N 3600))])
        (.ret [(.rem (.V 0) (.N 3600))])) 1
       (.ite (.lt (.N 1800) (.V 6))
        (.sub (.sub (.ite (.lt (.sub (.N 4050000) (.mul (.sub (.V 6) (.N 1800)) (.sub (.N 1800) (.sub (.V 6) (.N 1800))))) (.N 1))
           (.ret [(.B true)])
           (.ret [(.B false)])) 1
          (.ite (.V 7)
           (.ret [(.N 0), (.N 1)])
           (.need (.not (.eq (.sub (.N 4050000) (.mul (.sub (.V 6) (.N 1800)) (.sub (.N 1800) (.sub (.V 6) (.N 1800))))) (.N 0)))
            (.sub (.ite (.lt (.rem (.mul (.N 40000) (.mul (.sub (.V 6) (.N 1800)) (.sub (.N 1800) (.sub (.V 6) (.N 1800))))) (.sub (.N 4050000) (.mul (.sub (.V 6) (.N 1800)) (.sub (.N 1800) (.sub (.V 6) (.N 1800)))))) (.N 0))
              (.ret [(.wr .i64 (.sub (.wr .i64 (.quo (.mul (.N 40000) (.mul (.sub (.V 6) (.N 1800)) (.sub (.N 1800) (.sub (.V 6) (.N 1800))))) (.sub (.N 4050000) (.mul (.sub (.V 6) (.N 1800)) (.sub (.N 1800) (.sub (.V 6) (.N 1800))))))) (.N 1))), (.wr .i64 (.add (.rem (.mul (.N 40000) (.mul (.sub (.V 6) (.N 1800)) (.sub (.N 1800) (.sub (.V 6) (.N 1800))))) (.sub (.N 4050000) (.mul (.sub (.V 6) (.N 1800)) (.sub (.N 1800) (.sub (.V 6) (.N 1800)))))) (.sub (.N 4050000) (.mul (.sub (.V 6) (.N 1800)) (.sub (.N 1800) (.sub (.V 6) (.N 1800)))))))])
              (.ret [(.wr .i64 (.quo (.mul (.N 40000) (.mul (.sub (.V 6) (.N 1800)) (.sub (.N 1800) (.sub (.V 6) (.N 1800))))) (.sub (.N 4050000) (.mul (.sub (.V 6) (.N 1800)) (.sub (.N 1800) (.sub (.V 6) (.N 1800))))))), (.rem (.mul (.N 40000) (.mul (.sub (.V 6) (.N 1800)) (.sub (.N 1800) (.sub (.V 6) (.N 1800))))) (.sub (.N 4050000) (.mul (.sub (.V 6) (.N 1800)) (.sub (.N 1800) (.sub (.V 6) (.N 1800))))))])) 2
             (.sub (.ite (.lt (.wr .i64 (.mul (.N 2) (.V 9))) (.sub (.N 4050000) (.mul (.sub (.V 6) (.N 1800)) (.sub (.N 1800) (.sub (.V 6) (.N 1800))))))
               (.ret [(.V 8)])
               (.ret [(.wr .i64 (.add (.V 8) (.N 1)))])) 1
              (.ret [(.V 10), (.N 0)])))))) 2
         (.ret [(.wr .i64 (.sub (.N 0) (.V 7)))]))
        (.sub (.sub (.ite (.lt (.sub (.N 4050000) (.mul (.V 6) (.sub (.N 1800) (.V 6)))) (.N 1))
           (.ret [(.B true)])
           (.ret [(.B false)])) 1
          (.ite (.V 7)
           (.ret [(.N 0), (.N 1)])
           (.need (.not (.eq (.sub (.N 4050000) (.mul (.V 6) (.sub (.N 1800) (.V 6)))) (.N 0)))
            (.sub (.ite (.lt (.rem (.mul (.N 40000) (.mul (.V 6) (.sub (.N 1800) (.V 6)))) (.sub (.N 4050000) (.mul (.V 6) (.sub (.N 1800) (.V 6))))) (.N 0))
              (.ret [(.wr .i64 (.sub (.wr .i64 (.quo (.mul (.N 40000) (.mul (.V 6) (.sub (.N 1800) (.V 6)))) (.sub (.N 4050000) (.mul (.V 6) (.sub (.N 1800) (.V 6)))))) (.N 1))), (.wr .i64 (.add (.rem (.mul (.N 40000) (.mul (.V 6) (.sub (.N 1800) (.V 6)))) (.sub (.N 4050000) (.mul (.V 6) (.sub (.N 1800) (.V 6))))) (.sub (.N 4050000) (.mul (.V 6) (.sub (.N 1800) (.V 6))))))])
              (.ret [(.wr .i64 (.quo (.mul (.N 40000) (.mul (.V 6) (.sub (.N 1800) (.V 6)))) (.sub (.N 4050000) (.mul (.V 6) (.sub (.N 1800) (.V 6)))))), (.rem (.mul (.N 40000) (.mul (.V 6) (.sub (.N 1800) (.V 6)))) (.sub (.N 4050000) (.mul (.V 6) (.sub (.N 1800) (.V 6)))))])) 2
             (.sub (.ite (.lt (.wr .i64 (.mul (.N 2) (.V 9))) (.sub (.N 4050000) (.mul (.V 6) (.sub (.N 1800) (.V 6)))))
               (.ret [(.V 8)])
               (.ret [(.wr .i64 (.add (.V 8) (.N 1)))])) 1
              (.ret [(.V 10), (.N 0)])))))) 2
         (.ret [(.V 7)])))) 1
      (.ret [(.wr .i64 (.sub (.wr .i64 (.mul (.V 5) (.V 2))) (.wr .i64 (.mul (.V 6) (.V 1)))))]))))))
set_option maxRecDepth 100000 in
theorem aCross_t : runS Try.prog [] [] aCross_K = aCross_T := by kernel_rfl
def aWithin_K : Con := ⟨44, [.val true [.int .i64, .int .i64], .val false [.int .i64], .val false [.int .i64]], [.val false [.bool]], []⟩
def aWithin_T : T (List X) :=
  (.sub (.sub (.ite (.lt (.V 0) (.N 0))
    (.ret [(.B false)])
    (.ite (.lt (.V 0) (.N 3600))
     (.ite (.lt (.V 1) (.N 0))
      (.ret [(.B false)])
      (.ite (.lt (.V 1) (.N 3600))
       (.sub (.ite (.lt (.rem (.wr .i64 (.sub (.V 1) (.V 0))) (.N 3600)) (.N 0))
         (.ret [(.add (.rem (.wr .i64 (.sub (.V 1) (.V 0))) (.N 3600)) (.N 3600))])
         (.ret [(.rem (.wr .i64 (.sub (.V 1) (.V 0))) (.N 3600))])) 1
        (.ret [(.lt (.V 4) (.N 1800))]))
       (.ret [(.B false)])))
     (.ret [(.B false)]))) 1
   (.ite (.V 4)
    (.ite (.eq (.V 2) (.N 0))
     (.ite (.eq (.V 3) (.N 0))
      (.ret [(.B true)])
      (.sub (.ite (.lt (.V 2) (.N (-1000000000)))
        (.ret [(.B false)])
        (.ret [(.not (.lt (.N 1000000000) (.V 2)))])) 1
       (.ite (.V 5)
        (.sub (.ite (.lt (.V 3) (.N (-1000000000)))
          (.ret [(.B false)])
          (.ret [(.not (.lt (.N 1000000000) (.V 3)))])) 1
         (.ret [(.not (.V 6))]))
        (.ret [(.B true)]))))
     (.sub (.ite (.lt (.V 2) (.N (-1000000000)))
       (.ret [(.B false)])
       (.ret [(.not (.lt (.N 1000000000) (.V 2)))])) 1
      (.ite (.V 5)
       (.sub (.ite (.lt (.V 3) (.N (-1000000000)))
         (.ret [(.B false)])
         (.ret [(.not (.lt (.N 1000000000) (.V 3)))])) 1
        (.ret [(.not (.V 6))]))
       (.ret [(.B true)]))))
    (.ret [(.B true)]))) 1
  (.ite (.V 4)
   (.ret [(.B false)])
   (.call 46 [(.V 0), (.V 2), (.V 3)] 1
    (.sub (.ite (.lt (.V 5) (.N 0))
      (.ret [(.B true)])
      (.call 46 [(.V 1), (.V 2), (.V 3)] 1
       (.ret [(.lt (.N 0) (.V 6))]))) 1
     (.ite (.V 6)
      (.ret [(.B false)])
      (.sub (.ite (.lt (.N 0) (.V 5))
        (.ret [(.B true)])
        (.sub (.ite (.lt (.rem (.V 0) (.N 3600)) (.N 0))
          (.ret [(.add (.rem (.V 0) (.N 3600)) (.N 3600))])
          (.ret [(.rem (.V 0) (.N 3600))])) 1
         (.sub (.sub (.ite (.lt (.rem (.add (.V 7) (.N 900)) (.N 3600)) (.N 0))
            (.ret [(.add (.rem (.add (.V 7) (.N 900)) (.N 3600)) (.N 3600))])
            (.ret [(.rem (.add (.V 7) (.N 900)) (.N 3600))])) 1
           (.ite (.lt (.N 1800) (.V 8))
            (.sub (.sub (.ite (.lt (.sub (.N 4050000) (.mul (.sub (.V 8) (.N 1800)) (.sub (.N 1800) (.sub (.V 8) (.N 1800))))) (.N 1))
               (.ret [(.B true)])
               (.ret [(.B false)])) 1
              (.ite (.V 9)
               (.ret [(.N 0), (.N 1)])
               (.need (.not (.eq (.sub (.N 4050000) (.mul (.sub (.V 8) (.N 1800)) (.sub (.N 1800) (.sub (.V 8) (.N 1800))))) (.N 0)))
                (.sub (.ite (.lt (.rem (.mul (.N 40000) (.mul (.sub (.V 8) (.N 1800)) (.sub (.N 1800) (.sub (.V 8) (.N 1800))))) (.sub (.N 4050000) (.mul (.sub (.V 8) (.N 1800)) (.sub (.N 1800) (.sub (.V 8) (.N 1800)))))) (.N 0))
                  (.ret [(.wr .i64 (.sub (.wr .i64 (.quo (.mul (.N 40000) (.mul (.sub (.V 8) (.N 1800)) (.sub (.N 1800) (.sub (.V 8) (.N 1800))))) (.sub (.N 4050000) (.mul (.sub (.V 8) (.N 1800)) (.sub (.N 1800) (.sub (.V 8) (.N 1800))))))) (.N 1))), (.wr .i64 (.add (.rem (.mul (.N 40000) (.mul (.sub (.V 8) (.N 1800)) (.sub (.N 1800) (.sub (.V 8) (.N 1800))))) (.sub (.N 4050000) (.mul (.sub (.V 8) (.N 1800)) (.sub (.N 1800) (.sub (.V 8) (.N 1800)))))) (.sub (.N 4050000) (.mul (.sub (.V 8) (.N 1800)) (.sub (.N 1800) (.sub (.V 8) (.N 1800)))))))])
                  (.ret [(.wr .i64 (.quo (.mul (.N 40000) (.mul (.sub (.V 8) (.N 1800)) (.sub (.N 1800) (.sub (.V 8) (.N 1800))))) (.sub (.N 4050000) (.mul (.sub (.V 8) (.N 1800)) (.sub (.N 1800) (.sub (.V 8) (.N 1800))))))), (.rem (.mul (.N 40000) (.mul (.sub (.V 8) (.N 1800)) (.sub (.N 1800) (.sub (.V 8) (.N 1800))))) (.sub (.N 4050000) (.mul (.sub (.V 8) (.N 1800)) (.sub (.N 1800) (.sub (.V 8) (.N 1800))))))])) 2
                 (.sub (.ite (.lt (.wr .i64 (.mul (.N 2) (.V 11))) (.sub (.N 4050000) (.mul (.sub (.V 8) (.N 1800)) (.sub (.N 1800) (.sub (.V 8) (.N 1800))))))
                   (.ret [(.V 10)])
                   (.ret [(.wr .i64 (.add (.V 10) (.N 1)))])) 1
                  (.ret [(.V 12), (.N 0)])))))) 2
             (.ret [(.wr .i64 (.sub (.N 0) (.V 9)))]))
            (.sub (.sub (.ite (.lt (.sub (.N 4050000) (.mul (.V 8) (.sub (.N 1800) (.V 8)))) (.N 1))
               (.ret [(.B true)])
               (.ret [(.B false)])) 1
              (.ite (.V 9)
               (.ret [(.N 0), (.N 1)])
               (.need (.not (.eq (.sub (.N 4050000) (.mul (.V 8) (.sub (.N 1800) (.V 8)))) (.N 0)))
                (.sub (.ite (.lt (.rem (.mul (.N 40000) (.mul (.V 8) (.sub (.N 1800) (.V 8)))) (.sub (.N 4050000) (.mul (.V 8) (.sub (.N 1800) (.V 8))))) (.N 0))
                  (.ret [(.wr .i64 (.sub (.wr .i64 (.quo (.mul (.N 40000) (.mul (.V 8) (.sub (.N 1800) (.V 8)))) (.sub (.N 4050000) (.mul (.V 8) (.sub (.N 1800) (.V 8)))))) (.N 1))), (.wr .i64 (.add (.rem (.mul (.N 40000) (.mul (.V 8) (.sub (.N 1800) (.V 8)))) (.sub (.N 4050000) (.mul (.V 8) (.sub (.N 1800) (.V 8))))) (.sub (.N 4050000) (.mul (.V 8) (.sub (.N 1800) (.V 8))))))])
                  (.ret [(.wr .i64 (.quo (.mul (.N 40000) (.mul (.V 8) (.sub (.N 1800) (.V 8)))) (.sub (.N 4050000) (.mul (.V 8) (.sub (.N 1800) (.V 8)))))), (.rem (.mul (.N 40000) (.mul (.V 8) (.sub (.N 1800) (.V 8)))) (.sub (.N 4050000) (.mul (.V 8) (.sub (.N 1800) (.V 8)))))])) 2
                 (.sub (.ite (.lt (.wr .i64 (.mul (.N 2) (.V 11))) (.sub (.N 4050000) (.mul (.V 8) (.sub (.N 1800) (.V 8)))))
                   (.ret [(.V 10)])
                   (.ret [(.wr .i64 (.add (.V 10) (.N 1)))])) 1
                  (.ret [(.V 12), (.N 0)])))))) 2
             (.ret [(.V 9)])))) 1
          (.sub (.sub (.ite (.lt (.rem (.V 0) (.N 3600)) (.N 0))
             (.ret [(.add (.rem (.V 0) (.N 3600)) (.N 3600))])
             (.ret [(.rem (.V 0) (.N 3600))])) 1
            (.ite (.lt (.N 1800) (.V 9))
             (.sub (.sub (.ite (.lt (.sub (.N 4050000) (.mul (.sub (.V 9) (.N 1800)) (.sub (.N 1800) (.sub (.V 9) (.N 1800))))) (.N 1))
                (.ret [(.B true)])
                (.ret [(.B false)])) 1
               (.ite (.V 10)
                (.ret [(.N 0), (.N 1)])
                (.need (.not (.eq (.sub (.N 4050000) (.mul (.sub (.V 9) (.N 1800)) (.sub (.N 1800) (.sub (.V 9) (.N 1800))))) (.N 0)))
                 (.sub (.ite (.lt (.rem (.mul (.N 40000) (.mul (.sub (.V 9) (.N 1800)) (.sub (.N 1800) (.sub (.V 9) (.N 1800))))) (.sub (.N 4050000) (.mul (.sub (.V 9) (.N 1800)) (.sub (.N 1800) (.sub (.V 9) (.N 1800)))))) (.N 0))
                   (.ret [(.wr .i64 (.sub (.wr .i64 (.quo (.mul (.N 40000) (.mul (.sub (.V 9) (.N 1800)) (.sub (.N 1800) (.sub (.V 9) (.N 1800))))) (.sub (.N 4050000) (.mul (.sub (.V 9) (.N 1800)) (.sub (.N 1800) (.sub (.V 9) (.N 1800))))))) (.N 1))), (.wr .i64 (.add (.rem (.mul (.N 40000) (.mul (.sub (.V 9) (.N 1800)) (.sub (.N 1800) (.sub (.V 9) (.N 1800))))) (.sub (.N 4050000) (.mul (.sub (.V 9) (.N 1800)) (.sub (.N 1800) (.sub (.V 9) (.N 1800)))))) (.sub (.N 4050000) (.mul (.sub (.V 9) (.N 1800)) (.sub (.N 1800) (.sub (.V 9) (.N 1800)))))))])
                   (.ret [(.wr .i64 (.quo (.mul (.N 40000) (.mul (.sub (.V 9) (.N 1800)) (.sub (.N 1800) (.sub (.V 9) (.N 1800))))) (.sub (.N 4050000) (.mul (.sub (.V 9) (.N 1800)) (.sub (.N 1800) (.sub (.V 9) (.N 1800))))))), (.rem (.mul (.N 40000) (.mul (.sub (.V 9) (.N 1800)) (.sub (.N 1800) (.sub (.V 9) (.N 1800))))) (.sub (.N 4050000) (.mul (.sub (.V 9) (.N 1800)) (.sub (.N 1800) (.sub (.V 9) (.N 1800))))))])) 2
                  (.sub (.ite (.lt (.wr .i64 (.mul (.N 2) (.V 12))) (.sub (.N 4050000) (.mul (.sub (.V 9) (.N 1800)) (.sub (.N 1800) (.sub (.V 9) (.N 1800))))))
                    (.ret [(.V 11)])
                    (.ret [(.wr .i64 (.add (.V 11) (.N 1)))])) 1
                   (.ret [(.V 13), (.N 0)])))))) 2
              (.ret [(.wr .i64 (.sub (.N 0) (.V 10)))]))
             (.sub (.sub (.ite (.lt (.sub (.N 4050000) (.mul (.V 9) (.sub (.N 1800) (.V 9)))) (.N 1))
                (.ret [(.B true)])
                (.ret [(.B false)])) 1
               (.ite (.V 10)
                (.ret [(.N 0), (.N 1)])
                (.need (.not (.eq (.sub (.N 4050000) (.mul (.V 9) (.sub (.N 1800) (.V 9)))) (.N 0)))
                 (.sub (.ite (.lt (.rem (.mul (.N 40000) (.mul (.V 9) (.sub (.N 1800) (.V 9)))) (.sub (.N 4050000) (.mul (.V 9) (.sub (.N 1800) (.V 9))))) (.N 0))
                   (.ret [(.wr .i64 (.sub (.wr .i64 (.quo (.mul (.N 40000) (.mul (.V 9) (.sub (.N 1800) (.V 9)))) (.sub (.N 4050000) (.mul (.V 9) (.sub (.N 1800) (.V 9)))))) (.N 1))), (.wr .i64 (.add (.rem (.mul (.N 40000) (.mul (.V 9) (.sub (.N 1800) (.V 9)))) (.sub (.N 4050000) (.mul (.V 9) (.sub (.N 1800) (.V 9))))) (.sub (.N 4050000) (.mul (.V 9) (.sub (.N 1800) (.V 9))))))])
                   (.ret [(.wr .i64 (.quo (.mul (.N 40000) (.mul (.V 9) (.sub (.N 1800) (.V 9)))) (.sub (.N 4050000) (.mul (.V 9) (.sub (.N 1800) (.V 9)))))), (.rem (.mul (.N 40000) (.mul (.V 9) (.sub (.N 1800) (.V 9)))) (.sub (.N 4050000) (.mul (.V 9) (.sub (.N 1800) (.V 9)))))])) 2
                  (.sub (.ite (.lt (.wr .i64 (.mul (.N 2) (.V 12))) (.sub (.N 4050000) (.mul (.V 9) (.sub (.N 1800) (.V 9)))))
                    (.ret [(.V 11)])
                    (.ret [(.wr .i64 (.add (.V 11) (.N 1)))])) 1
                   (.ret [(.V 13), (.N 0)])))))) 2
              (.ret [(.V 10)])))) 1
           (.ret [(.lt (.N 0) (.wr .i64 (.add (.wr .i64 (.mul (.V 8) (.V 2))) (.wr .i64 (.mul (.V 9) (.V 3))))))]))))) 1
       (.ret [(.V 7)])))))))
set_option maxRecDepth 100000 in
theorem aWithin_t : runS Try.prog [aCross_K.to []] [] aWithin_K = aWithin_T := by kernel_rfl
def sEntry_K : Con := ⟨38, [.val true [.int .i64, .int .i64], .val false [.int .i64], .val false [.int .i64], .val false [.int .i64]], [.val false [.int .i64]], []⟩
def sEntry_T : T (List X) :=
  (.sub (.ite (.lt (.N 0) (.wr .i64 (.mul (.V 2) (.V 3))))
   (.ret [(.V 1), (.N (-1))])
   (.ret [(.V 0), (.N 1)])) 2
  (.loop [(.N 0), (.V 4)]
   (.ite (.lt (.V 7) (.V 8))
    (.call 46 [(.V 5), (.wr .i64 (.mul (.V 2) (.wr .i64 (.add (.quo (.wr .u64 (.wr .i64 (.add (.V 7) (.V 8)))) (.N 2)) (.N 1))))), (.V 3)] 1
     (.ite (.lt (.wr .i64 (.mul (.V 6) (.V 9))) (.N 0))
      (.ret (true, [(.wr .i64 (.add (.quo (.wr .u64 (.wr .i64 (.add (.V 7) (.V 8)))) (.N 2)) (.N 1))), (.V 8)]))
      (.ret (true, [(.V 7), (.quo (.wr .u64 (.wr .i64 (.add (.V 7) (.V 8)))) (.N 2))]))))
    (.ret (false, [(.V 7)]))) 1
   (.sub (.ite (.lt (.V 4) (.wr .i64 (.add (.N 1) (.V 7))))
     (.ret [(.B false)])
     (.call 44 [(.V 0), (.V 1), (.wr .i64 (.mul (.V 2) (.wr .i64 (.add (.N 1) (.V 7))))), (.V 3)] 1
      (.ret [(.V 8)]))) 1
    (.ite (.V 8)
     (.ret [(.wr .i64 (.add (.N 1) (.V 7)))])
     (.ret [(.wr .i64 (.add (.V 4) (.N 1)))])))))
set_option maxRecDepth 100000 in
theorem sEntry_t : runS Try.prog [aWithin_K.to [], aCross_K.to []] [34] sEntry_K = sEntry_T := by kernel_rfl
def sane11_K : Con := ⟨15, [], [.val false [.bool]], []⟩
def sane11_T : T (List X) :=
  (.call 38 [(.N 800), (.N 1000), (.N (-1)), (.N (-60)), (.N 80)] 1
  (.call 38 [(.N 800), (.N 1000), (.N 1), (.N (-60)), (.N 80)] 1
   (.sub (.ite (.eq (.wr .i64 (.sub (.N 0) (.mn (.N 80) (.wr .i64 (.sub (.V 0) (.N 1)))))) (.N (-80)))
     (.ite (.eq (.mn (.N 80) (.wr .i64 (.sub (.V 1) (.N 1)))) (.N 80))
      (.ret [(.B true)])
      (.ret [(.B false)]))
     (.ret [(.B false)])) 1
    (.ret [(.V 2)]))))
set_option maxRecDepth 100000 in
theorem sane11_t : runS Try.prog [sEntry_K.to []] [] sane11_K = sane11_T := by kernel_rfl
theorem aCross_ok : ConOk Try.prog aCross_K (aCross_T.run noM 0) := con_run follows no_cons aCross_t rfl 0
def wiM : Models := Models.on aCross_K.f (aCross_T.run noM 0) noM
theorem aWithin_ok : ConOk Try.prog aWithin_K (aWithin_T.run wiM 0) := con_run follows (one_con (aCross_ok.to _) no_cons) aWithin_t rfl 0
def seM : Models := Models.on aWithin_K.f (aWithin_T.run wiM 0) (Models.on aCross_K.f (aCross_T.run noM 0) noM)
theorem sEntry_ok : ConOk Try.prog sEntry_K (sEntry_T.run seM 20) := con_run follows (one_con (aWithin_ok.to _) (one_con (aCross_ok.to _) no_cons)) sEntry_t rfl 20
theorem entry_a : sEntry_T.run seM 20 [.i 800, .i 1000, .i (-1), .i (-60), .i 80] = some [.i 81] := by kernel_rfl
theorem entry_b : sEntry_T.run seM 20 [.i 800, .i 1000, .i 1, .i (-60), .i 80] = some [.i 81] := by kernel_rfl
def s11M : Models := Models.on sEntry_K.f (sEntry_T.run seM 20) noM
theorem sane11_ok : ConOk Try.prog sane11_K fun _ => some [.b true] :=
  con_of follows (M := s11M) (one_con (sEntry_ok.to _) no_cons) sane11_t fun ds outs hl h => by
    injection h with h
    subst h
    obtain rfl : ds = [] := List.length_eq_zero_iff.1 hl
    refine ⟨fun i l h k => by simp [sane11_K] at k, 0, ?_⟩
    unfold sane11_T
    refine To.call (l := _) entry_a rfl ?_
    simp only [List.cons_append, List.nil_append]
    refine To.call (l := _) entry_b rfl ?_
    simp only [List.cons_append, List.nil_append]
    refine To.join (fun l => l = [.b true]) (To.yes rfl (To.yes rfl (To.ret ⟨rfl, rfl⟩))) ?_
    rintro l rfl
    exact To.ret rfl
end Go.Proofs.Ytedhpkpmdmobcaa
