/- The example of law 29. -/
import Derived.Test.YtbojkmgllihhiaaPrg
set_option linter.unusedVariables false
namespace Go.Proofs.Ytbojkmgllihhiaa
open Go.RowKit Fx
def cirWorst_K : Con := ⟨66, [.val true [.int .i64, .int .i64, .int .i64, .int .i64], .val true [.int .i64, .int .i64, .int .i64, .int .i64, .int .i64]], [.val false [.int .i64]], []⟩
def cirWorst_T : T (List X) :=
  (.sub (.sub (.sub (.sub (.sub (.sub (.sub (.ite (.lt (.V 0) (.N (-100000000)))
         (.ret [(.B true)])
         (.ret [(.lt (.N 100000000) (.V 0))])) 1
        (.ite (.V 9)
         (.ret [(.N 0)])
         (.sub (.ite (.lt (.V 1) (.N (-100000000)))
           (.ret [(.B true)])
           (.ret [(.lt (.N 100000000) (.V 1))])) 1
          (.ite (.V 10)
           (.ret [(.N 0)])
           (.ret [(.N 1)]))))) 1
       (.ite (.eq (.V 9) (.N 0))
        (.ret [(.B false)])
        (.ret [(.B true)]))) 1
      (.ite (.V 9)
       (.ite (.lt (.V 2) (.N 0))
        (.ret [(.B true)])
        (.ite (.lt (.V 3) (.V 2))
         (.ret [(.B true)])
         (.ret [(.lt (.N 1000000) (.V 3))])))
       (.ret [(.B true)]))) 1
     (.ite (.V 9)
      (.ret [(.N 65)])
      (.ret [(.N 0)]))) 1
    (.ite (.eq (.V 9) (.N 0))
     (.ite (.eq (.V 8) (.N 0))
      (.ret [(.B false)])
      (.sub (.sub (.sub (.ite (.lt (.V 4) (.N (-100000000)))
          (.ret [(.B true)])
          (.ret [(.lt (.N 100000000) (.V 4))])) 1
         (.ite (.V 10)
          (.ret [(.N 0)])
          (.sub (.ite (.lt (.V 5) (.N (-100000000)))
            (.ret [(.B true)])
            (.ret [(.lt (.N 100000000) (.V 5))])) 1
           (.ite (.V 11)
            (.ret [(.N 0)])
            (.ret [(.N 1)]))))) 1
        (.ite (.eq (.V 10) (.N 0))
         (.ret [(.B false)])
         (.ret [(.B true)]))) 1
       (.ite (.V 10)
        (.ite (.lt (.V 6) (.N 0))
         (.ret [(.B false)])
         (.ret [(.not (.lt (.N 200000000) (.V 6)))]))
        (.ret [(.B false)]))))
     (.ret [(.B false)]))) 1
   (.ite (.V 9)
    (.ret [(.wr .i64 (.add (.add (.N 0) (.wr .i64 (.mul (.wr .i64 (.add (.mx (.wr .i64 (.sub (.V 4) (.V 0))) (.wr .i64 (.sub (.V 0) (.V 4)))) (.V 6))) (.wr .i64 (.add (.mx (.wr .i64 (.sub (.V 4) (.V 0))) (.wr .i64 (.sub (.V 0) (.V 4)))) (.V 6)))))) (.wr .i64 (.mul (.wr .i64 (.add (.mx (.wr .i64 (.sub (.V 5) (.V 1))) (.wr .i64 (.sub (.V 1) (.V 5)))) (.V 6))) (.wr .i64 (.add (.mx (.wr .i64 (.sub (.V 5) (.V 1))) (.wr .i64 (.sub (.V 1) (.V 5)))) (.V 6)))))))])
    (.ret [(.N (-1))]))) 1
  (.sub (.sub (.ite (.eq (.V 9) (.N (-1)))
     (.ret [(.N 1), (.N 3)])
     (.ite (.lt (.add (.N 0) (.wr .i64 (.mul (.V 2) (.V 2)))) (.V 9))
      (.ite (.lt (.add (.N 0) (.wr .i64 (.mul (.V 3) (.V 3)))) (.V 9))
       (.ret [(.N 0), (.N 0)])
       (.ret [(.N 1), (.N 2)]))
      (.ret [(.N 1), (.N 1)]))) 2
    (.ite (.eq (.V 10) (.N 0))
     (.ret [(.N 3)])
     (.ret [(.V 11)]))) 1
   (.ret [(.V 10)])))
set_option maxRecDepth 100000 in
theorem cirWorst_t : runS Try.prog [] [] cirWorst_K = cirWorst_T := by kernel_rfl
def cirBest_K : Con := ⟨68, [.val true [.int .i64, .int .i64, .int .i64, .int .i64], .val true [.int .i64, .int .i64, .int .i64, .int .i64, .int .i64]], [.val false [.int .i64]], []⟩
def cirBest_T : T (List X) :=
  (.sub (.sub (.sub (.sub (.sub (.sub (.sub (.ite (.lt (.V 0) (.N (-100000000)))
         (.ret [(.B true)])
         (.ret [(.lt (.N 100000000) (.V 0))])) 1
        (.ite (.V 9)
         (.ret [(.N 0)])
         (.sub (.ite (.lt (.V 1) (.N (-100000000)))
           (.ret [(.B true)])
           (.ret [(.lt (.N 100000000) (.V 1))])) 1
          (.ite (.V 10)
           (.ret [(.N 0)])
           (.ret [(.N 1)]))))) 1
       (.ite (.eq (.V 9) (.N 0))
        (.ret [(.B false)])
        (.ret [(.B true)]))) 1
      (.ite (.V 9)
       (.ite (.lt (.V 2) (.N 0))
        (.ret [(.B true)])
        (.ite (.lt (.V 3) (.V 2))
         (.ret [(.B true)])
         (.ret [(.lt (.N 1000000) (.V 3))])))
       (.ret [(.B true)]))) 1
     (.ite (.V 9)
      (.ret [(.N 65)])
      (.ret [(.N 0)]))) 1
    (.ite (.eq (.V 9) (.N 0))
     (.ite (.eq (.V 8) (.N 0))
      (.ret [(.B false)])
      (.sub (.sub (.sub (.ite (.lt (.V 4) (.N (-100000000)))
          (.ret [(.B true)])
          (.ret [(.lt (.N 100000000) (.V 4))])) 1
         (.ite (.V 10)
          (.ret [(.N 0)])
          (.sub (.ite (.lt (.V 5) (.N (-100000000)))
            (.ret [(.B true)])
            (.ret [(.lt (.N 100000000) (.V 5))])) 1
           (.ite (.V 11)
            (.ret [(.N 0)])
            (.ret [(.N 1)]))))) 1
        (.ite (.eq (.V 10) (.N 0))
         (.ret [(.B false)])
         (.ret [(.B true)]))) 1
       (.ite (.V 10)
        (.ite (.lt (.V 6) (.N 0))
         (.ret [(.B false)])
         (.ret [(.not (.lt (.N 200000000) (.V 6)))]))
        (.ret [(.B false)]))))
     (.ret [(.B false)]))) 1
   (.ite (.V 9)
    (.ret [(.wr .i64 (.add (.add (.N 0) (.wr .i64 (.mul (.mx (.N 0) (.wr .i64 (.sub (.mx (.wr .i64 (.sub (.V 4) (.V 0))) (.wr .i64 (.sub (.V 0) (.V 4)))) (.V 6)))) (.mx (.N 0) (.wr .i64 (.sub (.mx (.wr .i64 (.sub (.V 4) (.V 0))) (.wr .i64 (.sub (.V 0) (.V 4)))) (.V 6))))))) (.wr .i64 (.mul (.mx (.N 0) (.wr .i64 (.sub (.mx (.wr .i64 (.sub (.V 5) (.V 1))) (.wr .i64 (.sub (.V 1) (.V 5)))) (.V 6)))) (.mx (.N 0) (.wr .i64 (.sub (.mx (.wr .i64 (.sub (.V 5) (.V 1))) (.wr .i64 (.sub (.V 1) (.V 5)))) (.V 6))))))))])
    (.ret [(.N (-1))]))) 1
  (.sub (.sub (.ite (.eq (.V 9) (.N (-1)))
     (.ret [(.N 1), (.N 3)])
     (.ite (.lt (.add (.N 0) (.wr .i64 (.mul (.V 2) (.V 2)))) (.V 9))
      (.ite (.lt (.add (.N 0) (.wr .i64 (.mul (.V 3) (.V 3)))) (.V 9))
       (.ret [(.N 0), (.N 0)])
       (.ret [(.N 1), (.N 2)]))
      (.ret [(.N 1), (.N 1)]))) 2
    (.ite (.eq (.V 10) (.N 0))
     (.ret [(.N 3)])
     (.ret [(.V 11)]))) 1
   (.ret [(.V 10)])))
set_option maxRecDepth 100000 in
theorem cirBest_t : runS Try.prog [] [] cirBest_K = cirBest_T := by kernel_rfl
def cirLeft_K : Con := ⟨71, [.val true [.int .i64, .int .i64, .int .i64, .int .i64], .val true [.int .i64, .int .i64, .int .i64, .int .i64, .int .i64], .val false [.int .i64]], [.val false [.int .i64]], []⟩
def cirLeft_T : T (List X) :=
  (.sub (.ite (.lt (.V 9) (.N 0))
   (.ret [(.B true)])
   (.ite (.lt (.N 1000) (.V 9))
    (.ret [(.B true)])
    (.call 66 [(.V 0), (.V 1), (.V 2), (.V 3), (.V 4), (.V 5), (.V 6), (.V 7), (.V 8)] 1
     (.ret [(.eq (.V 10) (.N 3))])))) 1
  (.ite (.V 10)
   (.ret [(.N (-1))])
   (.loop [(.N 0), (.N 400)]
    (.ite (.lt (.V 11) (.V 12))
     (.call 66 [(.V 0), (.V 1), (.V 2), (.V 3), (.V 4), (.V 5), (.wr .i64 (.add (.V 6) (.wr .i64 (.mul (.add (.quo (.add (.V 11) (.V 12)) (.N 2)) (.N 1)) (.V 9))))), (.V 7), (.V 8)] 1
      (.ite (.eq (.V 13) (.N 3))
       (.ret (true, [(.V 11), (.quo (.add (.V 11) (.V 12)) (.N 2))]))
       (.ret (true, [(.add (.quo (.add (.V 11) (.V 12)) (.N 2)) (.N 1)), (.V 12)]))))
     (.ret (false, [(.V 11)]))) 1
    (.ret [(.V 11)]))))
set_option maxRecDepth 100000 in
theorem cirLeft_t : runS Try.prog [cirWorst_K.to []] [131] cirLeft_K = cirLeft_T := by kernel_rfl
def sane29_K : Con := ⟨57, [], [.val false [.bool]], []⟩
def sane29_T : T (List X) :=
  (.sub (.call 66 [(.N 0), (.N 0), (.N 500), (.N 1000), (.N 300), (.N 400), (.N 0), (.N 0), (.N 1)] 1
   (.ite (.eq (.V 0) (.N 1))
    (.call 68 [(.N 0), (.N 0), (.N 500), (.N 1000), (.N 300), (.N 400), (.N 0), (.N 0), (.N 1)] 1
     (.ite (.eq (.V 1) (.N 1))
      (.call 66 [(.N 0), (.N 0), (.N 500), (.N 1000), (.N 300), (.N 400), (.N 100), (.N 0), (.N 1)] 1
       (.ite (.eq (.V 2) (.N 2))
        (.call 71 [(.N 0), (.N 0), (.N 500), (.N 1000), (.N 300), (.N 400), (.N 100), (.N 0), (.N 1), (.N 50)] 1
         (.ite (.eq (.V 3) (.N 5))
          (.call 66 [(.N 0), (.N 0), (.N 500), (.N 1000), (.N 0), (.N 0), (.N 0), (.N 0), (.N 0)] 1
           (.ret [(.eq (.V 4) (.N 3))]))
          (.ret [(.B false)])))
        (.ret [(.B false)])))
      (.ret [(.B false)])))
    (.ret [(.B false)]))) 1
  (.ret [(.V 0)]))
set_option maxRecDepth 100000 in
theorem sane29_t : runS Try.prog [cirWorst_K.to [], cirBest_K.to [], cirLeft_K.to []] [] sane29_K = sane29_T := by kernel_rfl
theorem cirWorst_ok : ConOk Try.prog cirWorst_K (cirWorst_T.run noM 0) := con_run follows no_cons cirWorst_t rfl 0
theorem cirBest_ok : ConOk Try.prog cirBest_K (cirBest_T.run noM 0) := con_run follows no_cons cirBest_t rfl 0
def leftM : Models := Models.on cirWorst_K.f (cirWorst_T.run noM 0) noM
theorem cirLeft_ok : ConOk Try.prog cirLeft_K (cirLeft_T.run leftM 20) := con_run follows (one_con (cirWorst_ok.to _) no_cons) cirLeft_t rfl 20
def sane29M : Models := Models.on cirWorst_K.f (cirWorst_T.run noM 0) (Models.on cirBest_K.f (cirBest_T.run noM 0) (Models.on cirLeft_K.f (cirLeft_T.run leftM 20) noM))
theorem sane29_run : sane29_T.run sane29M 0 [] = some [.b true] := by kernel_rfl
theorem sane29_ok : ConOk Try.prog sane29_K fun ds => if ds = [] then some [.b true] else none := by
  have h := con_run follows (M := sane29M) (one_con (cirWorst_ok.to _) (one_con (cirBest_ok.to _) (one_con (cirLeft_ok.to _) no_cons))) sane29_t rfl 0
  intro w G args ds pb outs h1 h2 h3 h4
  refine h w G args ds pb outs h1 h2 h3 ?_
  dsimp only at h4
  split at h4
  · rename_i e
    subst e
    rw [sane29_run]
    exact h4
  · cases h4
end Go.Proofs.Ytbojkmgllihhiaa
