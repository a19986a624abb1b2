/- Shares: the reference's prices, check and division. -/
import Derived.Test.YtlhnhidoljfnnaaShrS
import Derived.Test.YtlhnhidoljfnnaaShrR
set_option linter.unusedVariables false
set_option linter.unusedSimpArgs false
namespace Go.Proofs.Ytlhnhidoljfnnaa
open Go.RowKit Fx Sh
def rDiv13_H : List Hint := [
  ⟨17317308394739, 6, [.t [.int .i64] 11], ⟨[.var 0, .int .i64 (.V 1), .und, .und, .con (.slice none 0 0), .int .i64 (.N 0), .int .i64 (.N 0), .int .i64 (.V 2), .und, .und, .int .i64 (.mn (.mx (.V 1) (.V 2)) (.V 3)), .var 2, .und, .und, .und, .und, .und, .und, .und, .und, .und, .und, .und, .und, .und, .und, .und, .und, .und, .und, .und, .und, .und, .und, .und, .und, .und, .und, .var 0, .int .i64 (.len (.V 0)), .int .i64 (.V 7), .und, .und, .und, .und, .und, .und, .und, .und, .und, .und, .und, .und, .und, .und, .und, .und, .und, .und, .und, .und, .und, .und, .und, .und, .und, .und, .und, .und, .und, .und, .und, .und, .und, .und, .und, .und, .und, .und, .und, .und, .und, .und, .und, .und, .und, .und, .und, .und, .und, .und, .und, .und, .und, .und, .und, .und, .und, .und, .und, .und, .und, .und, .und], [.rows [.int .i64] (.V 6) 2], 8, 3, [none, none, none, none, none, none, none, none], [], [⟨0, [.int .i64, .int .i64, .int .i64], (.V 0)⟩]⟩⟩,
  ⟨1150687296979455090, 7, [], ⟨[.var 0, .int .i64 (.V 1), .und, .und, .con (.slice none 0 0), .int .i64 (.N 0), .int .i64 (.N 0), .und, .und, .und, .int .i64 (.mn (.mx (.V 1) (.V 2)) (.V 3)), .var 2, .und, .und, .int .i64 (.V 8), .und, .und, .und, .und, .und, .und, .und, .und, .und, .und, .und, .und, .und, .und, .und, .und, .und, .und, .und, .und, .und, .und, .und, .und, .und, .und, .und, .und, .und, .und, .und, .und, .und, .und, .und, .und, .und, .und, .und, .und, .und, .und, .und, .und, .und, .und, .und, .und, .und, .und, .und, .und, .und, .und, .und, .und, .und, .und, .und, .und, .und, .und, .und, .und, .und, .und, .und, .und, .und, .und, .und, .und, .und, .und, .und, .und, .und, .und, .und, .und, .und, .und, .und, .und, .und, .und, .und, .und, .und], [.rows [.int .i64] (.V 7) 2], 9, 3, [none, none, none, none, none, none, none, none, none], [], [⟨0, [.int .i64, .int .i64, .int .i64], (.V 0)⟩]⟩⟩,
  ⟨1150687296979455090, 9, [], ⟨[.var 0, .int .i64 (.V 1), .und, .und, .con (.slice none 0 0), .int .i64 (.N 0), .int .i64 (.N 0), .und, .und, .und, .int .i64 (.mn (.mx (.V 1) (.V 2)) (.V 3)), .var 2, .und, .und, .int .i64 (.V 8), .int .i64 (.V 9), .und, .und, .und, .und, .und, .und, .und, .und, .und, .und, .und, .und, .und, .und, .und, .und, .und, .und, .und, .und, .und, .und, .und, .und, .und, .und, .und, .und, .und, .und, .und, .und, .und, .und, .und, .int .i64 (.V 8), .int .i64 (.mn (.mx (.V 1) (.V 2)) (.V 3)), .bool (.lt (.V 8) (.mn (.mx (.V 1) (.V 2)) (.V 3))), .und, .und, .var 0, .int .i64 (.len (.V 0)), .int .i64 (.V 10), .und, .und, .und, .und, .und, .und, .und, .und, .und, .und, .und, .und, .und, .und, .und, .und, .und, .und, .und, .und, .und, .und, .und, .und, .und, .und, .und, .und, .und, .und, .und, .und, .und, .und, .und, .und, .und, .und, .und, .und, .und, .und, .und, .und, .und], [.rows [.int .i64] (.V 7) 2], 11, 3, [none, none, none, none, none, none, none, none, none, none, none], [], [⟨0, [.int .i64, .int .i64, .int .i64], (.V 0)⟩]⟩⟩]
def rDiv13_K : Con := ⟨24, [.val false [.sl [.int .i64, .int .i64, .int .i64]], .val false [.int .i64]], [.val false [.sl [.int .i64]], .val false [.int .i64], .val false [.int .i64]], []⟩
def rDiv13_T : T (List X) :=
  (.call 19 [(.V 0)] 3
  (.ite (.eq (.V 4) (.N 0))
   (.sub (.ite (.lt (.V 1) (.N (-500000)))
     (.ret [(.B true)])
     (.ret [(.lt (.N 500000) (.V 1))])) 1
    (.ite (.V 5)
     (.ret [(.rows []), (.N 0), (.N 1)])
     (.loop [(.rows []), (.N 0)]
      (.ite (.lt (.V 7) (.len (.V 0)))
       (.need (.and (.not (.lt (.V 7) (.N 0))) (.lt (.V 7) (.len (.V 0))))
        (.need (.not (.lt (.N 17592186044416) (.add (.len (.V 6)) (.N 1))))
         (.ret (true, [(.app (.V 6) (.rows [[(.at (.V 0) (.V 7) 0)]])), (.wr .i64 (.add (.V 7) (.N 1)))]))))
       (.ret (false, [(.V 6)]))) 1
      (.loop [(.V 6), (.V 2)]
       (.ite (.lt (.V 8) (.mn (.mx (.V 1) (.V 2)) (.V 3)))
        (.loop [(.N (-1)), (.N 0)]
         (.ite (.lt (.V 10) (.len (.V 0)))
          (.sub (.need (.and (.not (.lt (.V 10) (.N 0))) (.lt (.V 10) (.len (.V 0))))
            (.sub (.need (.and (.not (.lt (.V 10) (.N 0))) (.lt (.V 10) (.len (.V 7))))
              (.ite (.lt (.at (.V 7) (.V 10) 0) (.at (.V 0) (.V 10) 1))
               (.ite (.lt (.V 9) (.N 0))
                (.ret [(.B true)])
                (.need (.and (.not (.lt (.V 9) (.N 0))) (.lt (.V 9) (.len (.V 0))))
                 (.need (.and (.not (.lt (.V 9) (.N 0))) (.lt (.V 9) (.len (.V 7))))
                  (.ret [(.lt (.wr .i64 (.mul (.at (.V 0) (.V 10) 2) (.wr .i64 (.add (.wr .i64 (.mul (.N 2) (.at (.V 7) (.V 10) 0))) (.N 1))))) (.wr .i64 (.mul (.at (.V 0) (.V 9) 2) (.wr .i64 (.add (.wr .i64 (.mul (.N 2) (.at (.V 7) (.V 9) 0))) (.N 1))))))]))))
               (.ret [(.B false)]))) 1
             (.ite (.V 11)
              (.ret [(.V 10), (.V 11)])
              (.ret [(.V 9), (.V 11)])))) 2
           (.ret (true, [(.V 11), (.wr .i64 (.add (.V 10) (.N 1)))])))
          (.ret (false, [(.V 9), (.V 10), (.lt (.V 10) (.len (.V 0)))]))) 3
         (.need (.and (.not (.lt (.V 9) (.N 0))) (.lt (.V 9) (.len (.V 7))))
          (.ret (true, [(.put (.V 7) (.V 9) 0 (.wr .i64 (.add (.at (.V 7) (.V 9) 0) (.N 1)))), (.wr .i64 (.add (.V 8) (.N 1)))]))))
        (.ret (false, [(.V 7)]))) 1
       (.ret [(.V 7), (.wr .i64 (.sub (.V 1) (.mn (.mx (.V 1) (.V 2)) (.V 3)))), (.N 0)])))))
   (.ret [(.rows []), (.N 0), (.V 4)])))
set_option maxRecDepth 100000 in
theorem rDiv13_t : runS Try.prog [rRea13_K.to []] [(24, rDiv13_H)] rDiv13_K = rDiv13_T := by kernel_rfl
def rPri13_H : List Hint := [
  ⟨1152921504598491121, 3, [], ⟨[.und, .var 1, .und, .und, .int .i64 (.N 0), .int .i64 (.N 0), .bool (.B false), .int .i64 (.V 3), .int .i64 (.V 4), .bool (.V 5), .bool (.V 6), .und, .und, .und, .und, .und, .und, .und, .und, .und, .und, .und, .und, .und, .var 0, .int .i64 (.len (.V 0)), .int .i64 (.V 7), .und, .und, .und, .und, .und, .und, .und, .und, .und, .und, .und, .und, .und, .und, .und, .und, .und, .und, .und, .und, .und, .und, .und, .und, .und, .und, .und, .und, .und, .und, .und, .und, .und, .und, .und, .und, .und, .und, .und, .und, .und, .und, .und, .und, .und, .und, .und, .und, .und, .und, .und, .und, .und, .und, .und, .und], [], 8, 2, [none, none, none, none, none, none, none, none], [], [⟨0, [.int .i64, .int .i64, .int .i64], (.V 0)⟩, ⟨1, [.int .i64], (.V 1)⟩]⟩⟩]
def rPri13_K : Con := ⟨30, [.val false [.sl [.int .i64, .int .i64, .int .i64]], .val false [.sl [.int .i64]]], [.val false [.int .i64], .val false [.int .i64], .val false [.bool]], []⟩
def rPri13_T : T (List X) :=
  (.sub (.call 21 [(.V 0)] 1
   (.ite (.eq (.V 2) (.N 0))
    (.call 75 [(.V 0), (.V 1)] 1
     (.ret [(.not (.V 3))]))
    (.ret [(.B true)]))) 1
  (.ite (.V 2)
   (.ret [(.N 0), (.N 0), (.B false)])
   (.loop [(.N 0), (.N 0), (.B false), (.B false), (.N 0)]
    (.ite (.lt (.V 7) (.len (.V 0)))
     (.sub (.need (.and (.not (.lt (.V 7) (.N 0))) (.lt (.V 7) (.len (.V 0))))
       (.sub (.need (.and (.not (.lt (.V 7) (.N 0))) (.lt (.V 7) (.len (.V 1))))
         (.ite (.lt (.at (.V 0) (.V 7) 0) (.at (.V 1) (.V 7) 0))
          (.sub (.ite (.V 5)
            (.ret [(.lt (.V 3) (.wr .i64 (.mul (.at (.V 0) (.V 7) 2) (.wr .i64 (.add (.wr .i64 (.mul (.N 2) (.wr .i64 (.sub (.at (.V 1) (.V 7) 0) (.N 1))))) (.N 1))))))])
            (.ret [(.B true)])) 1
           (.ite (.V 8)
            (.ret [(.wr .i64 (.mul (.at (.V 0) (.V 7) 2) (.wr .i64 (.add (.wr .i64 (.mul (.N 2) (.wr .i64 (.sub (.at (.V 1) (.V 7) 0) (.N 1))))) (.N 1))))), (.B true)])
            (.ret [(.V 3), (.V 5)])))
          (.ret [(.V 3), (.V 5)]))) 2
        (.need (.and (.not (.lt (.V 7) (.N 0))) (.lt (.V 7) (.len (.V 1))))
         (.ite (.lt (.at (.V 1) (.V 7) 0) (.at (.V 0) (.V 7) 1))
          (.sub (.ite (.V 6)
            (.ret [(.lt (.wr .i64 (.mul (.at (.V 0) (.V 7) 2) (.wr .i64 (.add (.wr .i64 (.mul (.N 2) (.at (.V 1) (.V 7) 0))) (.N 1))))) (.V 4))])
            (.ret [(.B true)])) 1
           (.ite (.V 10)
            (.ret [(.V 8), (.wr .i64 (.mul (.at (.V 0) (.V 7) 2) (.wr .i64 (.add (.wr .i64 (.mul (.N 2) (.at (.V 1) (.V 7) 0))) (.N 1))))), (.V 9), (.B true)])
            (.ret [(.V 8), (.V 4), (.V 9), (.V 6)])))
          (.ret [(.V 8), (.V 4), (.V 9), (.V 6)]))))) 4
      (.ret (true, [(.V 8), (.V 9), (.V 10), (.V 11), (.wr .i64 (.add (.V 7) (.N 1)))])))
     (.ret (false, [(.V 3), (.V 4), (.V 5), (.V 6)]))) 4
    (.sub (.ite (.V 5)
      (.ret [(.not (.V 6))])
      (.ret [(.B true)])) 1
     (.ite (.V 7)
      (.ret [(.N 0), (.N 0), (.B false)])
      (.ret [(.V 3), (.V 4), (.B true)]))))))
set_option maxRecDepth 100000 in
theorem rPri13_t : runS Try.prog [rVal13_K.to [], rIns13_K.to []] [(30, rPri13_H)] rPri13_K = rPri13_T := by kernel_rfl
def rChk13_H : List Hint := [
  ⟨2196875900359, 7, [], ⟨[.var 0, .int .i64 (.V 1), .var 1, .und, .und, .und, .bool (.B false), .int .i64 (.V 3), .int .i64 (.V 4), .und, .int .i64 (.V 7), .und, .und, .und, .und, .und, .und, .und, .und, .und, .und, .und, .und, .und, .und, .und, .und, .und, .und, .und, .und, .var 1, .int .i64 (.len (.V 2)), .int .i64 (.V 8), .und, .und, .und, .und, .und, .und, .und, .und, .und, .und, .und, .und, .und, .und, .und, .und, .und, .und, .und, .und, .und, .und, .und, .und, .und, .und, .und, .und, .und, .und, .und, .und, .und, .und, .und, .und, .und, .und, .und, .und, .und, .und, .und, .und, .und, .und, .und, .und, .und, .und, .und, .und, .und, .und, .und, .und, .und, .und, .und, .und, .und, .und, .und, .und, .und, .und, .und], [], 9, 2, [none, none, none, none, none, none, none, none, none], [], [⟨0, [.int .i64, .int .i64, .int .i64], (.V 0)⟩, ⟨1, [.int .i64], (.V 2)⟩]⟩⟩,
  ⟨1152642228653514820, 8, [], ⟨[.var 0, .und, .var 1, .und, .und, .und, .bool (.B false), .und, .und, .und, .und, .und, .und, .und, .und, .und, .und, .und, .und, .und, .und, .und, .und, .und, .und, .und, .und, .und, .und, .und, .und, .und, .und, .und, .und, .und, .und, .und, .und, .und, .und, .und, .und, .und, .und, .und, .und, .und, .var 0, .int .i64 (.len (.V 0)), .int .i64 (.V 8), .und, .und, .und, .und, .und, .und, .und, .und, .und, .und, .und, .und, .und, .und, .und, .und, .und, .und, .und, .und, .und, .und, .und, .und, .und, .und, .und, .und, .und, .und, .und, .und, .und, .und, .und, .und, .und, .und, .und, .und, .und, .und, .und, .und, .und, .und, .und, .und, .und, .und], [], 9, 2, [none, none, none, none, none, none, none, none, none], [], [⟨0, [.int .i64, .int .i64, .int .i64], (.V 0)⟩, ⟨1, [.int .i64], (.V 2)⟩]⟩⟩,
  ⟨1152642228653514820, 9, [], ⟨[.var 0, .und, .var 1, .und, .und, .und, .bool (.B false), .und, .und, .und, .und, .und, .und, .int .i64 (.V 8), .ptr 0 0, .und, .und, .und, .und, .und, .und, .und, .und, .und, .und, .und, .und, .und, .und, .und, .und, .und, .und, .und, .und, .und, .und, .und, .und, .und, .und, .und, .und, .und, .und, .und, .und, .und, .var 0, .int .i64 (.len (.V 0)), .int .i64 (.V 8), .bool (.lt (.V 8) (.len (.V 0))), .int .i64 (.V 8), .el 0 (.V 8) 3 0, .agg [.int .i64 (.at (.V 0) (.V 8) 0), .int .i64 (.at (.V 0) (.V 8) 1), .int .i64 (.at (.V 0) (.V 8) 2)], .var 0, .int .i64 (.len (.V 0)), .int .i64 (.V 9), .und, .und, .und, .und, .und, .und, .und, .und, .und, .und, .und, .und, .und, .und, .und, .und, .und, .und, .und, .und, .und, .und, .und, .und, .und, .und, .und, .und, .und, .und, .und, .und, .und, .und, .und, .und, .und, .und, .und, .und, .und, .und, .und], [.fix [.int .i64 (.at (.V 0) (.V 8) 0), .int .i64 (.at (.V 0) (.V 8) 1), .int .i64 (.at (.V 0) (.V 8) 2)] true], 10, 2, [none, none, none, none, none, none, none, none, none, none], [], [⟨0, [.int .i64, .int .i64, .int .i64], (.V 0)⟩, ⟨1, [.int .i64], (.V 2)⟩]⟩⟩]
def rChk13_K : Con := ⟨32, [.val false [.sl [.int .i64, .int .i64, .int .i64]], .val false [.int .i64], .val false [.sl [.int .i64]]], [.val false [.bool]], []⟩
def rChk13_T : T (List X) :=
  (.call 19 [(.V 0)] 3
  (.sub (.ite (.eq (.V 5) (.N 0))
    (.call 75 [(.V 0), (.V 2)] 1
     (.ret [(.not (.V 6))]))
    (.ret [(.B true)])) 1
   (.ite (.V 6)
    (.ret [(.B false)])
    (.loop [(.N 0), (.N 0)]
     (.ite (.lt (.V 8) (.len (.V 2)))
      (.need (.and (.not (.lt (.V 8) (.N 0))) (.lt (.V 8) (.len (.V 2))))
       (.ret (true, [(.wr .i64 (.add (.V 7) (.at (.V 2) (.V 8) 0))), (.wr .i64 (.add (.V 8) (.N 1)))])))
      (.ret (false, [(.V 7)]))) 1
     (.ite (.eq (.V 7) (.mn (.mx (.V 1) (.V 3)) (.V 4)))
      (.loop [(.N 0)]
       (.ite (.lt (.V 8) (.len (.V 0)))
        (.need (.and (.not (.lt (.V 8) (.N 0))) (.lt (.V 8) (.len (.V 0))))
         (.loop [(.N 0)]
          (.ite (.lt (.V 9) (.len (.V 0)))
           (.need (.and (.not (.lt (.V 9) (.N 0))) (.lt (.V 9) (.len (.V 0))))
            (.sub (.ite (.eq (.V 8) (.V 9))
              (.ret [(.B false), (.B false), (.B false), (.B false), (.B false)])
              (.need (.and (.not (.lt (.V 8) (.N 0))) (.lt (.V 8) (.len (.V 2))))
               (.ite (.lt (.at (.V 0) (.V 8) 0) (.at (.V 2) (.V 8) 0))
                (.need (.and (.not (.lt (.V 9) (.N 0))) (.lt (.V 9) (.len (.V 2))))
                 (.ite (.lt (.at (.V 2) (.V 9) 0) (.at (.V 0) (.V 9) 1))
                  (.ret [(.lt (.at (.V 0) (.V 8) 0) (.at (.V 2) (.V 8) 0)), (.lt (.at (.V 0) (.V 8) 0) (.at (.V 2) (.V 8) 0)), (.lt (.at (.V 2) (.V 9) 0) (.at (.V 0) (.V 9) 1)), (.lt (.at (.V 2) (.V 9) 0) (.at (.V 0) (.V 9) 1)), (.lt (.wr .i64 (.mul (.at (.V 0) (.V 9) 2) (.wr .i64 (.add (.wr .i64 (.mul (.N 2) (.at (.V 2) (.V 9) 0))) (.N 1))))) (.wr .i64 (.mul (.at (.V 0) (.V 8) 2) (.wr .i64 (.add (.wr .i64 (.mul (.N 2) (.wr .i64 (.sub (.at (.V 2) (.V 8) 0) (.N 1))))) (.N 1))))))])
                  (.ret [(.lt (.at (.V 0) (.V 8) 0) (.at (.V 2) (.V 8) 0)), (.lt (.at (.V 0) (.V 8) 0) (.at (.V 2) (.V 8) 0)), (.lt (.at (.V 2) (.V 9) 0) (.at (.V 0) (.V 9) 1)), (.lt (.at (.V 2) (.V 9) 0) (.at (.V 0) (.V 9) 1)), (.B false)])))
                (.ret [(.lt (.at (.V 0) (.V 8) 0) (.at (.V 2) (.V 8) 0)), (.lt (.at (.V 0) (.V 8) 0) (.at (.V 2) (.V 8) 0)), (.B false), (.B false), (.B false)])))) 5
             (.ite (.V 14)
              (.ret (false, [(.N 0), (.at (.V 0) (.V 9) 0), (.at (.V 0) (.V 9) 1), (.at (.V 0) (.V 9) 2), (.V 9), (.V 9), (.lt (.V 9) (.len (.V 0))), (.V 9), (.at (.V 0) (.V 9) 0), (.at (.V 0) (.V 9) 1), (.at (.V 0) (.V 9) 2), (.V 9), (.not (.eq (.V 8) (.V 9))), (.not (.eq (.V 8) (.V 9))), (.V 10), (.V 11), (.V 12), (.V 13), (.V 14)]))
              (.ret (true, [(.wr .i64 (.add (.V 9) (.N 1)))])))))
           (.ret (false, [(.N 1), (.V 9), (.lt (.V 9) (.len (.V 0))), (.N 0), (.N 0), (.N 0), (.N 0), (.N 0), (.N 0), (.N 0), (.N 0), (.N 0), (.N 0), (.N 0), (.N 0), (.N 0), (.N 0), (.N 0), (.N 0)]))) 19
          (.ite (.eq (.V 9) (.N 0))
           (.ret (false, [(.N 0), (.at (.V 0) (.V 8) 0), (.at (.V 0) (.V 8) 1), (.at (.V 0) (.V 8) 2), (.V 10), (.V 11), (.V 12)]))
           (.ret (true, [(.wr .i64 (.add (.V 8) (.N 1)))])))))
        (.ret (false, [(.N 1), (.N 0), (.N 0), (.N 0), (.N 0), (.N 0), (.N 0)]))) 7
       (.ite (.eq (.V 8) (.N 0))
        (.ret [(.B false)])
        (.ret [(.B true)])))
      (.ret [(.B false)]))))))
set_option maxRecDepth 100000 in
theorem rChk13_t : runS Try.prog [rRea13_K.to [], rIns13_K.to []] [(32, rChk13_H)] rChk13_K = rChk13_T := by kernel_rfl
def rckM : Models := Models.on rRea13_K.f (rRea13_T.run rreM 30) (Models.on rIns13_K.f (rIns13_T.run noM 30) noM)
theorem rprice_gen {l x : List (List D)} : ∃ o, rPri13_T.run rsuM 30 [.l l, .l x] = some o ∧ o = prS l x := by
  refine run_to ?_
  unfold rPri13_T
  refine To.joinK (fun o => ∃ t, o = [.b t] ∧ (t = true ↔ ¬ (vd l = 0 ∧ inr l x = true))) ?_ ?_
  · refine To.viaK (by (try simp (disch := omega) only [X.den, X.dens, X.denss, D.int_i, D.boo_b, D.str_s, D.rows_l, List.getD_cons_zero, List.getD_cons_succ, List.cons_append, List.nil_append, List.append_nil, List.length_cons, List.length_nil, decide_eq_true_eq, decide_eq_false_iff_not, Bool.not_eq_true', Bool.not_eq_false', Bool.and_eq_true, Bool.and_eq_false_iff, Bool.true_eq_false, Bool.false_eq_true, Bool.not_true, Bool.not_false, eq_self, D.len_l, wr64, not_true_eq_false, not_false_eq_true]); exact rvalid_gen) ?_
    rintro _ ρ2 rfl eρ
    refine ⟨rfl, ?_⟩
    simp only [List.cons_append, List.nil_append] at eρ
    subst eρ
    refine To.ite (fun c => ?_) (fun c => ?_) <;> simp only [X.den, X.dens, X.denss, D.int_i, D.boo_b, D.str_s, D.rows_l, List.getD_cons_zero, List.getD_cons_succ, List.cons_append, List.nil_append, List.append_nil, List.length_cons, List.length_nil, decide_eq_true_eq, decide_eq_false_iff_not, Bool.not_eq_true', Bool.not_eq_false', Bool.and_eq_true, Bool.and_eq_false_iff, Bool.true_eq_false, Bool.false_eq_true, Bool.not_true, Bool.not_false, eq_self] at c
    · refine To.viaK (by (try simp (disch := omega) only [X.den, X.dens, X.denss, D.int_i, D.boo_b, D.str_s, D.rows_l, List.getD_cons_zero, List.getD_cons_succ, List.cons_append, List.nil_append, List.append_nil, List.length_cons, List.length_nil, decide_eq_true_eq, decide_eq_false_iff_not, Bool.not_eq_true', Bool.not_eq_false', Bool.and_eq_true, Bool.and_eq_false_iff, Bool.true_eq_false, Bool.false_eq_true, Bool.not_true, Bool.not_false, eq_self, D.len_l, wr64, not_true_eq_false, not_false_eq_true]); exact rinR_gen (vd_zero c).1) ?_
      rintro _ ρ2 rfl eρ
      refine ⟨rfl, ?_⟩
      simp only [List.cons_append, List.nil_append] at eρ
      subst eρ
      refine To.ret ⟨rfl, _, by simp only [X.den, X.dens, X.denss, D.int_i, D.boo_b, D.str_s, D.rows_l, List.getD_cons_zero, List.getD_cons_succ, List.cons_append, List.nil_append, List.append_nil, List.length_cons, List.length_nil]; rfl, ?_⟩
      simp only [c, true_and, eq_self]
      cases inr l x <;> simp
    · refine To.ret ⟨rfl, _, by simp only [X.den, X.dens, X.denss, D.int_i, D.boo_b, D.str_s, D.rows_l, List.getD_cons_zero, List.getD_cons_succ, List.cons_append, List.nil_append, List.append_nil, List.length_cons, List.length_nil]; rfl, ?_⟩
      simp only [c, false_and, not_false_eq_true]
  rintro o ρ2 ⟨t, rfl, ht⟩ eρ
  simp only [List.cons_append, List.nil_append] at eρ
  subst eρ
  refine To.ite (fun ct => ?_) (fun ct => ?_) <;> simp only [X.den, X.dens, X.denss, D.int_i, D.boo_b, D.str_s, D.rows_l, List.getD_cons_zero, List.getD_cons_succ, List.cons_append, List.nil_append, List.append_nil, List.length_cons, List.length_nil] at ct
  · refine To.ret ?_
    simp only [X.den, X.dens, X.denss, D.int_i, D.boo_b, D.str_s, D.rows_l, List.getD_cons_zero, List.getD_cons_succ, List.cons_append, List.nil_append, List.append_nil, List.length_cons, List.length_nil]
    have h := ht.1 ct
    unfold prS
    by_cases a : vd l = 0
    · rw [if_pos a, if_neg (fun b => h ⟨a, b⟩)]
    · rw [if_neg a]
  · have h : vd l = 0 ∧ inr l x = true := Classical.byContradiction fun q => by rw [ht.2 q] at ct; cases ct
    obtain ⟨h8, hv⟩ := vd_zero h.1
    obtain ⟨hx, hr⟩ := inr_true.1 h.2
    refine To.loopK (fun m o => ∃ (k : Nat) (a b : Int) (f g : Bool), o = [.i a, .i b, .b f, .b g, .i k] ∧ k + m = l.length ∧ ((f = true ∧ a = loP l x k ∧ loP l x k ≠ -1000200) ∨ (f = false ∧ loP l x k = -1000200)) ∧ ((g = true ∧ b = hiP l x k ∧ hiP l x k ≠ 1000200) ∨ (g = false ∧ hiP l x k = 1000200)))
      (fun o => ∃ (a b : Int) (f g : Bool), o = [.i a, .i b, .b f, .b g] ∧ ((f = true ∧ a = loP l x l.length ∧ loP l x l.length ≠ -1000200) ∨ (f = false ∧ loP l x l.length = -1000200)) ∧ ((g = true ∧ b = hiP l x l.length ∧ hiP l x l.length ≠ 1000200) ∨ (g = false ∧ hiP l x l.length = 1000200))) l.length (by omega) ?_ ?_ ?_
    · exact ⟨0, 0, 0, false, false, rfl, by omega, .inr ⟨rfl, rfl⟩, .inr ⟨rfl, rfl⟩⟩
    · rintro m o ρ2 ⟨k, a, b, f, g, rfl, hk, hf, hg⟩ eρ
      simp only [List.cons_append, List.nil_append] at eρ
      subst eρ
      refine To.ite (fun c => ?_) (fun c => ?_) <;> simp only [X.den, X.dens, X.denss, D.int_i, D.boo_b, D.str_s, D.rows_l, List.getD_cons_zero, List.getD_cons_succ, List.cons_append, List.nil_append, List.append_nil, List.length_cons, List.length_nil, decide_eq_true_eq, decide_eq_false_iff_not, Bool.not_eq_true', Bool.not_eq_false', Bool.and_eq_true, Bool.and_eq_false_iff, Bool.true_eq_false, Bool.false_eq_true, Bool.not_true, Bool.not_false, eq_self, D.len_l] at c
      · have b2 := loss_rng (hv k (by omega) (by omega)) (hr k (by omega) (by omega))
        have o2 := hv k (by omega) (by omega)
        have r2 := hr k (by omega) (by omega)
        simp only [okS] at o2
        have e1 : ce l 2 k * (2 * (ce x 0 k - 1) + 1) = lossF l x k := by rw [show 2 * (ce x 0 k - 1) + 1 = 2 * ce x 0 k - 1 by omega]; rfl
        have e2 : ce l 2 k * (2 * ce x 0 k + 1) = growF l x k := rfl
        refine To.joinK (fun o => ∃ (a b : Int) (f g : Bool), o = [.i a, .i b, .b f, .b g] ∧ ((f = true ∧ a = loP l x (k + 1) ∧ loP l x (k + 1) ≠ -1000200) ∨ (f = false ∧ loP l x (k + 1) = -1000200)) ∧ ((g = true ∧ b = hiP l x (k + 1) ∧ hiP l x (k + 1) ≠ 1000200) ∨ (g = false ∧ hiP l x (k + 1) = 1000200))) ?_ ?_
        · refine To.need (by simp only [X.den, X.dens, X.denss, D.int_i, D.boo_b, D.str_s, D.rows_l, List.getD_cons_zero, List.getD_cons_succ, List.cons_append, List.nil_append, List.append_nil, List.length_cons, List.length_nil, decide_eq_true_eq, decide_eq_false_iff_not, Bool.not_eq_true', Bool.not_eq_false', Bool.and_eq_true, Bool.and_eq_false_iff, Bool.true_eq_false, Bool.false_eq_true, Bool.not_true, Bool.not_false, eq_self, D.len_l]; omega) ?_
          refine To.joinK (fun o => ∃ (a : Int) (f : Bool), o = [.i a, .b f] ∧ ((f = true ∧ a = loP l x (k + 1) ∧ loP l x (k + 1) ≠ -1000200) ∨ (f = false ∧ loP l x (k + 1) = -1000200))) ?_ ?_
          · refine To.need (by simp only [X.den, X.dens, X.denss, D.int_i, D.boo_b, D.str_s, D.rows_l, List.getD_cons_zero, List.getD_cons_succ, List.cons_append, List.nil_append, List.append_nil, List.length_cons, List.length_nil, decide_eq_true_eq, decide_eq_false_iff_not, Bool.not_eq_true', Bool.not_eq_false', Bool.and_eq_true, Bool.and_eq_false_iff, Bool.true_eq_false, Bool.false_eq_true, Bool.not_true, Bool.not_false, eq_self, D.len_l]; omega) ?_
            refine To.ite (fun c => ?_) (fun c => ?_) <;> simp only [X.den, X.dens, X.denss, D.int_i, D.boo_b, D.str_s, D.rows_l, List.getD_cons_zero, List.getD_cons_succ, List.cons_append, List.nil_append, List.append_nil, List.length_cons, List.length_nil, decide_eq_true_eq, decide_eq_false_iff_not, Bool.not_eq_true', Bool.not_eq_false', Bool.and_eq_true, Bool.and_eq_false_iff, Bool.true_eq_false, Bool.false_eq_true, Bool.not_true, Bool.not_false, eq_self, ce_def] at c
            · have el : loP l x (k + 1) = max (loP l x k) (lossF l x k) := by simp only [loP, if_pos c]
              rw [el]
              refine To.joinK (fun o => ∃ u, o = [.b u] ∧ (u = true ↔ (f = false ∨ a < lossF l x k))) ?_ ?_
              · refine To.ite (fun c => ?_) (fun c => ?_) <;> simp only [X.den, X.dens, X.denss, D.int_i, D.boo_b, D.str_s, D.rows_l, List.getD_cons_zero, List.getD_cons_succ, List.cons_append, List.nil_append, List.append_nil, List.length_cons, List.length_nil] at c
                · refine To.ret ⟨rfl, decide (a < lossF l x k), ?_, by rw [decide_eq_true_eq, c]; simp⟩
                  simp (disch := omega) only [X.den, X.dens, X.denss, D.int_i, D.boo_b, D.str_s, D.rows_l, List.getD_cons_zero, List.getD_cons_succ, List.cons_append, List.nil_append, List.append_nil, List.length_cons, List.length_nil, wr64, ce_def, e1]
                · exact To.ret ⟨rfl, true, by simp only [X.den, X.dens, X.denss, D.int_i, D.boo_b, D.str_s, D.rows_l, List.getD_cons_zero, List.getD_cons_succ, List.cons_append, List.nil_append, List.append_nil, List.length_cons, List.length_nil], by simp [c]⟩
              rintro o ρ2 ⟨u, rfl, hu⟩ eρ
              simp only [List.cons_append, List.nil_append] at eρ
              subst eρ
              refine To.ite (fun c => ?_) (fun c => ?_) <;> simp only [X.den, X.dens, X.denss, D.int_i, D.boo_b, D.str_s, D.rows_l, List.getD_cons_zero, List.getD_cons_succ, List.cons_append, List.nil_append, List.append_nil, List.length_cons, List.length_nil] at c
              · refine To.ret ⟨rfl, lossF l x k, true, ?_, ?_⟩
                · simp (disch := omega) only [X.den, X.dens, X.denss, D.int_i, D.boo_b, D.str_s, D.rows_l, List.getD_cons_zero, List.getD_cons_succ, List.cons_append, List.nil_append, List.append_nil, List.length_cons, List.length_nil, wr64, ce_def, e1]
                · have := hu.1 c
                  refine .inl ⟨rfl, ?_⟩
                  rcases hf with ⟨h1, h2, h3⟩ | ⟨h1, h2⟩
                  · rw [h1] at this
                    have : a < lossF l x k := by simpa using this
                    omega
                  · omega
              · refine To.ret ⟨rfl, a, f, by simp only [X.den, X.dens, X.denss, D.int_i, D.boo_b, D.str_s, D.rows_l, List.getD_cons_zero, List.getD_cons_succ, List.cons_append, List.nil_append, List.append_nil, List.length_cons, List.length_nil], ?_⟩
                have nu : ¬ (f = false ∨ a < lossF l x k) := fun q => by rw [hu.2 q] at c; cases c
                rcases hf with ⟨h1, h2, h3⟩ | ⟨h1, h2⟩
                · refine .inl ⟨h1, ?_⟩
                  have : ¬ a < lossF l x k := fun q => nu (.inr q)
                  omega
                · exact absurd (.inl h1) nu
            · have el : loP l x (k + 1) = loP l x k := by simp only [loP, if_neg c]
              rw [el]
              exact To.ret ⟨rfl, a, f, by simp only [X.den, X.dens, X.denss, D.int_i, D.boo_b, D.str_s, D.rows_l, List.getD_cons_zero, List.getD_cons_succ, List.cons_append, List.nil_append, List.append_nil, List.length_cons, List.length_nil], hf⟩
          rintro o ρ2 ⟨a', f', rfl, hf'⟩ eρ
          simp only [List.cons_append, List.nil_append] at eρ
          subst eρ
          refine To.need (by simp only [X.den, X.dens, X.denss, D.int_i, D.boo_b, D.str_s, D.rows_l, List.getD_cons_zero, List.getD_cons_succ, List.cons_append, List.nil_append, List.append_nil, List.length_cons, List.length_nil, decide_eq_true_eq, decide_eq_false_iff_not, Bool.not_eq_true', Bool.not_eq_false', Bool.and_eq_true, Bool.and_eq_false_iff, Bool.true_eq_false, Bool.false_eq_true, Bool.not_true, Bool.not_false, eq_self, D.len_l]; omega) ?_
          refine To.ite (fun c => ?_) (fun c => ?_) <;> simp only [X.den, X.dens, X.denss, D.int_i, D.boo_b, D.str_s, D.rows_l, List.getD_cons_zero, List.getD_cons_succ, List.cons_append, List.nil_append, List.append_nil, List.length_cons, List.length_nil, decide_eq_true_eq, decide_eq_false_iff_not, Bool.not_eq_true', Bool.not_eq_false', Bool.and_eq_true, Bool.and_eq_false_iff, Bool.true_eq_false, Bool.false_eq_true, Bool.not_true, Bool.not_false, eq_self, ce_def] at c
          · have el : hiP l x (k + 1) = min (hiP l x k) (growF l x k) := by simp only [hiP, if_pos c]
            rw [el]
            refine To.joinK (fun o => ∃ u, o = [.b u] ∧ (u = true ↔ (g = false ∨ growF l x k < b))) ?_ ?_
            · refine To.ite (fun c => ?_) (fun c => ?_) <;> simp only [X.den, X.dens, X.denss, D.int_i, D.boo_b, D.str_s, D.rows_l, List.getD_cons_zero, List.getD_cons_succ, List.cons_append, List.nil_append, List.append_nil, List.length_cons, List.length_nil] at c
              · refine To.ret ⟨rfl, decide (growF l x k < b), ?_, by rw [decide_eq_true_eq, c]; simp⟩
                simp (disch := omega) only [X.den, X.dens, X.denss, D.int_i, D.boo_b, D.str_s, D.rows_l, List.getD_cons_zero, List.getD_cons_succ, List.cons_append, List.nil_append, List.append_nil, List.length_cons, List.length_nil, wr64, ce_def, e2]
              · exact To.ret ⟨rfl, true, by simp only [X.den, X.dens, X.denss, D.int_i, D.boo_b, D.str_s, D.rows_l, List.getD_cons_zero, List.getD_cons_succ, List.cons_append, List.nil_append, List.append_nil, List.length_cons, List.length_nil], by simp [c]⟩
            rintro o ρ2 ⟨u, rfl, hu⟩ eρ
            simp only [List.cons_append, List.nil_append] at eρ
            subst eρ
            refine To.ite (fun c => ?_) (fun c => ?_) <;> simp only [X.den, X.dens, X.denss, D.int_i, D.boo_b, D.str_s, D.rows_l, List.getD_cons_zero, List.getD_cons_succ, List.cons_append, List.nil_append, List.append_nil, List.length_cons, List.length_nil] at c
            · refine To.ret ⟨rfl, a', growF l x k, f', true, ?_, hf', ?_⟩
              · simp (disch := omega) only [X.den, X.dens, X.denss, D.int_i, D.boo_b, D.str_s, D.rows_l, List.getD_cons_zero, List.getD_cons_succ, List.cons_append, List.nil_append, List.append_nil, List.length_cons, List.length_nil, wr64, ce_def, e2]
              · have := hu.1 c
                refine .inl ⟨rfl, ?_⟩
                rcases hg with ⟨h1, h2, h3⟩ | ⟨h1, h2⟩
                · rw [h1] at this
                  have : growF l x k < b := by simpa using this
                  omega
                · omega
            · refine To.ret ⟨rfl, a', b, f', g, by simp only [X.den, X.dens, X.denss, D.int_i, D.boo_b, D.str_s, D.rows_l, List.getD_cons_zero, List.getD_cons_succ, List.cons_append, List.nil_append, List.append_nil, List.length_cons, List.length_nil], hf', ?_⟩
              have nu : ¬ (g = false ∨ growF l x k < b) := fun q => by rw [hu.2 q] at c; cases c
              rcases hg with ⟨h1, h2, h3⟩ | ⟨h1, h2⟩
              · refine .inl ⟨h1, ?_⟩
                have : ¬ growF l x k < b := fun q => nu (.inr q)
                omega
              · exact absurd (.inl h1) nu
          · have el : hiP l x (k + 1) = hiP l x k := by simp only [hiP, if_neg c]
            rw [el]
            exact To.ret ⟨rfl, a', b, f', g, by simp only [X.den, X.dens, X.denss, D.int_i, D.boo_b, D.str_s, D.rows_l, List.getD_cons_zero, List.getD_cons_succ, List.cons_append, List.nil_append, List.append_nil, List.length_cons, List.length_nil], hf', hg⟩
        · rintro o ρ2 ⟨a', b', f', g', rfl, hf', hg'⟩ eρ
          simp only [List.cons_append, List.nil_append] at eρ
          subst eρ
          refine To.ret (.inl ⟨rfl, m - 1, by omega, k + 1, a', b', f', g', ?_, by omega, hf', hg'⟩)
          simp (disch := omega) only [X.den, X.dens, X.denss, D.int_i, D.boo_b, D.str_s, D.rows_l, List.getD_cons_zero, List.getD_cons_succ, List.cons_append, List.nil_append, List.append_nil, List.length_cons, List.length_nil, wr64, nat_succ]
      · obtain rfl : k = l.length := by omega
        exact To.ret (.inr ⟨rfl, a, b, f, g, by simp only [X.den, X.dens, X.denss, D.int_i, D.boo_b, D.str_s, D.rows_l, List.getD_cons_zero, List.getD_cons_succ, List.cons_append, List.nil_append, List.append_nil, List.length_cons, List.length_nil], hf, hg⟩)
    · rintro o ρ2 ⟨a, b, f, g, rfl, hf, hg⟩ eρ
      simp only [List.cons_append, List.nil_append] at eρ
      subst eρ
      refine ⟨rfl, ?_⟩
      unfold prS
      rw [if_pos h.1, if_pos h.2]
      refine To.joinK (fun o => ∃ t, o = [.b t] ∧ (t = true ↔ (f = false ∨ g = false))) ?_ ?_
      · refine To.ite (fun c => ?_) (fun c => ?_) <;> simp only [X.den, X.dens, X.denss, D.int_i, D.boo_b, D.str_s, D.rows_l, List.getD_cons_zero, List.getD_cons_succ, List.cons_append, List.nil_append, List.append_nil, List.length_cons, List.length_nil] at c
        · refine To.ret ⟨rfl, !g, by simp only [X.den, X.dens, X.denss, D.int_i, D.boo_b, D.str_s, D.rows_l, List.getD_cons_zero, List.getD_cons_succ, List.cons_append, List.nil_append, List.append_nil, List.length_cons, List.length_nil], by simp [c]⟩
        · exact To.ret ⟨rfl, true, by simp only [X.den, X.dens, X.denss, D.int_i, D.boo_b, D.str_s, D.rows_l, List.getD_cons_zero, List.getD_cons_succ, List.cons_append, List.nil_append, List.append_nil, List.length_cons, List.length_nil], by simp [c]⟩
      · rintro o ρ2 ⟨t, rfl, ht⟩ eρ
        simp only [List.cons_append, List.nil_append] at eρ
        subst eρ
        refine To.ite (fun ct => ?_) (fun ct => ?_) <;> simp only [X.den, X.dens, X.denss, D.int_i, D.boo_b, D.str_s, D.rows_l, List.getD_cons_zero, List.getD_cons_succ, List.cons_append, List.nil_append, List.append_nil, List.length_cons, List.length_nil] at ct
        · refine To.ret ?_
          simp only [X.den, X.dens, X.denss, D.int_i, D.boo_b, D.str_s, D.rows_l, List.getD_cons_zero, List.getD_cons_succ, List.cons_append, List.nil_append, List.append_nil, List.length_cons, List.length_nil]
          rcases ht.1 ct with q | q
          · rcases hf with ⟨h1, _⟩ | ⟨_, h2⟩
            · rw [h1] at q; cases q
            · rw [if_pos h2]
          · rcases hg with ⟨h1, _⟩ | ⟨_, h2⟩
            · rw [h1] at q; cases q
            · rw [if_pos h2]
              split <;> rfl
        · refine To.ret ?_
          simp only [X.den, X.dens, X.denss, D.int_i, D.boo_b, D.str_s, D.rows_l, List.getD_cons_zero, List.getD_cons_succ, List.cons_append, List.nil_append, List.append_nil, List.length_cons, List.length_nil]
          have nq : ¬ (f = false ∨ g = false) := fun q => by rw [ht.2 q] at ct; cases ct
          rcases hf with ⟨_, h2, h3⟩ | ⟨h1, _⟩
          · rcases hg with ⟨_, h4, h5⟩ | ⟨h1, _⟩
            · rw [if_neg h3, if_neg h5, h2, h4]
            · exact absurd (.inr h1) nq
          · exact absurd (.inl h1) nq
theorem rPri13_ok : ConOk Try.prog rPri13_K (rPri13_T.run rsuM 30) := con_run follows (one_con (rVal13_ok.to _) (one_con (rIns13_ok.to _) no_cons)) rPri13_t rfl 30
theorem goal_alt {l : List (List D)} {t : Int} (hv : vd l = 0) : min (max t (reS l 0)) (reS l 1) = goal l t := by
  have : reS l 0 ≤ reS l 1 := by
    simp only [reS, if_pos hv]
    exact sumf_le fun i a b => by have := (vd_zero hv).2 i a b; simp only [okS] at this; omega
  unfold goal
  omega
theorem rcheck_gen {l x : List (List D)} {t : Int} : ∃ o, rChk13_T.run rckM 30 [.l l, .i t, .l x] = some o ∧ o = [.b (chk l t x)] := by
  refine run_to ?_
  unfold rChk13_T
  refine To.viaK (by (try simp (disch := omega) only [X.den, X.dens, X.denss, D.int_i, D.boo_b, D.str_s, D.rows_l, List.getD_cons_zero, List.getD_cons_succ, List.cons_append, List.nil_append, List.append_nil, List.length_cons, List.length_nil, decide_eq_true_eq, decide_eq_false_iff_not, Bool.not_eq_true', Bool.not_eq_false', Bool.and_eq_true, Bool.and_eq_false_iff, Bool.true_eq_false, Bool.false_eq_true, Bool.not_true, Bool.not_false, eq_self, D.len_l, wr64, not_true_eq_false, not_false_eq_true]); exact rreach_gen) ?_
  rintro _ ρ2 rfl eρ
  refine ⟨rfl, ?_⟩
  simp only [List.cons_append, List.nil_append] at eρ
  subst eρ
  refine To.joinK (fun o => ∃ b, o = [.b b] ∧ (b = true ↔ ¬ (vd l = 0 ∧ InR l x))) ?_ ?_
  · refine To.ite (fun c => ?_) (fun c => ?_) <;> simp only [X.den, X.dens, X.denss, D.int_i, D.boo_b, D.str_s, D.rows_l, List.getD_cons_zero, List.getD_cons_succ, List.cons_append, List.nil_append, List.append_nil, List.length_cons, List.length_nil, decide_eq_true_eq, decide_eq_false_iff_not, Bool.not_eq_true', Bool.not_eq_false', Bool.and_eq_true, Bool.and_eq_false_iff, Bool.true_eq_false, Bool.false_eq_true, Bool.not_true, Bool.not_false, eq_self] at c
    · obtain ⟨h8, hv⟩ := vd_zero c
      refine To.viaK (by (try simp (disch := omega) only [X.den, X.dens, X.denss, D.int_i, D.boo_b, D.str_s, D.rows_l, List.getD_cons_zero, List.getD_cons_succ, List.cons_append, List.nil_append, List.append_nil, List.length_cons, List.length_nil, decide_eq_true_eq, decide_eq_false_iff_not, Bool.not_eq_true', Bool.not_eq_false', Bool.and_eq_true, Bool.and_eq_false_iff, Bool.true_eq_false, Bool.false_eq_true, Bool.not_true, Bool.not_false, eq_self, D.len_l, wr64, not_true_eq_false, not_false_eq_true]); exact rinR_gen h8) ?_
      rintro _ ρ2 rfl eρ
      refine ⟨rfl, ?_⟩
      simp only [List.cons_append, List.nil_append] at eρ
      subst eρ
      refine To.ret ⟨rfl, _, by simp only [X.den, X.dens, X.denss, D.int_i, D.boo_b, D.str_s, D.rows_l, List.getD_cons_zero, List.getD_cons_succ, List.cons_append, List.nil_append, List.append_nil, List.length_cons, List.length_nil]; rfl, ?_⟩
      simp only [c, true_and, eq_self, ← inr_true]
      cases inr l x <;> simp
    · refine To.ret ⟨rfl, _, by simp only [X.den, X.dens, X.denss, D.int_i, D.boo_b, D.str_s, D.rows_l, List.getD_cons_zero, List.getD_cons_succ, List.cons_append, List.nil_append, List.append_nil, List.length_cons, List.length_nil]; rfl, ?_⟩
      simp only [c, false_and, not_false_eq_true]
  rintro o ρ2 ⟨b, rfl, hb⟩ eρ
  simp only [List.cons_append, List.nil_append] at eρ
  subst eρ
  refine To.ite (fun ct => ?_) (fun ct => ?_) <;> simp only [X.den, X.dens, X.denss, D.int_i, D.boo_b, D.str_s, D.rows_l, List.getD_cons_zero, List.getD_cons_succ, List.cons_append, List.nil_append, List.append_nil, List.length_cons, List.length_nil] at ct
  · refine To.ret ?_
    have : chk l t x = false := Bool.eq_false_iff.2 fun q => hb.1 ct ⟨(chk_true.1 q).1.1, (chk_true.1 q).1.2.1⟩
    simp only [X.den, X.dens, X.denss, D.int_i, D.boo_b, D.str_s, D.rows_l, List.getD_cons_zero, List.getD_cons_succ, List.cons_append, List.nil_append, List.append_nil, List.length_cons, List.length_nil, this]
  · have h : vd l = 0 ∧ InR l x := Classical.byContradiction fun q => by rw [hb.2 q] at ct; cases ct
    obtain ⟨h8, hv⟩ := vd_zero h.1
    obtain ⟨hx, hr⟩ := h.2
    have ga := goal_alt (t := t) h.1
    have hbd : ∀ k : Nat, k ≤ l.length → -5000 * (k : Int) ≤ sumf (ce x 0) k ∧ sumf (ce x 0) k ≤ 5000 * k := fun k hk => sumf_bound fun i i0 i1 => by
      have a := hv i i0 (by omega)
      have b := hr i i0 (by omega)
      simp only [okS] at a
      omega
    refine To.loopK (fun m o => ∃ k : Nat, o = [.i (sumf (ce x 0) k), .i k] ∧ k + m = l.length) (fun o => o = [.i (sumf (ce x 0) l.length)]) l.length (by omega) ?_ ?_ ?_
    · exact ⟨0, rfl, by omega⟩
    · rintro m o ρ2 ⟨k, rfl, hk⟩ eρ
      simp only [List.cons_append, List.nil_append] at eρ
      subst eρ
      refine To.ite (fun c => ?_) (fun c => ?_) <;> simp only [X.den, X.dens, X.denss, D.int_i, D.boo_b, D.str_s, D.rows_l, List.getD_cons_zero, List.getD_cons_succ, List.cons_append, List.nil_append, List.append_nil, List.length_cons, List.length_nil, decide_eq_true_eq, decide_eq_false_iff_not, Bool.not_eq_true', Bool.not_eq_false', Bool.and_eq_true, Bool.and_eq_false_iff, Bool.true_eq_false, Bool.false_eq_true, Bool.not_true, Bool.not_false, eq_self, D.len_l] at c
      · refine To.need (by simp only [X.den, X.dens, X.denss, D.int_i, D.boo_b, D.str_s, D.rows_l, List.getD_cons_zero, List.getD_cons_succ, List.cons_append, List.nil_append, List.append_nil, List.length_cons, List.length_nil, decide_eq_true_eq, decide_eq_false_iff_not, Bool.not_eq_true', Bool.not_eq_false', Bool.and_eq_true, Bool.and_eq_false_iff, Bool.true_eq_false, Bool.false_eq_true, Bool.not_true, Bool.not_false, eq_self, D.len_l]; omega) ?_
        have b := hbd k (by omega)
        have b2 := hbd (k + 1) (by omega)
        simp only [sumf] at b2
        refine To.ret (.inl ⟨rfl, m - 1, by omega, k + 1, ?_, by omega⟩)
        simp (disch := omega) only [X.den, X.dens, X.denss, D.int_i, D.boo_b, D.str_s, D.rows_l, List.getD_cons_zero, List.getD_cons_succ, List.cons_append, List.nil_append, List.append_nil, List.length_cons, List.length_nil, wr64, ce_def, sumf, nat_succ]
      · obtain rfl : k = l.length := by omega
        exact To.ret (.inr ⟨rfl, by simp only [X.den, X.dens, X.denss, D.int_i, D.boo_b, D.str_s, D.rows_l, List.getD_cons_zero, List.getD_cons_succ, List.cons_append, List.nil_append, List.append_nil, List.length_cons, List.length_nil]⟩)
    rintro o ρ2 rfl eρ
    simp only [List.cons_append, List.nil_append] at eρ
    subst eρ
    refine ⟨rfl, ?_⟩
    refine To.ite (fun cg => ?_) (fun cg => ?_) <;> simp only [X.den, X.dens, X.denss, D.int_i, D.boo_b, D.str_s, D.rows_l, List.getD_cons_zero, List.getD_cons_succ, List.cons_append, List.nil_append, List.append_nil, List.length_cons, List.length_nil, decide_eq_true_eq, decide_eq_false_iff_not, Bool.not_eq_true', Bool.not_eq_false', Bool.and_eq_true, Bool.and_eq_false_iff, Bool.true_eq_false, Bool.false_eq_true, Bool.not_true, Bool.not_false, eq_self] at cg
    · rw [ga] at cg
      have no : ∀ i j : Int, 0 ≤ i → i < l.length → 0 ≤ j → j < l.length → ¬ Cond l x i j → chk l t x = false := fun i j a b d e f => Bool.eq_false_iff.2 fun q => f ((chk_true.1 q).2 i j a b d e)
      refine To.loopK (fun m o => ∃ i : Int, o = [.i i] ∧ 0 ≤ i ∧ i + m = l.length ∧ ∀ a : Int, 0 ≤ a → a < i → ∀ b : Int, 0 ≤ b → b < l.length → Cond l x a b) (fun o => (∃ rest, o = .i 0 :: rest ∧ rest.length = 6 ∧ chk l t x = false) ∨ (∃ rest, o = .i 1 :: rest ∧ rest.length = 6 ∧ chk l t x = true)) l.length (by omega) ?_ ?_ ?_
      · exact ⟨0, by simp only [X.den, X.dens, X.denss, D.int_i, D.boo_b, D.str_s, D.rows_l, List.getD_cons_zero, List.getD_cons_succ, List.cons_append, List.nil_append, List.append_nil, List.length_cons, List.length_nil], by omega, by omega, by intro a; omega⟩
      · rintro m o ρ2 ⟨i, rfl, i0, i1, hi⟩ eρ
        simp only [List.cons_append, List.nil_append] at eρ
        subst eρ
        refine To.ite (fun c => ?_) (fun c => ?_) <;> simp only [X.den, X.dens, X.denss, D.int_i, D.boo_b, D.str_s, D.rows_l, List.getD_cons_zero, List.getD_cons_succ, List.cons_append, List.nil_append, List.append_nil, List.length_cons, List.length_nil, decide_eq_true_eq, decide_eq_false_iff_not, Bool.not_eq_true', Bool.not_eq_false', Bool.and_eq_true, Bool.and_eq_false_iff, Bool.true_eq_false, Bool.false_eq_true, Bool.not_true, Bool.not_false, eq_self, D.len_l] at c
        · refine To.need (by simp only [X.den, X.dens, X.denss, D.int_i, D.boo_b, D.str_s, D.rows_l, List.getD_cons_zero, List.getD_cons_succ, List.cons_append, List.nil_append, List.append_nil, List.length_cons, List.length_nil, decide_eq_true_eq, decide_eq_false_iff_not, Bool.not_eq_true', Bool.not_eq_false', Bool.and_eq_true, Bool.and_eq_false_iff, Bool.true_eq_false, Bool.false_eq_true, Bool.not_true, Bool.not_false, eq_self, D.len_l]; omega) ?_
          refine To.loopK (fun m o => ∃ j : Int, o = [.i j] ∧ 0 ≤ j ∧ j + m = l.length ∧ ∀ b : Int, 0 ≤ b → b < j → Cond l x i b) (fun o => ∃ r1 r2 r3 rest, ((o = .i 0 :: r1 :: r2 :: r3 :: rest ∧ rest.length = 15 ∧ chk l t x = false) ∨ (o = .i 1 :: r1 :: r2 :: r3 :: rest ∧ rest.length = 15 ∧ ∀ b : Int, 0 ≤ b → b < l.length → Cond l x i b))) l.length (by omega) ?_ ?_ ?_
          · exact ⟨0, by simp only [X.den, X.dens, X.denss, D.int_i, D.boo_b, D.str_s, D.rows_l, List.getD_cons_zero, List.getD_cons_succ, List.cons_append, List.nil_append, List.append_nil, List.length_cons, List.length_nil], by omega, by omega, by intro a; omega⟩
          · rintro n o ρ2 ⟨j, rfl, j0, j1, hj⟩ eρ
            simp only [List.cons_append, List.nil_append] at eρ
            subst eρ
            refine To.ite (fun c2 => ?_) (fun c2 => ?_) <;> simp only [X.den, X.dens, X.denss, D.int_i, D.boo_b, D.str_s, D.rows_l, List.getD_cons_zero, List.getD_cons_succ, List.cons_append, List.nil_append, List.append_nil, List.length_cons, List.length_nil, decide_eq_true_eq, decide_eq_false_iff_not, Bool.not_eq_true', Bool.not_eq_false', Bool.and_eq_true, Bool.and_eq_false_iff, Bool.true_eq_false, Bool.false_eq_true, Bool.not_true, Bool.not_false, eq_self, D.len_l] at c2
            · have oi := hv i i0 (by omega)
              have oj := hv j j0 (by omega)
              have ri := hr i i0 (by omega)
              have rj := hr j j0 (by omega)
              have bi := loss_rng oi ri
              have bj := loss_rng oj rj
              simp only [okS] at oi oj
              have e1 : ce l 2 i * (2 * (ce x 0 i - 1) + 1) = lossF l x i := by rw [show 2 * (ce x 0 i - 1) + 1 = 2 * ce x 0 i - 1 by omega]; rfl
              have e3 : ce l 2 i * (2 * ce x 0 i - 1) = lossF l x i := rfl
              have e2 : ce l 2 j * (2 * ce x 0 j + 1) = growF l x j := rfl
              refine To.need (by simp only [X.den, X.dens, X.denss, D.int_i, D.boo_b, D.str_s, D.rows_l, List.getD_cons_zero, List.getD_cons_succ, List.cons_append, List.nil_append, List.append_nil, List.length_cons, List.length_nil, decide_eq_true_eq, decide_eq_false_iff_not, Bool.not_eq_true', Bool.not_eq_false', Bool.and_eq_true, Bool.and_eq_false_iff, Bool.true_eq_false, Bool.false_eq_true, Bool.not_true, Bool.not_false, eq_self, D.len_l]; omega) ?_
              refine To.joinK (fun o => ∃ a1 a2 a3 a4 b, o = [a1, a2, a3, a4, .b b] ∧ (b = true ↔ ¬ Cond l x i j)) ?_ ?_
              · (repeat' (first
                  | (refine To.need (by simp only [X.den, X.dens, X.denss, D.int_i, D.boo_b, D.str_s, D.rows_l, List.getD_cons_zero, List.getD_cons_succ, List.cons_append, List.nil_append, List.append_nil, List.length_cons, List.length_nil, decide_eq_true_eq, decide_eq_false_iff_not, Bool.not_eq_true', Bool.not_eq_false', Bool.and_eq_true, Bool.and_eq_false_iff, Bool.true_eq_false, Bool.false_eq_true, Bool.not_true, Bool.not_false, eq_self, D.len_l]; omega) ?_)
                  | (refine To.ite (fun c => ?_) (fun c => ?_) <;> simp only [X.den, X.dens, X.denss, D.int_i, D.boo_b, D.str_s, D.rows_l, List.getD_cons_zero, List.getD_cons_succ, List.cons_append, List.nil_append, List.append_nil, List.length_cons, List.length_nil, decide_eq_true_eq, decide_eq_false_iff_not, Bool.not_eq_true', Bool.not_eq_false', Bool.and_eq_true, Bool.and_eq_false_iff, Bool.true_eq_false, Bool.false_eq_true, Bool.not_true, Bool.not_false, eq_self, D.len_l, ce_def] at c)))
                all_goals (refine To.ret ⟨rfl, _, _, _, _, _, rfl, ?_⟩; simp (disch := omega) only [X.den, X.dens, X.denss, D.int_i, D.boo_b, D.str_s, D.rows_l, List.getD_cons_zero, List.getD_cons_succ, List.cons_append, List.nil_append, List.append_nil, List.length_cons, List.length_nil, decide_eq_true_eq, decide_eq_false_iff_not, Bool.not_eq_true', Bool.not_eq_false', Bool.and_eq_true, Bool.and_eq_false_iff, Bool.true_eq_false, Bool.false_eq_true, Bool.not_true, Bool.not_false, eq_self, wr64, ce_def, Cond, e1, e2, e3])
                all_goals grind
              rintro o ρ2 ⟨a1, a2, a3, a4, b, rfl, ht⟩ eρ
              simp only [List.cons_append, List.nil_append] at eρ
              subst eρ
              refine To.ite (fun c3 => ?_) (fun c3 => ?_) <;> simp only [X.den, X.dens, X.denss, D.int_i, D.boo_b, D.str_s, D.rows_l, List.getD_cons_zero, List.getD_cons_succ, List.cons_append, List.nil_append, List.append_nil, List.length_cons, List.length_nil] at c3
              · exact To.ret (.inr ⟨rfl, _, _, _, _, .inl ⟨rfl, rfl, no i j i0 (by omega) j0 (by omega) (ht.1 c3)⟩⟩)
              · refine To.ret (.inl ⟨rfl, n - 1, by omega, ?_⟩)
                simp (disch := omega) only [X.den, X.dens, X.denss, D.int_i, D.boo_b, D.str_s, D.rows_l, List.getD_cons_zero, List.getD_cons_succ, List.cons_append, List.nil_append, List.append_nil, List.length_cons, List.length_nil, wr64]
                refine ⟨_, rfl, by omega, by omega, fun b b0 b1 => ?_⟩
                by_cases e : b = j
                · subst e
                  exact Classical.byContradiction fun q => by rw [ht.2 q] at c3; cases c3
                · exact hj b b0 (by omega)
            · exact To.ret (.inr ⟨rfl, _, _, _, _, .inr ⟨rfl, rfl, fun b b0 b1 => hj b b0 (by omega)⟩⟩)
          · rintro o ρ2 ⟨r1, r2, r3, rest, (⟨rfl, hl, hc⟩ | ⟨rfl, hl, hc⟩)⟩ eρ
            · simp only [List.cons_append, List.nil_append] at eρ
              subst eρ
              refine ⟨by simp only [List.length_cons, hl], To.yes rfl (To.ret (.inr ⟨rfl, .inl ⟨_, rfl, rfl, hc⟩⟩))⟩
            · simp only [List.cons_append, List.nil_append] at eρ
              subst eρ
              refine ⟨by simp only [List.length_cons, hl], To.no rfl (To.ret (.inl ⟨rfl, m - 1, by omega, ?_⟩))⟩
              simp (disch := omega) only [X.den, X.dens, X.denss, D.int_i, D.boo_b, D.str_s, D.rows_l, List.getD_cons_zero, List.getD_cons_succ, List.cons_append, List.nil_append, List.append_nil, List.length_cons, List.length_nil, wr64]
              refine ⟨_, rfl, by omega, by omega, fun a a0 a1 => ?_⟩
              by_cases e : a = i
              · subst e; exact hc
              · exact hi a a0 (by omega)
        · refine To.ret (.inr ⟨rfl, .inr ⟨_, rfl, rfl, ?_⟩⟩)
          exact chk_true.2 ⟨⟨h.1, h.2, cg⟩, fun i j a b d e => hi i a (by omega) j d e⟩
      · rintro o ρ2 (⟨rest, rfl, hl, h⟩ | ⟨rest, rfl, hl, h⟩) eρ
        · simp only [List.cons_append, List.nil_append] at eρ
          subst eρ
          refine ⟨by simp only [List.length_cons, hl], To.yes rfl (To.ret ?_)⟩
          simp only [X.den, X.dens, X.denss, D.int_i, D.boo_b, D.str_s, D.rows_l, List.getD_cons_zero, List.getD_cons_succ, List.cons_append, List.nil_append, List.append_nil, List.length_cons, List.length_nil, h]
        · simp only [List.cons_append, List.nil_append] at eρ
          subst eρ
          refine ⟨by simp only [List.length_cons, hl], To.no rfl (To.ret ?_)⟩
          simp only [X.den, X.dens, X.denss, D.int_i, D.boo_b, D.str_s, D.rows_l, List.getD_cons_zero, List.getD_cons_succ, List.cons_append, List.nil_append, List.append_nil, List.length_cons, List.length_nil, h]
    · rw [ga] at cg
      refine To.ret ?_
      have : chk l t x = false := Bool.eq_false_iff.2 fun q => cg (chk_true.1 q).1.2.2
      simp only [X.den, X.dens, X.denss, D.int_i, D.boo_b, D.str_s, D.rows_l, List.getD_cons_zero, List.getD_cons_succ, List.cons_append, List.nil_append, List.append_nil, List.length_cons, List.length_nil, this]
theorem rChk13_ok : ConOk Try.prog rChk13_K (rChk13_T.run rckM 30) := con_run follows (one_con (rRea13_ok.to _) (one_con (rIns13_ok.to _) no_cons)) rChk13_t rfl 30
end Go.Proofs.Ytlhnhidoljfnnaa
