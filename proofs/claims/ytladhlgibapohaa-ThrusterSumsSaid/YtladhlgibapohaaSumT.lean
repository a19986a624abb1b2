/- The trees of ships. -/
import Derived.Test.YtladhlgibapohaaThrT
set_option linter.unusedVariables false
namespace Go.Proofs.Ytladhlgibapohaa
open Go.RowKit Fx
def srcShip_K : Con := ⟨31, [.ptr [.sl [.int .i64], .int .i64], .val false [.int .i64]], [.val true [.int .i64, .int .i64, .sl [.int .i64, .int .i64, .int .i64, .int .i64, .int .i64, .sl [.int .i64, .int .i64]]]], []⟩
def srcShip_T : T (List X) :=
  (.call 21 [(.V 0), (.V 1), (.N 4)] 3
  (.need (.and (.not (.lt (.V 3) (.N 0))) (.lt (.V 3) (.N 4)))
   (.call 21 [(.V 4), (.V 5), (.N 3)] 3
    (.need (.and (.not (.lt (.V 6) (.N 0))) (.lt (.V 6) (.N 3)))
     (.call 21 [(.V 7), (.V 8), (.wr .i64 (.add (.V 2) (.N 1)))] 3
      (.loop [(.rows []), (.V 10), (.V 11), (.V 9)]
       (.ite (.lt (.N 0) (.V 15))
        (.call 26 [(.V 13), (.V 14)] 8
         (.need (.not (.lt (.N 2199023255552) (.add (.len (.V 12)) (.N 1))))
          (.ret (true, [(.app (.V 12) (.rows [[(.V 16), (.V 17), (.V 18), (.V 19), (.V 20), (.V 21)]])), (.V 22), (.V 23), (.wr .i64 (.sub (.V 15) (.N 1)))]))))
        (.ret (false, [(.V 12), (.V 13), (.V 14)]))) 3
       (.ret [(.at (.rows [[(.N 0)], [(.N 1)], [(.N 30)], [(.N 60)]]) (.V 3) 0), (.at (.rows [[(.N 1)], [(.N 25)], [(.N 40)]]) (.V 6) 0), (.V 12), (.V 13), (.V 14)])))))))
set_option maxRecDepth 100000 in
theorem srcShip_t : runS Try.prog [srcN_K.to [], srcThr_K.to []] [31] srcShip_K = srcShip_T := by kernel_rfl
def srcThs_K : Con := ⟨32, [.ptr [.sl [.int .i64], .int .i64], .val true [.int .i64, .int .i64, .sl [.int .i64, .int .i64, .int .i64, .int .i64, .int .i64, .sl [.int .i64, .int .i64]]]], [.val false [.sl [.int .i64, .int .i64]]], []⟩
def srcThs_T : T (List X) :=
  (.loop [(.rows []), (.V 0), (.V 1), (.N 0)]
  (.ite (.lt (.V 8) (.len (.V 4)))
   (.call 21 [(.V 6), (.V 7), (.N 41)] 3
    (.call 21 [(.V 10), (.V 11), (.N 41)] 3
     (.need (.not (.lt (.N 8796093022208) (.add (.len (.V 5)) (.N 1))))
      (.ret (true, [(.app (.V 5) (.rows [[(.wr .i64 (.add (.N (-20)) (.V 9))), (.wr .i64 (.add (.N (-20)) (.V 12)))]])), (.V 13), (.V 14), (.wr .i64 (.add (.V 8) (.N 1)))])))))
   (.ret (false, [(.V 5), (.V 6), (.V 7)]))) 3
  (.ret [(.V 5), (.V 6), (.V 7)]))
set_option maxRecDepth 100000 in
theorem srcThs_t : runS Try.prog [srcN_K.to []] [32] srcThs_K = srcThs_T := by kernel_rfl
def tCheck_K : Con := ⟨61, [.val true [.int .i64, .int .i64, .sl [.int .i64, .int .i64, .int .i64, .int .i64, .int .i64, .sl [.int .i64, .int .i64]]]], [.val false [.int .i64]], []⟩
def tCheck_T : T (List X) :=
  (.ite (.lt (.N 8) (.len (.V 2)))
  (.ret [(.N 2)])
  (.sub (.sub (.ite (.lt (.V 0) (.N 0))
     (.ret [(.B false)])
     (.ret [(.not (.lt (.N 200) (.V 0)))])) 1
    (.ite (.V 3)
     (.sub (.ite (.lt (.V 1) (.N 0))
       (.ret [(.B false)])
       (.ret [(.not (.lt (.N 200) (.V 1)))])) 1
      (.ite (.V 4)
       (.ite (.eq (.V 0) (.N 0))
        (.ret [(.eq (.V 1) (.N 0))])
        (.ret [(.B false)]))
       (.ret [(.B true)])))
     (.ret [(.B true)]))) 1
   (.ite (.V 3)
    (.ret [(.N 1)])
    (.loop [(.N 0)]
     (.ite (.lt (.V 4) (.len (.V 2)))
      (.need (.and (.not (.lt (.V 4) (.N 0))) (.lt (.V 4) (.len (.V 2))))
       (.call 37 [(.at (.V 2) (.V 4) 0), (.at (.V 2) (.V 4) 1), (.at (.V 2) (.V 4) 2), (.at (.V 2) (.V 4) 3), (.at (.V 2) (.V 4) 4), (.at (.V 2) (.V 4) 5)] 1
        (.ite (.V 5)
         (.ret (true, [(.wr .i64 (.add (.V 4) (.N 1)))]))
         (.ret (false, [(.N 0), (.at (.V 2) (.V 4) 0), (.at (.V 2) (.V 4) 1), (.at (.V 2) (.V 4) 2), (.at (.V 2) (.V 4) 3), (.at (.V 2) (.V 4) 4), (.at (.V 2) (.V 4) 5)])))))
      (.ret (false, [(.N 1), (.N 0), (.N 0), (.N 0), (.N 0), (.N 0), (.N 0)]))) 7
     (.ite (.eq (.V 4) (.N 0))
      (.ret [(.N 14)])
      (.ret [(.N 0)]))))))
set_option maxRecDepth 100000 in
theorem tCheck_t : runS Try.prog [sValid_K.to []] [61] tCheck_K = tCheck_T := by kernel_rfl
def tTotal_K : Con := ⟨33, [.val true [.int .i64, .int .i64, .sl [.int .i64, .int .i64, .int .i64, .int .i64, .int .i64, .sl [.int .i64, .int .i64]]], .val false [.sl [.int .i64, .int .i64]]], [.val true [.int .i64, .int .i64, .int .i64], .val false [.int .i64]], []⟩
def tTotal_T : T (List X) :=
  (.call 61 [(.V 0), (.V 1), (.V 2)] 1
  (.ite (.eq (.V 4) (.N 0))
   (.ite (.eq (.len (.V 3)) (.len (.V 2)))
    (.loop [(.N 0), (.N 0), (.N 0), (.N 0)]
     (.ite (.lt (.V 8) (.len (.V 3)))
      (.sub (.need (.and (.not (.lt (.V 8) (.N 0))) (.lt (.V 8) (.len (.V 3))))
        (.sub (.ite (.lt (.N 5000) (.mx (.at (.V 3) (.V 8) 0) (.at (.V 3) (.V 8) 1)))
          (.ret [(.B false)])
          (.ret [(.not (.lt (.mn (.at (.V 3) (.V 8) 0) (.at (.V 3) (.V 8) 1)) (.N (-5000))))])) 1
         (.ite (.V 9)
          (.need (.and (.not (.lt (.V 8) (.N 0))) (.lt (.V 8) (.len (.V 2))))
           (.ite (.eq (.at (.V 2) (.V 8) 1) (.N 0))
            (.ret [(.N 0), (.wr .i64 (.add (.V 6) (.at (.V 3) (.V 8) 1))), (.V 7), (.V 9), (.not (.V 9))])
            (.ret [(.N 0), (.V 6), (.wr .i64 (.add (.V 7) (.at (.V 3) (.V 8) 1))), (.V 9), (.not (.V 9))])))
          (.ret [(.N 1), (.V 9), (.not (.V 9)), (.N 0), (.N 0)])))) 5
       (.ite (.eq (.V 9) (.N 0))
        (.ret (true, [(.wr .i64 (.add (.V 5) (.at (.V 3) (.V 8) 0))), (.V 10), (.V 11), (.wr .i64 (.add (.V 8) (.N 1)))]))
        (.ret (false, [(.N 0), (.V 5), (.V 6), (.V 7), (.at (.V 3) (.V 8) 0), (.at (.V 3) (.V 8) 1), (.at (.V 3) (.V 8) 0), (.at (.V 3) (.V 8) 1)]))))
      (.ret (false, [(.N 1), (.V 5), (.V 6), (.V 7), (.N 0), (.N 0), (.N 0), (.N 0)]))) 8
     (.ite (.eq (.V 5) (.N 0))
      (.ret [(.N 0), (.N 0), (.N 0), (.N 1)])
      (.ret [(.V 6), (.V 7), (.V 8), (.N 0)])))
    (.ret [(.N 0), (.N 0), (.N 0), (.N 8)]))
   (.ret [(.N 0), (.N 0), (.N 0), (.V 4)])))
set_option maxRecDepth 100000 in
theorem tTotal_t : runS Try.prog [tCheck_K.to []] [33] tTotal_K = tTotal_T := by kernel_rfl
def tMoment_K : Con := ⟨34, [.val true [.int .i64, .int .i64, .sl [.int .i64, .int .i64, .int .i64, .int .i64, .int .i64, .sl [.int .i64, .int .i64]]], .val false [.sl [.int .i64, .int .i64]]], [.val true [.int .i64, .int .i64, .int .i64], .val false [.int .i64]], []⟩
def tMoment_T : T (List X) :=
  (.call 33 [(.V 0), (.V 1), (.V 2), (.V 3)] 4
  (.ret [(.V 4), (.wr .i64 (.add (.V 5) (.V 6))), (.wr .i64 (.sub (.wr .i64 (.mul (.V 5) (.V 0))) (.wr .i64 (.mul (.V 6) (.V 1))))), (.V 7)]))
set_option maxRecDepth 100000 in
theorem tMoment_t : runS Try.prog [tTotal_K.to []] [] tMoment_K = tMoment_T := by kernel_rfl
def tSums_K : Con := ⟨9, [.val false [.sl [.int .i64]]], [.val false [.bool]], []⟩
def tSums_T : T (List X) :=
  (.need (.not (.lt (.len (.V 0)) (.mn (.len (.V 0)) (.N 600))))
  (.call 31 [(.take (.V 0) (.mn (.len (.V 0)) (.N 600))), (.N 0), (.N 5)] 5
   (.call 32 [(.V 4), (.V 5), (.V 1), (.V 2), (.V 3)] 3
    (.loop [(.rows []), (.N 0), (.N 0), (.N 0), (.N 0)]
     (.ite (.lt (.V 13) (.len (.V 6)))
      (.need (.and (.not (.lt (.V 13) (.N 0))) (.lt (.V 13) (.len (.V 6))))
       (.need (.not (.lt (.N 8796093022208) (.add (.len (.V 9)) (.N 1))))
        (.sub (.need (.and (.not (.lt (.V 13) (.N 0))) (.lt (.V 13) (.len (.V 3))))
          (.ite (.eq (.at (.V 3) (.V 13) 1) (.N 1))
           (.ret [(.wr .i64 (.sub (.N 0) (.V 2)))])
           (.ret [(.V 1)]))) 1
         (.ret (true, [(.app (.V 9) (.rows [[(.wr .i64 (.sub (.N 0) (.at (.V 6) (.V 13) 0))), (.wr .i64 (.sub (.N 0) (.at (.V 6) (.V 13) 1)))]])), (.wr .i64 (.add (.V 10) (.at (.V 6) (.V 13) 0))), (.wr .i64 (.add (.V 11) (.at (.V 6) (.V 13) 1))), (.wr .i64 (.add (.V 12) (.wr .i64 (.mul (.V 14) (.at (.V 6) (.V 13) 1))))), (.wr .i64 (.add (.V 13) (.N 1)))])))))
      (.ret (false, [(.V 9), (.V 10), (.V 11), (.V 12)]))) 4
     (.call 33 [(.V 1), (.V 2), (.V 3), (.V 6)] 4
      (.call 34 [(.V 1), (.V 2), (.V 3), (.V 6)] 4
       (.call 34 [(.V 1), (.V 2), (.V 3), (.V 9)] 4
        (.sub (.ite (.eq (.V 16) (.N 0))
          (.ite (.eq (.V 20) (.N 0))
           (.ite (.eq (.V 24) (.N 0))
            (.ite (.and (.eq (.V 17) (.V 10)) (.and (.eq (.V 18) (.V 11)) (.eq (.V 19) (.V 12))))
             (.ite (.and (.eq (.V 21) (.wr .i64 (.sub (.N 0) (.V 17)))) (.and (.eq (.V 22) (.wr .i64 (.sub (.N 0) (.V 18)))) (.eq (.V 23) (.wr .i64 (.sub (.N 0) (.V 19))))))
              (.ite (.eq (.V 13) (.V 17))
               (.ite (.eq (.wr .i64 (.add (.V 14) (.V 15))) (.V 18))
                (.call 29 [] 1
                 (.ret [(.V 25)]))
                (.ret [(.B false)]))
               (.ret [(.B false)]))
              (.ret [(.B false)]))
             (.ret [(.B false)]))
            (.ret [(.B false)]))
           (.ret [(.B false)]))
          (.ret [(.B false)])) 1
         (.ret [(.V 25)])))))))))
set_option maxRecDepth 100000 in
theorem tSums_t : runS Try.prog [srcShip_K.to [], srcThs_K.to [], tTotal_K.to [], tMoment_K.to [], sane12_K.to []] [9] tSums_K = tSums_T := by kernel_rfl
end Go.Proofs.Ytladhlgibapohaa
