/- Trees for WeatherExact: the reference's, and what the source gives. -/
import Derived.Test.YtdkamfkpmplaoaaWeaL
import Derived.Test.YtdkamfkpmplaoaaNums
set_option linter.unusedVariables false
namespace Go.Proofs.Ytdkamfkpmplaoaa
open Go.RowKit Fx
def rwList_H : List Hint := [
  ⟨262133, 1, [], ⟨[.var 0, .und, .bool (.B false), .und, .und, .var 0, .int .i64 (.len (.V 0)), .int .i64 (.V 1), .und, .und, .und, .und, .und, .und, .und, .und, .und, .und], [], 2, 1, [none, none], [], [⟨0, [.int .i64], (.V 0)⟩]⟩⟩]
def rwList_K : Con := ⟨143, [.val false [.sl [.int .i64]]], [.val false [.bool]], []⟩
def rwList_T : T (List X) :=
  (.loop [(.N 0)]
  (.ite (.lt (.V 1) (.len (.V 0)))
   (.need (.and (.not (.lt (.V 1) (.N 0))) (.lt (.V 1) (.len (.V 0))))
    (.sub (.ite (.lt (.at (.V 0) (.V 1) 0) (.N (-1000)))
      (.ret [(.B false)])
      (.ret [(.not (.lt (.N 1000) (.at (.V 0) (.V 1) 0)))])) 1
     (.ite (.V 2)
      (.ret (true, [(.wr .i64 (.add (.V 1) (.N 1)))]))
      (.ret (false, [(.N 0)])))))
   (.ret (false, [(.N 1)]))) 1
  (.ite (.eq (.V 1) (.N 0))
   (.ret [(.B false)])
   (.ret [(.eq (.len (.V 0)) (.N 12))])))
set_option maxRecDepth 100000 in
theorem rwList_t : runS Try.prog [] [(143, rwList_H)] rwList_K = rwList_T := by kernel_rfl
def rwRound_K : Con := ⟨141, [.val false [.int .i64], .val false [.int .i64]], [.val false [.int .i64]], []⟩
def rwRound_T : T (List X) :=
  (.need (.not (.eq (.wr .i64 (.mul (.N 2) (.V 1))) (.N 0)))
  (.sub (.ite (.lt (.rem (.wr .i64 (.add (.wr .i64 (.mul (.N 2) (.V 0))) (.V 1))) (.wr .i64 (.mul (.N 2) (.V 1)))) (.N 0))
    (.ret [(.wr .i64 (.sub (.wr .i64 (.quo (.wr .i64 (.add (.wr .i64 (.mul (.N 2) (.V 0))) (.V 1))) (.wr .i64 (.mul (.N 2) (.V 1))))) (.N 1)))])
    (.ret [(.wr .i64 (.quo (.wr .i64 (.add (.wr .i64 (.mul (.N 2) (.V 0))) (.V 1))) (.wr .i64 (.mul (.N 2) (.V 1)))))])) 1
   (.ret [(.V 2)])))
set_option maxRecDepth 100000 in
theorem rwRound_t : runS Try.prog [] [] rwRound_K = rwRound_T := by kernel_rfl
def rwCheck_K : Con := ⟨76, [.val true [.sl [.int .i64], .sl [.int .i64], .sl [.int .i64], .sl [.int .i64], .sl [.int .i64], .sl [.int .i64], .sl [.int .i64], .sl [.int .i64], .sl [.int .i64], .int .i64, .int .i64, .int .i64, .int .i64]], [.val false [.int .i64]], []⟩
def rwCheck_T : T (List X) :=
  (.sub (.sub (.call 143 [(.V 0)] 1
    (.ite (.V 13)
     (.call 143 [(.V 1)] 1
      (.ite (.V 14)
       (.call 143 [(.V 2)] 1
        (.ret [(.V 15)]))
       (.ret [(.B false)])))
     (.ret [(.B false)]))) 1
   (.ite (.V 13)
    (.sub (.call 143 [(.V 3)] 1
      (.ite (.V 14)
       (.call 143 [(.V 4)] 1
        (.ite (.V 15)
         (.call 143 [(.V 5)] 1
          (.ret [(.V 16)]))
         (.ret [(.B false)])))
       (.ret [(.B false)]))) 1
     (.ite (.V 14)
      (.sub (.call 143 [(.V 6)] 1
        (.ite (.V 15)
         (.call 143 [(.V 7)] 1
          (.ite (.V 16)
           (.call 143 [(.V 8)] 1
            (.ret [(.V 17)]))
           (.ret [(.B false)])))
         (.ret [(.B false)]))) 1
       (.ite (.V 15)
        (.sub (.ite (.lt (.V 9) (.N 1))
          (.ret [(.B false)])
          (.ret [(.not (.lt (.N 1000000) (.V 9)))])) 1
         (.ite (.V 16)
          (.sub (.ite (.lt (.V 10) (.N 1))
            (.ret [(.B false)])
            (.ret [(.not (.lt (.N 1073741824) (.V 10)))])) 1
           (.ite (.V 17)
            (.sub (.ite (.lt (.V 11) (.N 0))
              (.ret [(.B false)])
              (.ret [(.not (.lt (.V 9) (.V 11)))])) 1
             (.ite (.V 18)
              (.sub (.ite (.lt (.V 12) (.N 0))
                (.ret [(.B false)])
                (.ret [(.not (.lt (.V 10) (.V 12)))])) 1
               (.ret [(.not (.V 19))]))
              (.ret [(.B true)])))
            (.ret [(.B true)])))
          (.ret [(.B true)])))
        (.ret [(.B true)])))
      (.ret [(.B true)])))
    (.ret [(.B true)]))) 1
  (.ite (.V 13)
   (.ret [(.N 60)])
   (.ret [(.N 0)])))
set_option maxRecDepth 100000 in
theorem rwCheck_t : runS Try.prog [rwList_K.to []] [] rwCheck_K = rwCheck_T := by kernel_rfl
def rwFactor_K : Con := ⟨86, [.val false [.sl [.int .i64]], .val false [.int .i64]], [.val false [.int .i64]], []⟩
def rwFactor_T : T (List X) :=
  (.sub (.call 143 [(.V 0)] 1
   (.ite (.V 2)
    (.sub (.ite (.lt (.V 1) (.N 0))
      (.ret [(.B false)])
      (.ret [(.not (.lt (.N 3599) (.V 1)))])) 1
     (.ret [(.not (.V 3))]))
    (.ret [(.B true)]))) 1
  (.ite (.V 2)
   (.ret [(.N 0)])
   (.need (.and (.not (.lt (.wr .i64 (.quo (.V 1) (.N 300))) (.N 0))) (.lt (.wr .i64 (.quo (.V 1) (.N 300))) (.len (.V 0))))
    (.need (.and (.not (.lt (.rem (.wr .i64 (.add (.wr .i64 (.quo (.V 1) (.N 300))) (.N 1))) (.N 12)) (.N 0))) (.lt (.rem (.wr .i64 (.add (.wr .i64 (.quo (.V 1) (.N 300))) (.N 1))) (.N 12)) (.len (.V 0))))
     (.call 141 [(.wr .i64 (.add (.wr .i64 (.mul (.sub (.N 300) (.rem (.V 1) (.N 300))) (.at (.V 0) (.wr .i64 (.quo (.V 1) (.N 300))) 0))) (.wr .i64 (.mul (.rem (.V 1) (.N 300)) (.at (.V 0) (.rem (.wr .i64 (.add (.wr .i64 (.quo (.V 1) (.N 300))) (.N 1))) (.N 12)) 0))))), (.N 300)] 1
      (.ret [(.V 3)]))))))
set_option maxRecDepth 100000 in
theorem rwFactor_t : runS Try.prog [rwList_K.to [], rwRound_K.to []] [] rwFactor_K = rwFactor_T := by kernel_rfl
def rwLoad_K : Con := ⟨83, [.val true [.sl [.int .i64], .sl [.int .i64], .sl [.int .i64]], .val true [.int .i64, .int .i64], .val false [.int .i64]], [.val true [.int .i64, .int .i64, .int .i64]], []⟩
def rwLoad_T : T (List X) :=
  (.sub (.sub (.call 143 [(.V 0)] 1
    (.ite (.V 6)
     (.call 143 [(.V 1)] 1
      (.ite (.V 7)
       (.call 143 [(.V 2)] 1
        (.ret [(.V 8)]))
       (.ret [(.B false)])))
     (.ret [(.B false)]))) 1
   (.ite (.V 6)
    (.sub (.sub (.ite (.lt (.V 3) (.N 0))
       (.ret [(.B false)])
       (.ret [(.not (.lt (.N 3599) (.V 3)))])) 1
      (.ite (.V 7)
       (.sub (.ite (.lt (.V 4) (.N 0))
         (.ret [(.B false)])
         (.ret [(.not (.lt (.N 10000) (.V 4)))])) 1
        (.ret [(.V 8)]))
       (.ret [(.B false)]))) 1
     (.ite (.V 7)
      (.sub (.ite (.lt (.V 5) (.N 0))
        (.ret [(.B false)])
        (.ret [(.not (.lt (.N 3599) (.V 5)))])) 1
       (.ret [(.not (.V 8))]))
      (.ret [(.B true)])))
    (.ret [(.B true)]))) 1
  (.ite (.V 6)
   (.ret [(.N 0), (.N 0), (.N 0)])
   (.call 86 [(.V 0), (.rem (.wr .i64 (.add (.wr .i64 (.sub (.V 3) (.V 5))) (.N 3600))) (.N 3600))] 1
    (.call 141 [(.wr .i64 (.mul (.V 7) (.wr .i64 (.mul (.V 4) (.V 4))))), (.N 1000000)] 1
     (.call 86 [(.V 1), (.rem (.wr .i64 (.add (.wr .i64 (.sub (.V 3) (.V 5))) (.N 3600))) (.N 3600))] 1
      (.call 141 [(.wr .i64 (.mul (.V 9) (.wr .i64 (.mul (.V 4) (.V 4))))), (.N 1000000)] 1
       (.call 86 [(.V 2), (.rem (.wr .i64 (.add (.wr .i64 (.sub (.V 3) (.V 5))) (.N 3600))) (.N 3600))] 1
        (.call 141 [(.wr .i64 (.mul (.V 11) (.wr .i64 (.mul (.V 4) (.V 4))))), (.N 1000000)] 1
         (.ret [(.V 8), (.V 10), (.V 12)])))))))))
set_option maxRecDepth 100000 in
theorem rwLoad_t : runS Try.prog [rwList_K.to [], rwFactor_K.to [], rwRound_K.to []] [] rwLoad_K = rwLoad_T := by kernel_rfl
def rwTotal_K : Con := ⟨79, [.val true [.sl [.int .i64], .sl [.int .i64], .sl [.int .i64], .sl [.int .i64], .sl [.int .i64], .sl [.int .i64], .sl [.int .i64], .sl [.int .i64], .sl [.int .i64], .int .i64, .int .i64, .int .i64, .int .i64], .val true [.int .i64, .int .i64, .int .i64, .int .i64, .int .i64, .int .i64], .val false [.int .i64]], [.val true [.int .i64, .int .i64, .int .i64], .val false [.int .i64]], []⟩
def rwTotal_T : T (List X) :=
  (.call 76 [(.V 0), (.V 1), (.V 2), (.V 3), (.V 4), (.V 5), (.V 6), (.V 7), (.V 8), (.V 9), (.V 10), (.V 11), (.V 12)] 1
  (.ite (.eq (.V 20) (.N 0))
   (.sub (.sub (.sub (.sub (.ite (.lt (.V 13) (.N 0))
        (.ret [(.B false)])
        (.ret [(.not (.lt (.N 3599) (.V 13)))])) 1
       (.ite (.V 21)
        (.sub (.ite (.lt (.V 14) (.N 0))
          (.ret [(.B false)])
          (.ret [(.not (.lt (.N 10000) (.V 14)))])) 1
         (.ret [(.V 22)]))
        (.ret [(.B false)]))) 1
      (.ite (.V 21)
       (.sub (.sub (.ite (.lt (.V 15) (.N 0))
          (.ret [(.B false)])
          (.ret [(.not (.lt (.N 3599) (.V 15)))])) 1
         (.ite (.V 22)
          (.sub (.ite (.lt (.V 16) (.N 0))
            (.ret [(.B false)])
            (.ret [(.not (.lt (.N 10000) (.V 16)))])) 1
           (.ret [(.V 23)]))
          (.ret [(.B false)]))) 1
        (.ite (.V 22)
         (.sub (.sub (.ite (.lt (.V 17) (.N 0))
            (.ret [(.B false)])
            (.ret [(.not (.lt (.N 3599) (.V 17)))])) 1
           (.ite (.V 23)
            (.sub (.ite (.lt (.V 18) (.N 0))
              (.ret [(.B false)])
              (.ret [(.not (.lt (.N 10000) (.V 18)))])) 1
             (.ret [(.V 24)]))
            (.ret [(.B false)]))) 1
          (.ret [(.V 23)]))
         (.ret [(.B false)])))
       (.ret [(.B false)]))) 1
     (.ite (.V 21)
      (.sub (.ite (.lt (.V 19) (.N 0))
        (.ret [(.B false)])
        (.ret [(.not (.lt (.N 3599) (.V 19)))])) 1
       (.ret [(.not (.V 22))]))
      (.ret [(.B true)]))) 1
    (.ite (.V 21)
     (.ret [(.N 0), (.N 0), (.N 0), (.N 1)])
     (.call 83 [(.V 0), (.V 1), (.V 2), (.V 13), (.V 14), (.V 19)] 3
      (.call 83 [(.V 3), (.V 4), (.V 5), (.V 15), (.V 16), (.V 19)] 3
       (.call 83 [(.V 6), (.V 7), (.V 8), (.V 17), (.V 18), (.V 19)] 3
        (.ret [(.wr .i64 (.add (.wr .i64 (.add (.V 22) (.V 25))) (.V 28))), (.wr .i64 (.add (.wr .i64 (.add (.V 23) (.V 26))) (.V 29))), (.wr .i64 (.add (.wr .i64 (.add (.V 24) (.V 27))) (.V 30))), (.N 0)]))))))
   (.ret [(.N 0), (.N 0), (.N 0), (.V 20)])))
set_option maxRecDepth 100000 in
theorem rwTotal_t : runS Try.prog [rwCheck_K.to [], rwLoad_K.to []] [] rwTotal_K = rwTotal_T := by kernel_rfl
def pwValid_K : Con := ⟨80, [.val true [.int .i64, .int .i64, .int .i64, .int .i64, .int .i64, .int .i64]], [.val false [.bool]], []⟩
def pwValid_T : T (List X) :=
  (.sub (.sub (.sub (.ite (.lt (.V 0) (.N 0))
     (.ret [(.B false)])
     (.ret [(.not (.lt (.N 3599) (.V 0)))])) 1
    (.ite (.V 6)
     (.sub (.ite (.lt (.V 1) (.N 0))
       (.ret [(.B false)])
       (.ret [(.not (.lt (.N 10000) (.V 1)))])) 1
      (.ret [(.V 7)]))
     (.ret [(.B false)]))) 1
   (.ite (.V 6)
    (.sub (.sub (.ite (.lt (.V 2) (.N 0))
       (.ret [(.B false)])
       (.ret [(.not (.lt (.N 3599) (.V 2)))])) 1
      (.ite (.V 7)
       (.sub (.ite (.lt (.V 3) (.N 0))
         (.ret [(.B false)])
         (.ret [(.not (.lt (.N 10000) (.V 3)))])) 1
        (.ret [(.V 8)]))
       (.ret [(.B false)]))) 1
     (.ite (.V 7)
      (.sub (.sub (.ite (.lt (.V 4) (.N 0))
         (.ret [(.B false)])
         (.ret [(.not (.lt (.N 3599) (.V 4)))])) 1
        (.ite (.V 8)
         (.sub (.ite (.lt (.V 5) (.N 0))
           (.ret [(.B false)])
           (.ret [(.not (.lt (.N 10000) (.V 5)))])) 1
          (.ret [(.V 9)]))
         (.ret [(.B false)]))) 1
       (.ret [(.V 8)]))
      (.ret [(.B false)])))
    (.ret [(.B false)]))) 1
  (.ret [(.V 6)]))
set_option maxRecDepth 100000 in
theorem pwValid_t : runS Try.prog [] [] pwValid_K = pwValid_T := by kernel_rfl
def rwValid_K : Con := ⟨81, [.val true [.int .i64, .int .i64, .int .i64, .int .i64, .int .i64, .int .i64]], [.val false [.bool]], []⟩
def rwValid_T : T (List X) :=
  (.sub (.sub (.sub (.ite (.lt (.V 0) (.N 0))
     (.ret [(.B false)])
     (.ret [(.not (.lt (.N 3599) (.V 0)))])) 1
    (.ite (.V 6)
     (.sub (.ite (.lt (.V 1) (.N 0))
       (.ret [(.B false)])
       (.ret [(.not (.lt (.N 10000) (.V 1)))])) 1
      (.ret [(.V 7)]))
     (.ret [(.B false)]))) 1
   (.ite (.V 6)
    (.sub (.sub (.ite (.lt (.V 2) (.N 0))
       (.ret [(.B false)])
       (.ret [(.not (.lt (.N 3599) (.V 2)))])) 1
      (.ite (.V 7)
       (.sub (.ite (.lt (.V 3) (.N 0))
         (.ret [(.B false)])
         (.ret [(.not (.lt (.N 10000) (.V 3)))])) 1
        (.ret [(.V 8)]))
       (.ret [(.B false)]))) 1
     (.ite (.V 7)
      (.sub (.sub (.ite (.lt (.V 4) (.N 0))
         (.ret [(.B false)])
         (.ret [(.not (.lt (.N 3599) (.V 4)))])) 1
        (.ite (.V 8)
         (.sub (.ite (.lt (.V 5) (.N 0))
           (.ret [(.B false)])
           (.ret [(.not (.lt (.N 10000) (.V 5)))])) 1
          (.ret [(.V 9)]))
         (.ret [(.B false)]))) 1
       (.ret [(.V 8)]))
      (.ret [(.B false)])))
    (.ret [(.B false)]))) 1
  (.ret [(.V 6)]))
set_option maxRecDepth 100000 in
theorem rwValid_t : runS Try.prog [] [] rwValid_K = rwValid_T := by kernel_rfl
def srcAng_K : Con := ⟨77, [.ptr [.sl [.int .i64], .int .i64]], [.val false [.int .i64]], []⟩
def srcAng_T : T (List X) :=
  (.call 10 [(.V 0), (.V 1), (.N 9)] 3
  (.need (.and (.not (.lt (.V 2) (.N 0))) (.lt (.V 2) (.N 9)))
   (.ret [(.at (.rows [[(.N 0)], [(.N 1)], [(.N 299)], [(.N 300)], [(.N 450)], [(.N 900)], [(.N 1800)], [(.N 2701)], [(.N 3599)]]) (.V 2) 0), (.V 3), (.V 4)])))
set_option maxRecDepth 100000 in
theorem srcAng_t : runS Try.prog [srcN_K.to []] [] srcAng_K = srcAng_T := by kernel_rfl
def srcBent22_H : List Hint := []
def srcBent22_K : Con := ⟨74, [.ptr [.sl [.int .i64], .int .i64], .val true [.sl [.int .i64], .sl [.int .i64], .sl [.int .i64], .sl [.int .i64], .sl [.int .i64], .sl [.int .i64], .sl [.int .i64], .sl [.int .i64], .sl [.int .i64], .int .i64, .int .i64, .int .i64, .int .i64]], [.val true [.sl [.int .i64], .sl [.int .i64], .sl [.int .i64], .sl [.int .i64], .sl [.int .i64], .sl [.int .i64], .sl [.int .i64], .sl [.int .i64], .sl [.int .i64], .int .i64, .int .i64, .int .i64, .int .i64]], []⟩
def srcBent22_T : T (List X) :=
  (.sub (.call 10 [(.V 0), (.V 1), (.N 5)] 3
   (.ite (.eq (.V 15) (.N 0))
    (.loop [(.rows [[(.N 0)], [(.N 0)], [(.N 0)], [(.N 0)], [(.N 0)], [(.N 0)], [(.N 0)], [(.N 0)], [(.N 0)], [(.N 0)], [(.N 0)], [(.N 0)]]), (.V 16), (.V 17), (.N 0)]
     (.ite (.lt (.V 21) (.N 12))
      (.call 10 [(.V 19), (.V 20), (.N 6)] 3
       (.need (.and (.not (.lt (.V 22) (.N 0))) (.lt (.V 22) (.N 6)))
        (.need (.lt (.V 21) (.len (.V 18)))
         (.ret (true, [(.put (.V 18) (.V 21) 0 (.at (.rows [[(.N 0)], [(.N 100)], [(.N (-300))], [(.N 700)], [(.N (-1000))], [(.N 1000)]]) (.V 22) 0)), (.V 23), (.V 24), (.add (.V 21) (.N 1))])))))
      (.ret (false, [(.V 18), (.V 19), (.V 20)]))) 3
     (.need (.not (.lt (.len (.V 18)) (.N 11)))
      (.ret [(.V 19), (.V 20), (.take (.V 18) (.N 11)), (.V 9), (.V 11), (.V 12), (.V 13), (.V 14)])))
    (.ite (.eq (.V 15) (.N 1))
     (.loop [(.rows [[(.N 0)], [(.N 0)], [(.N 0)], [(.N 0)], [(.N 0)], [(.N 0)], [(.N 0)], [(.N 0)], [(.N 0)], [(.N 0)], [(.N 0)], [(.N 0)]]), (.V 16), (.V 17), (.N 0)]
      (.ite (.lt (.V 21) (.N 12))
       (.call 10 [(.V 19), (.V 20), (.N 6)] 3
        (.need (.and (.not (.lt (.V 22) (.N 0))) (.lt (.V 22) (.N 6)))
         (.need (.lt (.V 21) (.len (.V 18)))
          (.ret (true, [(.put (.V 18) (.V 21) 0 (.at (.rows [[(.N 0)], [(.N 100)], [(.N (-300))], [(.N 700)], [(.N (-1000))], [(.N 1000)]]) (.V 22) 0)), (.V 23), (.V 24), (.add (.V 21) (.N 1))])))))
       (.ret (false, [(.V 18), (.V 19), (.V 20)]))) 3
      (.need (.not (.lt (.len (.V 18)) (.N 11)))
       (.call 10 [(.V 19), (.V 20), (.N 3)] 3
        (.need (.and (.not (.lt (.V 21) (.N 0))) (.lt (.V 21) (.N 3)))
         (.need (.not (.lt (.N 17592186044416) (.add (.len (.take (.V 18) (.N 11))) (.N 1))))
          (.ret [(.V 22), (.V 23), (.V 4), (.app (.take (.V 18) (.N 11)) (.rows [[(.at (.rows [[(.N 1001)], [(.N (-1001))], [(.N 4611686018427387904)]]) (.V 21) 0)]])), (.V 11), (.V 12), (.V 13), (.V 14)]))))))
     (.ite (.eq (.V 15) (.N 2))
      (.call 10 [(.V 16), (.V 17), (.N 4)] 3
       (.need (.and (.not (.lt (.V 18) (.N 0))) (.lt (.V 18) (.N 4)))
        (.ret [(.V 19), (.V 20), (.V 4), (.V 9), (.at (.rows [[(.N 0)], [(.N (-1))], [(.N 1000001)], [(.N 4611686018427387904)]]) (.V 18) 0), (.V 12), (.V 13), (.V 14)])))
      (.ite (.eq (.V 15) (.N 3))
       (.call 10 [(.V 16), (.V 17), (.N 3)] 3
        (.need (.and (.not (.lt (.V 18) (.N 0))) (.lt (.V 18) (.N 3)))
         (.ret [(.V 19), (.V 20), (.V 4), (.V 9), (.V 11), (.at (.rows [[(.N 0)], [(.N (-1))], [(.N 1073741825)]]) (.V 18) 0), (.V 13), (.V 14)])))
       (.call 10 [(.V 16), (.V 17), (.N 3)] 3
        (.need (.and (.not (.lt (.V 18) (.N 0))) (.lt (.V 18) (.N 3)))
         (.call 10 [(.V 19), (.V 20), (.N 3)] 3
          (.need (.and (.not (.lt (.V 21) (.N 0))) (.lt (.V 21) (.N 3)))
           (.ret [(.V 22), (.V 23), (.V 4), (.V 9), (.V 11), (.V 12), (.at (.rows [[(.N (-1))], [(.wr .i64 (.add (.V 11) (.N 1)))], [(.N 0)]]) (.V 18) 0), (.at (.rows [[(.N (-1))], [(.wr .i64 (.add (.V 12) (.N 1)))], [(.N 0)]]) (.V 21) 0)])))))))))) 8
  (.ret [(.V 2), (.V 3), (.V 17), (.V 5), (.V 6), (.V 7), (.V 8), (.V 18), (.V 10), (.V 19), (.V 20), (.V 21), (.V 22), (.V 15), (.V 16)]))
set_option maxRecDepth 100000 in
theorem srcBent22_t : runS Try.prog [srcN_K.to []] [(131, srcBent22_H)] srcBent22_K = srcBent22_T := by kernel_rfl
end Go.Proofs.Ytdkamfkpmplaoaa
