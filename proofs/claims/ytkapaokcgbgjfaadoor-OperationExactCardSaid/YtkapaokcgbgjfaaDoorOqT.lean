/- Trees of the reference for operation. -/
import Derived.Test.YtkapaokcgbgjfaaDoorOpr
set_option linter.unusedVariables false
namespace Go.Proofs.YtkapaokcgbgjfaaDoor
open Go.RowKit Fx
def rWord_H : List Hint := [
  ⟨144115188071661581, 2, [], ⟨[.str (.V 0), .und, .bool (.B false), .int .i64 (.V 2), .und, .und, .und, .und, .und, .und, .und, .und, .und, .und, .und, .und, .und, .und, .und, .und, .und, .und, .und, .und, .und, .und, .und, .und, .und, .und, .und, .und, .und, .und, .und, .und, .und, .und, .und, .und, .und, .und, .und, .und, .und, .und, .und, .und, .und, .und, .und, .und, .und, .und, .und, .und, .und], [], 3, 0, [none, none, none], [], []⟩⟩]
def rWord_K : Con := ⟨33, [.val false [.str]], [.val false [.bool]], []⟩
def rWord_T : T (List X) :=
  (.sub (.need (.not (.lt (.N 9223372036854775807) (.slen (.V 0))))
   (.ite (.eq (.slen (.V 0)) (.N 0))
    (.ret [(.B true)])
    (.ite (.lt (.N 12) (.slen (.V 0)))
     (.ret [(.B true)])
     (.need (.lt (.N 0) (.slen (.V 0)))
      (.ite (.lt (.sat (.V 0) (.N 0)) (.N 97))
       (.ret [(.B true)])
       (.ret [(.lt (.N 122) (.sat (.V 0) (.N 0)))])))))) 1
  (.ite (.V 1)
   (.ret [(.B false)])
   (.loop [(.N 0)]
    (.need (.not (.lt (.N 9223372036854775807) (.slen (.V 0))))
     (.ite (.lt (.V 2) (.slen (.V 0)))
      (.sub (.need (.and (.not (.lt (.V 2) (.N 0))) (.lt (.V 2) (.slen (.V 0))))
        (.ite (.lt (.sat (.V 0) (.V 2)) (.N 97))
         (.ite (.lt (.sat (.V 0) (.V 2)) (.N 48))
          (.ret [(.B false), (.B false), (.B false), (.B false), (.eq (.sat (.V 0) (.V 2)) (.N 45)), (.not (.eq (.sat (.V 0) (.V 2)) (.N 45)))])
          (.ite (.lt (.N 57) (.sat (.V 0) (.V 2)))
           (.ret [(.B false), (.B false), (.not (.lt (.N 57) (.sat (.V 0) (.V 2)))), (.not (.lt (.N 57) (.sat (.V 0) (.V 2)))), (.eq (.sat (.V 0) (.V 2)) (.N 45)), (.not (.eq (.sat (.V 0) (.V 2)) (.N 45)))])
           (.ret [(.B false), (.B false), (.not (.lt (.N 57) (.sat (.V 0) (.V 2)))), (.not (.lt (.N 57) (.sat (.V 0) (.V 2)))), (.B true), (.B false)])))
         (.ite (.lt (.N 122) (.sat (.V 0) (.V 2)))
          (.ite (.lt (.sat (.V 0) (.V 2)) (.N 48))
           (.ret [(.not (.lt (.N 122) (.sat (.V 0) (.V 2)))), (.not (.lt (.N 122) (.sat (.V 0) (.V 2)))), (.B false), (.B false), (.eq (.sat (.V 0) (.V 2)) (.N 45)), (.not (.eq (.sat (.V 0) (.V 2)) (.N 45)))])
           (.ite (.lt (.N 57) (.sat (.V 0) (.V 2)))
            (.ret [(.not (.lt (.N 122) (.sat (.V 0) (.V 2)))), (.not (.lt (.N 122) (.sat (.V 0) (.V 2)))), (.not (.lt (.N 57) (.sat (.V 0) (.V 2)))), (.not (.lt (.N 57) (.sat (.V 0) (.V 2)))), (.eq (.sat (.V 0) (.V 2)) (.N 45)), (.not (.eq (.sat (.V 0) (.V 2)) (.N 45)))])
            (.ret [(.not (.lt (.N 122) (.sat (.V 0) (.V 2)))), (.not (.lt (.N 122) (.sat (.V 0) (.V 2)))), (.not (.lt (.N 57) (.sat (.V 0) (.V 2)))), (.not (.lt (.N 57) (.sat (.V 0) (.V 2)))), (.B true), (.B false)])))
          (.ret [(.not (.lt (.N 122) (.sat (.V 0) (.V 2)))), (.not (.lt (.N 122) (.sat (.V 0) (.V 2)))), (.B true), (.B true), (.B true), (.B false)])))) 6
       (.ite (.V 8)
        (.ret (false, [(.N 0)]))
        (.ret (true, [(.wr .i64 (.add (.V 2) (.N 1)))]))))
      (.ret (false, [(.N 1)])))) 1
    (.ite (.eq (.V 2) (.N 0))
     (.ret [(.B false)])
     (.ret [(.B true)])))))
set_option maxRecDepth 100000 in
theorem rWord_t : runS Tryd.prog [] [(33, rWord_H)] rWord_K = rWord_T := by kernel_rfl
def rcCheck29_K : Con := ⟨35, [.val true [.int .i64, .int .i64, .int .i64, .int .i64]], [.val false [.int .i64]], []⟩
def rcCheck29_T : T (List X) :=
  (.sub (.sub (.ite (.lt (.V 0) (.N (-100000000)))
    (.ret [(.B false)])
    (.ite (.lt (.N 100000000) (.V 0))
     (.ret [(.B false)])
     (.ite (.lt (.V 1) (.N (-100000000)))
      (.ret [(.B false)])
      (.ret [(.not (.lt (.N 100000000) (.V 1)))])))) 1
   (.ite (.V 4)
    (.ite (.lt (.V 2) (.N 0))
     (.ret [(.B true)])
     (.ite (.lt (.V 3) (.V 2))
      (.ret [(.B true)])
      (.ret [(.lt (.N 1000000) (.V 3))])))
    (.ret [(.B true)]))) 1
  (.ite (.V 4)
   (.ret [(.N 65)])
   (.ret [(.N 0)])))
set_option maxRecDepth 100000 in
theorem rcCheck29_t : runS Tryd.prog [] [] rcCheck29_K = rcCheck29_T := by kernel_rfl
def roCheck_K : Con := ⟨14, [.val true [.str, .int .i64, .int .i64, .int .i64, .int .i64, .int .i64, .int .i64]], [.val false [.int .i64]], []⟩
def roCheck_T : T (List X) :=
  (.sub (.call 33 [(.V 0)] 1
   (.ite (.V 7)
    (.sub (.ite (.lt (.V 1) (.N 1))
      (.ret [(.B false)])
      (.ret [(.not (.lt (.N 3) (.V 1)))])) 1
     (.ite (.V 8)
      (.sub (.ite (.lt (.V 6) (.N 0))
        (.ret [(.B false)])
        (.ret [(.not (.lt (.N 1000) (.V 6)))])) 1
       (.ret [(.not (.V 9))]))
      (.ret [(.B true)])))
    (.ret [(.B true)]))) 1
  (.ite (.V 7)
   (.ret [(.N 66)])
   (.call 35 [(.V 2), (.V 3), (.V 4), (.V 5)] 1
    (.ret [(.V 8)]))))
set_option maxRecDepth 100000 in
theorem roCheck_t : runS Tryd.prog [rWord_K.to [], rcCheck29_K.to []] [] roCheck_K = roCheck_T := by kernel_rfl
def roFit_K : Con := ⟨22, [.val true [.str, .int .i64, .int .i64, .int .i64, .int .i64, .int .i64, .int .i64], .val false [.int .i64], .val false [.int .i64]], [.val false [.bool]], []⟩
def roFit_T : T (List X) :=
  (.sub (.call 14 [(.V 0), (.V 1), (.V 2), (.V 3), (.V 4), (.V 5), (.V 6)] 1
   (.ite (.eq (.V 9) (.N 0))
    (.sub (.sub (.ite (.lt (.V 7) (.N 1))
       (.ret [(.B false)])
       (.ret [(.not (.lt (.N 3) (.V 7)))])) 1
      (.ite (.V 10)
       (.sub (.ite (.lt (.V 8) (.N 1))
         (.ret [(.B false)])
         (.ret [(.not (.lt (.N 3) (.V 8)))])) 1
        (.ret [(.V 11)]))
       (.ret [(.B false)]))) 1
     (.ite (.V 10)
      (.ite (.lt (.V 7) (.V 1))
       (.ret [(.B false)])
       (.ret [(.eq (.V 8) (.N 1))]))
      (.ret [(.B false)])))
    (.ret [(.B false)]))) 1
  (.ret [(.V 9)]))
set_option maxRecDepth 100000 in
theorem roFit_t : runS Tryd.prog [roCheck_K.to []] [] roFit_K = roFit_T := by kernel_rfl
def roNext_K : Con := ⟨18, [.val true [.str, .int .i64, .int .i64, .int .i64, .int .i64, .int .i64, .int .i64], .val false [.int .i64], .val false [.int .i64], .val false [.int .i64], .val false [.bool]], [.val false [.int .i64], .val false [.int .i64]], []⟩
def roNext_T : T (List X) :=
  (.call 14 [(.V 0), (.V 1), (.V 2), (.V 3), (.V 4), (.V 5), (.V 6)] 1
  (.ite (.eq (.V 11) (.N 0))
   (.sub (.sub (.ite (.lt (.V 7) (.N 0))
      (.ret [(.B false)])
      (.ret [(.not (.lt (.N 5) (.V 7)))])) 1
     (.ite (.V 12)
      (.sub (.sub (.ite (.lt (.V 8) (.N 1))
         (.ret [(.B false)])
         (.ret [(.not (.lt (.N 3) (.V 8)))])) 1
        (.ite (.V 13)
         (.sub (.ite (.lt (.V 9) (.N 1))
           (.ret [(.B false)])
           (.ret [(.not (.lt (.N 3) (.V 9)))])) 1
          (.ret [(.V 14)]))
         (.ret [(.B false)]))) 1
       (.ret [(.not (.V 13))]))
      (.ret [(.B true)]))) 1
    (.ite (.V 12)
     (.ret [(.N 0), (.N 1)])
     (.sub (.ite (.eq (.V 7) (.N 1))
       (.call 22 [(.V 0), (.V 1), (.V 2), (.V 3), (.V 4), (.V 5), (.V 6), (.V 8), (.V 9)] 1
        (.ite (.V 13)
         (.ret [(.N 1), (.N 0)])
         (.ret [(.N 0), (.N 0)])))
       (.sub (.ite (.eq (.V 7) (.N 2))
         (.ret [(.eq (.V 7) (.N 2))])
         (.ret [(.eq (.V 7) (.N 3))])) 1
        (.ite (.V 13)
         (.sub (.ite (.eq (.V 9) (.N 3))
           (.ret [(.B true)])
           (.ret [(.eq (.V 8) (.N 1))])) 1
          (.ite (.V 14)
           (.ret [(.N 0), (.N 4)])
           (.call 22 [(.V 0), (.V 1), (.V 2), (.V 3), (.V 4), (.V 5), (.V 6), (.V 8), (.V 9)] 1
            (.ite (.V 15)
             (.ret [(.N 0), (.N 2)])
             (.ret [(.N 0), (.N 3)])))))
         (.ite (.eq (.V 7) (.N 4))
          (.ite (.V 10)
           (.ret [(.N 0), (.N 5)])
           (.ret [(.N 1), (.N 0)]))
          (.ret [(.N 1), (.N 0)]))))) 2
      (.ite (.eq (.V 13) (.N 0))
       (.ret [(.V 14), (.N 0)])
       (.ret [(.V 7), (.N 0)])))))
   (.ret [(.N 0), (.V 11)])))
set_option maxRecDepth 100000 in
theorem roNext_t : runS Tryd.prog [roCheck_K.to [], roFit_K.to []] [] roNext_K = roNext_T := by kernel_rfl
def roAsk_K : Con := ⟨20, [.val true [.str, .int .i64, .int .i64, .int .i64, .int .i64, .int .i64, .int .i64], .val false [.int .i64], .val false [.int .i64], .val false [.int .i64], .val false [.int .i64]], [.val false [.int .i64], .val false [.int .i64]], []⟩
def roAsk_T : T (List X) :=
  (.call 14 [(.V 0), (.V 1), (.V 2), (.V 3), (.V 4), (.V 5), (.V 6)] 1
  (.ite (.eq (.V 11) (.N 0))
   (.sub (.sub (.ite (.lt (.V 7) (.N 0))
      (.ret [(.B false)])
      (.ret [(.not (.lt (.N 5) (.V 7)))])) 1
     (.ite (.V 12)
      (.sub (.sub (.ite (.lt (.V 8) (.N 1))
         (.ret [(.B false)])
         (.ret [(.not (.lt (.N 3) (.V 8)))])) 1
        (.ite (.V 13)
         (.sub (.ite (.lt (.V 9) (.N 1))
           (.ret [(.B false)])
           (.ret [(.not (.lt (.N 3) (.V 9)))])) 1
          (.ret [(.V 14)]))
         (.ret [(.B false)]))) 1
       (.ite (.V 13)
        (.sub (.ite (.lt (.V 10) (.N 0))
          (.ret [(.B false)])
          (.ret [(.not (.lt (.N 4) (.V 10)))])) 1
         (.ret [(.not (.V 14))]))
        (.ret [(.B true)])))
      (.ret [(.B true)]))) 1
    (.ite (.V 12)
     (.ret [(.N 0), (.N 1)])
     (.sub (.ite (.eq (.V 10) (.N 0))
       (.ret [(.V 7)])
       (.ite (.eq (.V 10) (.N 1))
        (.ite (.eq (.V 7) (.N 0))
         (.ret [(.N 1)])
         (.ret [(.N (-1))]))
        (.ite (.eq (.V 10) (.N 2))
         (.ite (.eq (.V 7) (.N 1))
          (.ret [(.N 2)])
          (.ret [(.N (-1))]))
         (.ite (.eq (.V 10) (.N 3))
          (.sub (.ite (.eq (.V 7) (.N 1))
            (.ret [(.N 0)])
            (.ret [(.N (-1))])) 1
           (.sub (.ite (.eq (.V 7) (.N 2))
             (.ret [(.B true)])
             (.ret [(.eq (.V 7) (.N 3))])) 1
            (.ite (.V 14)
             (.ret [(.N 4)])
             (.ret [(.V 13)]))))
          (.ite (.eq (.V 10) (.N 4))
           (.ite (.eq (.V 7) (.N 5))
            (.ret [(.N 0)])
            (.ret [(.N (-1))]))
           (.ret [(.N (-1))])))))) 1
      (.ite (.lt (.V 13) (.N 0))
       (.ret [(.N 0), (.N 66)])
       (.sub (.sub (.ite (.eq (.V 10) (.N 1))
          (.ret [(.B true)])
          (.ret [(.eq (.V 10) (.N 2))])) 1
         (.ite (.V 14)
          (.ite (.lt (.V 8) (.V 1))
           (.ret [(.N 0), (.N 64)])
           (.ite (.eq (.V 9) (.N 1))
            (.ret [(.N 1), (.N 0)])
            (.ret [(.N 0), (.N 65)])))
          (.ret [(.N 1), (.N 0)]))) 2
        (.ite (.eq (.V 14) (.N 0))
         (.ret [(.N 0), (.V 15)])
         (.ret [(.V 13), (.N 0)])))))))
   (.ret [(.N 0), (.V 11)])))
set_option maxRecDepth 100000 in
theorem roAsk_t : runS Tryd.prog [roCheck_K.to []] [] roAsk_K = roAsk_T := by kernel_rfl
def roRun_H : List Hint := [
  ⟨2251799805312798, 10, [.t [.int .i64] 10], ⟨[.und, .int .i64 (.V 11), .var 0, .var 1, .ptr 0 0, .und, .und, .und, .con (.slice none 0 0), .int .i64 (.N 0), .var 3, .und, .und, .und, .und, .und, .und, .und, .und, .und, .und, .und, .und, .int .i64 (.len (.V 8)), .int .i64 (.V 12), .und, .und, .und, .und, .und, .und, .und, .und, .und, .und, .und, .und, .und, .und, .und, .und, .und, .und, .und, .und, .und, .und, .und, .und, .und, .und], [.fix [.str (.V 0), .int .i64 (.V 1), .int .i64 (.V 2), .int .i64 (.V 3), .int .i64 (.V 4), .int .i64 (.V 5), .int .i64 (.V 6)] true, .rows [.int .i64] (.V 10) 3], 13, 4, [none, none, none, none, none, none, none, none, none, none, none, none, none], [], [⟨0, [.int .i64], (.V 8)⟩, ⟨1, [.int .i64], (.V 9)⟩]⟩⟩]
def roRun_K : Con := ⟨25, [.val true [.str, .int .i64, .int .i64, .int .i64, .int .i64, .int .i64, .int .i64], .val false [.int .i64], .val false [.sl [.int .i64]], .val false [.sl [.int .i64]]], [.val false [.sl [.int .i64]], .val false [.int .i64]], []⟩
def roRun_T : T (List X) :=
  (.ite (.eq (.len (.V 8)) (.len (.V 9)))
  (.ite (.lt (.N 400) (.len (.V 8)))
   (.ret [(.rows []), (.N 2)])
   (.loop [(.rows []), (.V 7), (.N 0)]
    (.ite (.lt (.V 12) (.len (.V 8)))
     (.need (.and (.not (.lt (.V 12) (.N 0))) (.lt (.V 12) (.len (.V 8))))
      (.need (.and (.not (.lt (.V 12) (.N 0))) (.lt (.V 12) (.len (.V 9))))
       (.call 18 [(.V 0), (.V 1), (.V 2), (.V 3), (.V 4), (.V 5), (.V 6), (.V 11), (.at (.V 8) (.V 12) 0), (.at (.V 9) (.V 12) 0), (.B false)] 2
        (.ite (.eq (.V 14) (.N 0))
         (.need (.not (.lt (.N 17592186044416) (.add (.len (.V 10)) (.N 1))))
          (.ret (true, [(.app (.V 10) (.rows [[(.V 13)]])), (.V 13), (.wr .i64 (.add (.V 12) (.N 1)))])))
         (.ret (false, [(.N 0), (.V 10), (.V 14)]))))))
     (.ret (false, [(.N 1), (.V 10), (.N 0)]))) 3
    (.ite (.eq (.V 10) (.N 0))
     (.ret [(.rows []), (.V 12)])
     (.ret [(.V 11), (.N 0)]))))
  (.ret [(.rows []), (.N 8)]))
set_option maxRecDepth 100000 in
theorem roRun_t : runS Tryd.prog [roNext_K.to []] [(25, roRun_H)] roRun_K = roRun_T := by kernel_rfl
def srcBent_K : Con := ⟨12, [.ptr [.sl [.int .i64], .int .i64], .val true [.str, .int .i64, .int .i64, .int .i64, .int .i64, .int .i64, .int .i64]], [.val true [.str, .int .i64, .int .i64, .int .i64, .int .i64, .int .i64, .int .i64]], []⟩
def srcBent_T : T (List X) :=
  (.sub (.call 15 [(.V 0), (.V 1), (.N 4)] 3
   (.ite (.eq (.V 9) (.N 0))
    (.call 15 [(.V 10), (.V 11), (.N 4)] 3
     (.need (.and (.not (.lt (.V 12) (.N 0))) (.lt (.V 12) (.N 4)))
      (.ret [(.V 13), (.V 14), (.at (.rows [[(.S ⟨#[]⟩)], [(.S ⟨#[65]⟩)], [(.S ⟨#[97, 32, 98]⟩)], [(.S ⟨#[116, 104, 105, 114, 116, 101, 101, 110, 45, 98, 121, 116, 101]⟩)]]) (.V 12) 0), (.V 3), (.V 6), (.V 8)])))
    (.ite (.eq (.V 9) (.N 1))
     (.call 15 [(.V 10), (.V 11), (.N 3)] 3
      (.need (.and (.not (.lt (.V 12) (.N 0))) (.lt (.V 12) (.N 3)))
       (.ret [(.V 13), (.V 14), (.V 2), (.at (.rows [[(.N 0)], [(.N 4)], [(.N (-1))]]) (.V 12) 0), (.V 6), (.V 8)])))
     (.ite (.eq (.V 9) (.N 2))
      (.call 15 [(.V 10), (.V 11), (.N 2)] 3
       (.need (.and (.not (.lt (.V 12) (.N 0))) (.lt (.V 12) (.N 2)))
        (.ret [(.V 13), (.V 14), (.V 2), (.V 3), (.V 6), (.at (.rows [[(.N (-1))], [(.N 1001)]]) (.V 12) 0)])))
      (.call 15 [(.V 10), (.V 11), (.N 3)] 3
       (.need (.and (.not (.lt (.V 12) (.N 0))) (.lt (.V 12) (.N 3)))
        (.ret [(.V 13), (.V 14), (.V 2), (.V 3), (.at (.rows [[(.N (-1))], [(.wr .i64 (.add (.V 7) (.N 1)))], [(.N 1000001)]]) (.V 12) 0), (.V 8)]))))))) 6
  (.ret [(.V 11), (.V 12), (.V 4), (.V 5), (.V 13), (.V 7), (.V 14), (.V 9), (.V 10)]))
set_option maxRecDepth 100000 in
theorem srcBent_t : runS Tryd.prog [srcN_K.to []] [] srcBent_K = srcBent_T := by kernel_rfl
end Go.Proofs.YtkapaokcgbgjfaaDoor
