/- Trees of operation. -/
import Derived.Test.YtkapaokcgbgjfaaDoorExa
set_option linter.unusedVariables false
namespace Go.Proofs.YtkapaokcgbgjfaaDoor
open Go.RowKit Fx
def wValid_H : List Hint := [
  ⟨8796091973661, 2, [], ⟨[.str (.V 0), .und, .bool (.B false), .und, .und, .und, .und, .und, .und, .und, .und, .und, .und, .und, .und, .und, .und, .und, .und, .und, .int .i64 (.slen (.V 0)), .int .i64 (.V 2), .und, .und, .und, .und, .und, .und, .und, .und, .und, .und, .und, .und, .und, .und, .und, .und, .und, .und, .und, .und, .und], [], 3, 0, [none, none, none], [], []⟩⟩]
def wValid_K : Con := ⟨30, [.val false [.str]], [.val false [.bool]], []⟩
def wValid_T : T (List X) :=
  (.sub (.need (.not (.lt (.N 9223372036854775807) (.slen (.V 0))))
   (.ite (.lt (.slen (.V 0)) (.N 1))
    (.ret [(.B true)])
    (.ite (.lt (.N 12) (.slen (.V 0)))
     (.ret [(.B true)])
     (.need (.lt (.N 0) (.slen (.V 0)))
      (.sub (.ite (.lt (.sat (.V 0) (.N 0)) (.N 97))
        (.ret [(.B false)])
        (.ret [(.not (.lt (.N 122) (.sat (.V 0) (.N 0))))])) 1
       (.ret [(.not (.V 1))])))))) 1
  (.ite (.V 1)
   (.ret [(.B false)])
   (.need (.not (.lt (.N 9223372036854775807) (.slen (.V 0))))
    (.loop [(.N 0)]
     (.ite (.lt (.V 2) (.slen (.V 0)))
      (.need (.and (.not (.lt (.V 2) (.N 0))) (.lt (.V 2) (.slen (.V 0))))
       (.sub (.sub (.ite (.lt (.sat (.V 0) (.V 2)) (.N 97))
          (.ret [(.B false)])
          (.ret [(.not (.lt (.N 122) (.sat (.V 0) (.V 2))))])) 1
         (.ite (.V 3)
          (.ret [(.V 3), (.not (.V 3)), (.not (.V 3)), (.B false), (.B false), (.B false)])
          (.ite (.lt (.sat (.V 0) (.V 2)) (.N 48))
           (.ret [(.V 3), (.not (.V 3)), (.not (.V 3)), (.B true), (.B true), (.not (.eq (.sat (.V 0) (.V 2)) (.N 45)))])
           (.ite (.lt (.N 57) (.sat (.V 0) (.V 2)))
            (.ret [(.V 3), (.not (.V 3)), (.not (.V 3)), (.lt (.N 57) (.sat (.V 0) (.V 2))), (.lt (.N 57) (.sat (.V 0) (.V 2))), (.not (.eq (.sat (.V 0) (.V 2)) (.N 45)))])
            (.ret [(.V 3), (.not (.V 3)), (.not (.V 3)), (.lt (.N 57) (.sat (.V 0) (.V 2))), (.lt (.N 57) (.sat (.V 0) (.V 2))), (.B false)]))))) 6
        (.ite (.V 8)
         (.ret (false, [(.N 0)]))
         (.ret (true, [(.wr .i64 (.add (.V 2) (.N 1)))])))))
      (.ret (false, [(.N 1)]))) 1
     (.ite (.eq (.V 2) (.N 0))
      (.ret [(.B false)])
      (.ret [(.B true)]))))))
set_option maxRecDepth 100000 in
theorem wValid_t : runS Tryd.prog [] [(30, wValid_H)] wValid_K = wValid_T := by kernel_rfl
def opCheck_K : Con := ⟨13, [.val true [.str, .int .i64, .int .i64, .int .i64, .int .i64, .int .i64, .int .i64]], [.val false [.int .i64]], []⟩
def opCheck_T : T (List X) :=
  (.sub (.call 30 [(.V 0)] 1
   (.ite (.V 7)
    (.sub (.ite (.lt (.V 1) (.N 1))
      (.ret [(.B false)])
      (.ret [(.not (.lt (.N 3) (.V 1)))])) 1
     (.ite (.V 8)
      (.sub (.ite (.lt (.V 6) (.N 0))
        (.ret [(.B false)])
        (.ret [(.not (.lt (.N 1000) (.V 6)))])) 1
       (.ret [(.not (.V 9))]))
      (.ret [(.B true)])))
    (.ret [(.B true)]))) 1
  (.ite (.V 7)
   (.ret [(.N 66)])
   (.sub (.sub (.sub (.sub (.sub (.ite (.lt (.V 2) (.N (-100000000)))
         (.ret [(.B true)])
         (.ret [(.lt (.N 100000000) (.V 2))])) 1
        (.ite (.V 8)
         (.ret [(.N 0)])
         (.sub (.ite (.lt (.V 3) (.N (-100000000)))
           (.ret [(.B true)])
           (.ret [(.lt (.N 100000000) (.V 3))])) 1
          (.ite (.V 9)
           (.ret [(.N 0)])
           (.ret [(.N 1)]))))) 1
       (.ite (.eq (.V 8) (.N 0))
        (.ret [(.B false)])
        (.ret [(.B true)]))) 1
      (.ite (.V 8)
       (.ite (.lt (.V 4) (.N 0))
        (.ret [(.B true)])
        (.ite (.lt (.V 5) (.V 4))
         (.ret [(.B true)])
         (.ret [(.lt (.N 1000000) (.V 5))])))
       (.ret [(.B true)]))) 1
     (.ite (.V 8)
      (.ret [(.N 65)])
      (.ret [(.N 0)]))) 1
    (.ret [(.V 8)]))))
set_option maxRecDepth 100000 in
theorem opCheck_t : runS Tryd.prog [wValid_K.to []] [] opCheck_K = opCheck_T := by kernel_rfl
def opcheck_K : Con := ⟨37, [.val true [.str, .int .i64, .int .i64, .int .i64, .int .i64, .int .i64, .int .i64], .val false [.int .i64], .val false [.int .i64], .val false [.int .i64]], [.val false [.int .i64]], []⟩
def opcheck_T : T (List X) :=
  (.call 13 [(.V 0), (.V 1), (.V 2), (.V 3), (.V 4), (.V 5), (.V 6)] 1
  (.ite (.eq (.V 10) (.N 0))
   (.sub (.sub (.ite (.lt (.V 7) (.N 0))
      (.ret [(.B false)])
      (.ret [(.not (.lt (.N 5) (.V 7)))])) 1
     (.ite (.V 11)
      (.sub (.sub (.ite (.lt (.V 8) (.N 1))
         (.ret [(.B false)])
         (.ret [(.not (.lt (.N 3) (.V 8)))])) 1
        (.ite (.V 12)
         (.sub (.ite (.lt (.V 9) (.N 1))
           (.ret [(.B false)])
           (.ret [(.not (.lt (.N 3) (.V 9)))])) 1
          (.ret [(.V 13)]))
         (.ret [(.B false)]))) 1
       (.ret [(.not (.V 12))]))
      (.ret [(.B true)]))) 1
    (.ite (.V 11)
     (.ret [(.N 1)])
     (.ret [(.N 0)])))
   (.ret [(.V 10)])))
set_option maxRecDepth 100000 in
theorem opcheck_t : runS Tryd.prog [opCheck_K.to []] [] opcheck_K = opcheck_T := by kernel_rfl
def opFit_K : Con := ⟨21, [.val true [.str, .int .i64, .int .i64, .int .i64, .int .i64, .int .i64, .int .i64], .val false [.int .i64], .val false [.int .i64]], [.val false [.bool]], []⟩
def opFit_T : T (List X) :=
  (.sub (.call 13 [(.V 0), (.V 1), (.V 2), (.V 3), (.V 4), (.V 5), (.V 6)] 1
   (.ite (.eq (.V 9) (.N 0))
    (.sub (.sub (.ite (.lt (.V 7) (.N 1))
       (.ret [(.B false)])
       (.ret [(.not (.lt (.N 3) (.V 7)))])) 1
      (.ite (.V 10)
       (.sub (.ite (.lt (.V 8) (.N 1))
         (.ret [(.B false)])
         (.ret [(.not (.lt (.N 3) (.V 8)))])) 1
        (.ret [(.V 11)]))
       (.ret [(.B false)]))) 1
     (.ite (.V 10)
      (.ite (.lt (.V 7) (.V 1))
       (.ret [(.B false)])
       (.ret [(.eq (.V 8) (.N 1))]))
      (.ret [(.B false)])))
    (.ret [(.B false)]))) 1
  (.ret [(.V 9)]))
set_option maxRecDepth 100000 in
theorem opFit_t : runS Tryd.prog [opCheck_K.to []] [] opFit_K = opFit_T := by kernel_rfl
def opNext_K : Con := ⟨17, [.val true [.str, .int .i64, .int .i64, .int .i64, .int .i64, .int .i64, .int .i64], .val false [.int .i64], .val false [.int .i64], .val false [.int .i64], .val false [.bool]], [.val false [.int .i64], .val false [.int .i64]], []⟩
def opNext_T : T (List X) :=
  (.call 37 [(.V 0), (.V 1), (.V 2), (.V 3), (.V 4), (.V 5), (.V 6), (.V 7), (.V 8), (.V 9)] 1
  (.ite (.eq (.V 11) (.N 0))
   (.call 21 [(.V 0), (.V 1), (.V 2), (.V 3), (.V 4), (.V 5), (.V 6), (.V 8), (.V 9)] 1
    (.sub (.ite (.eq (.V 7) (.N 1))
      (.ite (.V 12)
       (.ret [(.N 1), (.N 0)])
       (.ret [(.N 0), (.N 0)]))
      (.sub (.ite (.eq (.V 7) (.N 2))
        (.ret [(.eq (.V 7) (.N 2))])
        (.ret [(.eq (.V 7) (.N 3))])) 1
       (.ite (.V 13)
        (.sub (.ite (.eq (.V 9) (.N 3))
          (.ret [(.B true)])
          (.ret [(.eq (.V 8) (.N 1))])) 1
         (.ite (.V 14)
          (.ret [(.N 0), (.N 4)])
          (.ite (.V 12)
           (.ret [(.N 0), (.N 2)])
           (.ret [(.N 0), (.N 3)]))))
        (.ite (.eq (.V 7) (.N 4))
         (.ite (.V 10)
          (.ret [(.N 0), (.N 5)])
          (.ret [(.N 1), (.N 0)]))
         (.ret [(.N 1), (.N 0)]))))) 2
     (.ite (.eq (.V 13) (.N 0))
      (.ret [(.V 14), (.N 0)])
      (.ret [(.V 7), (.N 0)]))))
   (.ret [(.N 0), (.V 11)])))
set_option maxRecDepth 100000 in
theorem opNext_t : runS Tryd.prog [opcheck_K.to [], opFit_K.to []] [] opNext_K = opNext_T := by kernel_rfl
def opAsk_H : List Hint := [
  ⟨1152921487427030589, 13, [], ⟨[.und, .int .i64 (.V 7), .int .i64 (.V 8), .int .i64 (.V 9), .int .i64 (.V 10), .ptr 0 0, .und, .und, .und, .und, .int .i64 (.N 0), .int .i64 (.N 0), .und, .und, .und, .und, .und, .und, .und, .und, .und, .und, .und, .und, .und, .und, .und, .und, .und, .und, .und, .und, .und, .und, .agg [.int .i64 (.N 1), .int .i64 (.N 0), .int .i64 (.N 1), .int .i64 (.N 2), .int .i64 (.N 1), .int .i64 (.N 2), .int .i64 (.N 3), .int .i64 (.N 1), .int .i64 (.N 0), .int .i64 (.N 3), .int .i64 (.N 2), .int .i64 (.N 4), .int .i64 (.N 3), .int .i64 (.N 3), .int .i64 (.N 4), .int .i64 (.N 4), .int .i64 (.N 5), .int .i64 (.N 0)], .int .i64 (.V 13), .und, .und, .und, .und, .und, .und, .und, .und, .und, .und, .und, .und, .und, .und, .und, .und, .und, .und, .und, .und, .und, .und, .und, .und, .und, .und, .und, .und, .und, .und, .und, .und, .und], [.fix [.str (.V 0), .int .i64 (.V 1), .int .i64 (.V 2), .int .i64 (.V 3), .int .i64 (.V 4), .int .i64 (.V 5), .int .i64 (.V 6)] true], 14, 0, [none, none, none, none, none, none, none, none, none, none, none, none, none, some (0, 4611686018427387904)], [], []⟩⟩]
def opAsk_K : Con := ⟨19, [.val true [.str, .int .i64, .int .i64, .int .i64, .int .i64, .int .i64, .int .i64], .val false [.int .i64], .val false [.int .i64], .val false [.int .i64], .val false [.int .i64]], [.val false [.int .i64], .val false [.int .i64]], []⟩
def opAsk_T : T (List X) :=
  (.call 37 [(.V 0), (.V 1), (.V 2), (.V 3), (.V 4), (.V 5), (.V 6), (.V 7), (.V 8), (.V 9)] 1
  (.sub (.sub (.ite (.eq (.V 11) (.N 0))
     (.sub (.ite (.lt (.V 10) (.N 0))
       (.ret [(.B false)])
       (.ret [(.not (.lt (.N 4) (.V 10)))])) 1
      (.ret [(.not (.V 12))]))
     (.ret [(.B false)])) 1
    (.ite (.V 12)
     (.ret [(.N 1)])
     (.ret [(.V 11)]))) 1
   (.ite (.eq (.V 12) (.N 0))
    (.ite (.eq (.V 10) (.N 0))
     (.ret [(.V 7), (.N 0)])
     (.loop [(.N 0)]
      (.ite (.lt (.V 13) (.N 6))
       (.sub (.sub (.ite (.eq (.V 13) (.N 0))
          (.ret [(.N 1), (.N 0), (.N 1), (.N 1), (.N 0), (.N 1)])
          (.ite (.eq (.V 13) (.N 1))
           (.ret [(.N 2), (.N 1), (.N 2), (.N 2), (.N 1), (.N 2)])
           (.ite (.eq (.V 13) (.N 2))
            (.ret [(.N 3), (.N 1), (.N 0), (.N 3), (.N 1), (.N 0)])
            (.ite (.eq (.V 13) (.N 3))
             (.ret [(.N 3), (.N 2), (.N 4), (.N 3), (.N 2), (.N 4)])
             (.ite (.eq (.V 13) (.N 4))
              (.ret [(.N 3), (.N 3), (.N 4), (.N 3), (.N 3), (.N 4)])
              (.ret [(.N 4), (.N 5), (.N 0), (.N 4), (.N 5), (.N 0)])))))) 6
         (.sub (.ite (.eq (.V 14) (.V 10))
           (.ret [(.not (.eq (.V 15) (.V 7)))])
           (.ret [(.B true)])) 1
          (.ite (.V 20)
           (.ret [(.N 0), (.V 14), (.V 15), (.V 16), (.V 17), (.V 18), (.V 19), (.V 14), (.not (.eq (.V 14) (.V 10))), (.not (.eq (.V 14) (.V 10))), (.V 20), (.N 0), (.N 0), (.N 0), (.N 0), (.N 0), (.N 0), (.N 0)])
           (.sub (.ite (.eq (.V 10) (.N 1))
             (.ret [(.B true), (.B true)])
             (.ret [(.eq (.V 10) (.N 2)), (.eq (.V 10) (.N 2))])) 2
            (.sub (.ite (.V 21)
              (.ret [(.lt (.V 8) (.V 1))])
              (.ret [(.B false)])) 1
             (.ite (.V 23)
              (.ret [(.N 1), (.V 14), (.V 15), (.V 16), (.N 0), (.N 64), (.V 21), (.V 17), (.V 18), (.V 19), (.V 14), (.not (.eq (.V 14) (.V 10))), (.not (.eq (.V 14) (.V 10))), (.V 20), (.V 22), (.V 21), (.V 21), (.V 23)])
              (.sub (.ite (.V 21)
                (.ret [(.not (.eq (.V 9) (.N 1)))])
                (.ret [(.B false)])) 1
               (.ite (.V 24)
                (.ret [(.N 1), (.V 14), (.V 15), (.V 16), (.N 0), (.N 65), (.V 21), (.V 17), (.V 18), (.V 19), (.V 14), (.not (.eq (.V 14) (.V 10))), (.not (.eq (.V 14) (.V 10))), (.V 20), (.V 22), (.V 21), (.V 21), (.V 23)])
                (.ret [(.N 1), (.V 14), (.V 15), (.V 16), (.V 16), (.N 0), (.V 21), (.V 17), (.V 18), (.V 19), (.V 14), (.not (.eq (.V 14) (.V 10))), (.not (.eq (.V 14) (.V 10))), (.V 20), (.V 22), (.V 21), (.V 21), (.V 23)]))))))))) 18
        (.ite (.eq (.V 14) (.N 0))
         (.ret (true, [(.add (.V 13) (.N 1))]))
         (.ret (false, [(.N 0), (.V 15), (.V 16), (.V 17), (.V 18), (.V 19)]))))
       (.ret (false, [(.N 1), (.N 0), (.N 0), (.N 0), (.N 0), (.N 0)]))) 6
      (.ite (.eq (.V 13) (.N 0))
       (.ret [(.V 17), (.V 18)])
       (.ret [(.N 0), (.N 66)]))))
    (.ret [(.N 0), (.V 12)]))))
set_option maxRecDepth 100000 in
theorem opAsk_t : runS Tryd.prog [opcheck_K.to []] [(19, opAsk_H)] opAsk_K = opAsk_T := by kernel_rfl
def sane30_K : Con := ⟨9, [], [.val false [.bool]], []⟩
def sane30_T : T (List X) :=
  (.sub (.sub (.call 13 [(.S ⟨#[100, 114, 105, 108, 108]⟩), (.N 3), (.N 0), (.N 0), (.N 0), (.N 0), (.N 0)] 1
    (.ite (.eq (.V 0) (.N 0))
     (.ret [(.N 0)])
     (.ret [(.V 0)]))) 1
   (.ite (.eq (.V 0) (.N 0))
    (.sub (.call 13 [(.S ⟨#[100, 114, 105, 108, 108]⟩), (.N 3), (.N 0), (.N 0), (.N 0), (.N 0), (.N 0)] 1
      (.ite (.eq (.V 1) (.N 0))
       (.ret [])
       (.ret []))) 0
     (.ret [(.N 3), (.N 0)]))
    (.ret [(.N 0), (.V 0)]))) 2
  (.sub (.sub (.call 13 [(.S ⟨#[100, 114, 105, 108, 108]⟩), (.N 3), (.N 0), (.N 0), (.N 0), (.N 0), (.N 0)] 1
     (.ite (.eq (.V 2) (.N 0))
      (.ret [(.N 0)])
      (.ret [(.V 2)]))) 1
    (.ite (.eq (.V 2) (.N 0))
     (.sub (.call 13 [(.S ⟨#[100, 114, 105, 108, 108]⟩), (.N 3), (.N 0), (.N 0), (.N 0), (.N 0), (.N 0)] 1
       (.ite (.eq (.V 3) (.N 0))
        (.ret [])
        (.ret []))) 0
      (.ret [(.N 4), (.N 0)]))
     (.ret [(.N 0), (.V 2)]))) 2
   (.sub (.sub (.call 13 [(.S ⟨#[100, 114, 105, 108, 108]⟩), (.N 3), (.N 0), (.N 0), (.N 0), (.N 0), (.N 0)] 1
      (.ite (.eq (.V 4) (.N 0))
       (.ret [(.N 0)])
       (.ret [(.V 4)]))) 1
     (.sub (.ite (.eq (.V 4) (.N 0))
       (.ret [])
       (.ret [])) 0
      (.ite (.eq (.V 4) (.N 0))
       (.ret [(.N 64)])
       (.ret [(.V 4)])))) 1
    (.sub (.ite (.eq (.V 1) (.N 0))
      (.ite (.eq (.V 3) (.N 0))
       (.ite (.eq (.V 0) (.N 3))
        (.ite (.eq (.V 2) (.N 4))
         (.ret [(.eq (.V 4) (.N 64))])
         (.ret [(.B false)]))
        (.ret [(.B false)]))
       (.ret [(.B false)]))
      (.ret [(.B false)])) 1
     (.ret [(.V 5)])))))
set_option maxRecDepth 100000 in
theorem sane30_t : runS Tryd.prog [opCheck_K.to []] [] sane30_K = sane30_T := by kernel_rfl
def srcOp_K : Con := ⟨11, [.ptr [.sl [.int .i64], .int .i64]], [.val true [.str, .int .i64, .int .i64, .int .i64, .int .i64, .int .i64, .int .i64]], []⟩
def srcOp_T : T (List X) :=
  (.call 15 [(.V 0), (.V 1), (.N 3)] 3
  (.need (.and (.not (.lt (.V 2) (.N 0))) (.lt (.V 2) (.N 3)))
   (.call 15 [(.V 3), (.V 4), (.N 3)] 3
    (.call 15 [(.V 6), (.V 7), (.N 4)] 3
     (.need (.and (.not (.lt (.V 8) (.N 0))) (.lt (.V 8) (.N 4)))
      (.call 15 [(.V 9), (.V 10), (.N 3)] 3
       (.need (.and (.not (.lt (.V 11) (.N 0))) (.lt (.V 11) (.N 3)))
        (.call 15 [(.V 12), (.V 13), (.N 3)] 3
         (.need (.and (.not (.lt (.V 14) (.N 0))) (.lt (.V 14) (.N 3)))
          (.call 15 [(.V 15), (.V 16), (.N 3)] 3
           (.need (.and (.not (.lt (.V 17) (.N 0))) (.lt (.V 17) (.N 3)))
            (.call 15 [(.V 18), (.V 19), (.N 4)] 3
             (.need (.and (.not (.lt (.V 20) (.N 0))) (.lt (.V 20) (.N 4)))
              (.ret [(.at (.rows [[(.S ⟨#[100, 114, 105, 108, 108]⟩)], [(.S ⟨#[100, 105, 118, 101]⟩)], [(.S ⟨#[97, 45, 49]⟩)]]) (.V 2) 0), (.wr .i64 (.add (.N 1) (.V 5))), (.at (.rows [[(.N 0)], [(.N 0)], [(.N 200)]]) (.V 11) 0), (.at (.rows [[(.N 0)], [(.N 0)], [(.N (-100))]]) (.V 14) 0), (.at (.rows [[(.N 0)], [(.N 300)], [(.N 500)], [(.N 2000)]]) (.V 8) 0), (.wr .i64 (.add (.at (.rows [[(.N 0)], [(.N 300)], [(.N 500)], [(.N 2000)]]) (.V 8) 0) (.at (.rows [[(.N 0)], [(.N 500)], [(.N 3000)]]) (.V 17) 0))), (.at (.rows [[(.N 0)], [(.N 10)], [(.N 50)], [(.N 1000)]]) (.V 20) 0), (.V 21), (.V 22)]))))))))))))))
set_option maxRecDepth 100000 in
theorem srcOp_t : runS Tryd.prog [srcN_K.to []] [] srcOp_K = srcOp_T := by kernel_rfl
end Go.Proofs.YtkapaokcgbgjfaaDoor
