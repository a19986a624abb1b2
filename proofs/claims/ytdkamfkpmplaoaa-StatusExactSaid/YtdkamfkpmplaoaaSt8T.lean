/- The trees of status, in the program and in the reference. -/
import Derived.Test.YtdkamfkpmplaoaaNums
set_option linter.unusedVariables false
namespace Go.Proofs.Ytdkamfkpmplaoaa
open Go.RowKit Fx
def sEst_K : Con := ⟨62, [.ptr [.sl [.int .i64], .int .i64], .val false [.int .i64]], [.val true [.int .i64, .int .i64, .int .i64, .int .i64, .int .i64]], []⟩
def sEst_T : T (List X) :=
  (.call 10 [(.V 0), (.V 1), (.N 4)] 3
  (.need (.and (.not (.lt (.V 3) (.N 0))) (.lt (.V 3) (.N 4)))
   (.call 10 [(.V 4), (.V 5), (.N 3)] 3
    (.need (.and (.not (.lt (.V 6) (.N 0))) (.lt (.V 6) (.N 3)))
     (.call 10 [(.V 7), (.V 8), (.N 4)] 3
      (.need (.and (.not (.lt (.V 9) (.N 0))) (.lt (.V 9) (.N 4)))
       (.call 10 [(.V 10), (.V 11), (.N 4)] 3
        (.need (.and (.not (.lt (.V 12) (.N 0))) (.lt (.V 12) (.N 4)))
         (.ret [(.at (.rows [[(.N 0)], [(.N 300)], [(.N (-700))], [(.N 5000)]]) (.V 3) 0), (.at (.rows [[(.N 0)], [(.N 400)], [(.N (-100))]]) (.V 6) 0), (.at (.rows [[(.N 0)], [(.N 10)], [(.N 100)], [(.N 900)]]) (.V 9) 0), (.V 2), (.at (.rows [[(.N 1)], [(.N 1)], [(.N 2)], [(.N 0)]]) (.V 12) 0), (.V 13), (.V 14)])))))))))
set_option maxRecDepth 100000 in
theorem sEst_t : runS Try.prog [srcN_K.to []] [] sEst_K = sEst_T := by kernel_rfl
def pvS_K : Con := ⟨52, [.val true [.int .i64, .int .i64], .val false [.int .i64]], [.val false [.bool]], []⟩
def pvS_T : T (List X) :=
  (.sub (.sub (.ite (.lt (.V 0) (.N 1))
    (.ret [(.B false)])
    (.ret [(.not (.lt (.N 3) (.V 0)))])) 1
   (.ite (.V 3)
    (.ite (.lt (.V 1) (.N (-1)))
     (.ret [(.B false)])
     (.ite (.lt (.V 2) (.V 1))
      (.ret [(.B false)])
      (.ite (.eq (.V 0) (.N 3))
       (.ret [(.eq (.V 1) (.N (-1)))])
       (.ret [(.B true)]))))
    (.ret [(.B false)]))) 1
  (.ret [(.V 3)]))
set_option maxRecDepth 100000 in
theorem pvS_t : runS Try.prog [] [] pvS_K = pvS_T := by kernel_rfl
def rvS_K : Con := ⟨53, [.val true [.int .i64, .int .i64], .val false [.int .i64]], [.val false [.bool]], []⟩
def rvS_T : T (List X) :=
  (.sub (.sub (.ite (.lt (.V 0) (.N 1))
    (.ret [(.B false)])
    (.ret [(.not (.lt (.N 3) (.V 0)))])) 1
   (.ite (.V 3)
    (.ite (.lt (.V 1) (.N (-1)))
     (.ret [(.B false)])
     (.ite (.lt (.V 2) (.V 1))
      (.ret [(.B false)])
      (.ite (.eq (.V 1) (.N (-1)))
       (.ret [(.B true)])
       (.ret [(.lt (.V 0) (.N 3))]))))
    (.ret [(.B false)]))) 1
  (.ret [(.V 3)]))
set_option maxRecDepth 100000 in
theorem rvS_t : runS Try.prog [] [] rvS_K = rvS_T := by kernel_rfl
def pnS_K : Con := ⟨54, [.val true [.int .i64, .int .i64], .val false [.int .i64], .val false [.int .i64], .val false [.int .i64]], [.val true [.int .i64, .int .i64], .val false [.int .i64]], []⟩
def pnS_T : T (List X) :=
  (.sub (.call 52 [(.V 0), (.V 1), (.V 2)] 1
   (.ite (.V 5)
    (.sub (.ite (.lt (.V 3) (.N 1))
      (.ret [(.B false)])
      (.ret [(.not (.lt (.N 3) (.V 3)))])) 1
     (.ret [(.not (.V 6))]))
    (.ret [(.B true)]))) 1
  (.ite (.V 5)
   (.ret [(.N 0), (.N 0), (.N 64)])
   (.sub (.ite (.lt (.V 2) (.N 0))
     (.ret [(.B true)])
     (.ite (.lt (.N 2147483648) (.V 2))
      (.ret [(.B true)])
      (.ite (.lt (.V 4) (.N 0))
       (.ret [(.B true)])
       (.ret [(.lt (.N 600) (.V 4))])))) 1
    (.ite (.V 6)
     (.ret [(.N 0), (.N 0), (.N 1)])
     (.ite (.lt (.V 0) (.V 3))
      (.sub (.ite (.eq (.V 1) (.N (-1)))
        (.ret [(.V 2)])
        (.ret [(.V 1)])) 1
       (.ite (.lt (.wr .i64 (.sub (.V 2) (.V 7))) (.V 4))
        (.ret [(.V 0), (.V 7), (.N 0)])
        (.sub (.ite (.eq (.V 3) (.wr .i64 (.add (.V 0) (.N 1))))
          (.ret [(.N (-1))])
          (.ret [(.V 2)])) 1
         (.ret [(.wr .i64 (.add (.V 0) (.N 1))), (.V 8), (.N 0)]))))
      (.ret [(.V 3), (.N (-1)), (.N 0)]))))))
set_option maxRecDepth 100000 in
theorem pnS_t : runS Try.prog [pvS_K.to []] [] pnS_K = pnS_T := by kernel_rfl
def rnS_K : Con := ⟨55, [.val true [.int .i64, .int .i64], .val false [.int .i64], .val false [.int .i64], .val false [.int .i64]], [.val true [.int .i64, .int .i64], .val false [.int .i64]], []⟩
def rnS_T : T (List X) :=
  (.sub (.call 53 [(.V 0), (.V 1), (.V 2)] 1
   (.ite (.V 5)
    (.sub (.ite (.lt (.V 3) (.N 1))
      (.ret [(.B false)])
      (.ret [(.not (.lt (.N 3) (.V 3)))])) 1
     (.ret [(.not (.V 6))]))
    (.ret [(.B true)]))) 1
  (.ite (.V 5)
   (.ret [(.N 0), (.N 0), (.N 64)])
   (.sub (.ite (.lt (.V 2) (.N 0))
     (.ret [(.B true)])
     (.ite (.lt (.N 2147483648) (.V 2))
      (.ret [(.B true)])
      (.ite (.lt (.V 4) (.N 0))
       (.ret [(.B true)])
       (.ret [(.lt (.N 600) (.V 4))])))) 1
    (.ite (.V 6)
     (.ret [(.N 0), (.N 0), (.N 1)])
     (.ite (.lt (.V 0) (.V 3))
      (.sub (.ite (.eq (.V 1) (.N (-1)))
        (.ret [(.V 2)])
        (.ret [(.V 1)])) 1
       (.sub (.ite (.lt (.wr .i64 (.sub (.V 2) (.V 7))) (.V 4))
         (.ret [(.V 0), (.V 7)])
         (.ite (.lt (.wr .i64 (.add (.V 0) (.N 1))) (.V 3))
          (.ret [(.wr .i64 (.add (.V 0) (.N 1))), (.V 2)])
          (.ret [(.wr .i64 (.add (.V 0) (.N 1))), (.N (-1))]))) 2
        (.ret [(.V 8), (.V 9), (.N 0)])))
      (.ret [(.V 3), (.N (-1)), (.N 0)]))))))
set_option maxRecDepth 100000 in
theorem rnS_t : runS Try.prog [rvS_K.to []] [] rnS_K = rnS_T := by kernel_rfl
def peS_K : Con := ⟨56, [.val true [.int .i64, .int .i64], .val false [.int .i64]], [.val false [.bool]], []⟩
def peS_T : T (List X) :=
  (.ret [(.not (.lt (.V 0) (.V 2)))])
set_option maxRecDepth 100000 in
theorem peS_t : runS Try.prog [] [] peS_K = peS_T := by kernel_rfl
def reS_K : Con := ⟨57, [.val true [.int .i64, .int .i64], .val false [.int .i64]], [.val false [.bool]], []⟩
def reS_T : T (List X) :=
  (.ret [(.not (.lt (.V 0) (.V 2)))])
set_option maxRecDepth 100000 in
theorem reS_t : runS Try.prog [] [] reS_K = reS_T := by kernel_rfl
def prS_H : List Hint := [
  ⟨35184371568626, 2, [], ⟨[.und, .int .i64 (.V 1), .und, .und, .con (.slice none 0 0), .int .i64 (.N 0), .ptr 0 0, .var 1, .und, .und, .und, .und, .und, .und, .und, .und, .und, .und, .und, .var 0, .int .i64 (.len (.V 0)), .int .i64 (.V 5), .und, .und, .und, .und, .und, .und, .und, .und, .und, .und, .und, .und, .und, .und, .und, .und, .und, .und, .und, .und, .und, .und, .und], [.fix [.int .i64 (.V 3), .int .i64 (.V 4)] true, .rows [.int .i64] (.V 2) 1], 6, 2, [none, none, none, none, none, none], [], [⟨0, [.int .i64], (.V 0)⟩]⟩⟩]
def prS_K : Con := ⟨59, [.val false [.sl [.int .i64]], .val false [.int .i64]], [.val false [.sl [.int .i64]], .val false [.int .i64]], []⟩
def prS_T : T (List X) :=
  (.ite (.lt (.N 400) (.len (.V 0)))
  (.ret [(.rows []), (.N 2)])
  (.need (.and (.not (.lt (.len (.V 0)) (.len (.V 0)))) (.not (.lt (.N 17592186044416) (.len (.V 0)))))
   (.loop [(.rep (.len (.V 0)) [(.N 0)]), (.N 1), (.N (-1)), (.N 0)]
    (.ite (.lt (.V 5) (.len (.V 0)))
     (.need (.and (.not (.lt (.V 5) (.N 0))) (.lt (.V 5) (.len (.V 0))))
      (.call 54 [(.V 3), (.V 4), (.V 5), (.at (.V 0) (.V 5) 0), (.V 1)] 3
       (.ite (.eq (.V 8) (.N 0))
        (.need (.and (.not (.lt (.V 5) (.N 0))) (.lt (.V 5) (.len (.V 2))))
         (.ret (true, [(.put (.V 2) (.V 5) 0 (.V 6)), (.V 6), (.V 7), (.wr .i64 (.add (.V 5) (.N 1)))])))
        (.ret (false, [(.N 0), (.V 2), (.V 3), (.V 4), (.V 6), (.V 7), (.V 8)])))))
     (.ret (false, [(.N 1), (.V 2), (.V 3), (.V 4), (.N 0), (.N 0), (.N 0)]))) 7
    (.ite (.eq (.V 2) (.N 0))
     (.ret [(.rows []), (.V 8)])
     (.ret [(.V 3), (.N 0)])))))
set_option maxRecDepth 100000 in
theorem prS_t : runS Try.prog [pnS_K.to []] [(59, prS_H)] prS_K = prS_T := by kernel_rfl
def rrS_H : List Hint := [
  ⟨4398046449650, 2, [.t [.int .i64] 7], ⟨[.und, .int .i64 (.V 1), .und, .und, .con (.slice none 0 0), .int .i64 (.N 0), .ptr 0 0, .var 2, .und, .und, .und, .und, .und, .und, .und, .und, .var 0, .int .i64 (.len (.V 0)), .int .i64 (.V 5), .und, .und, .und, .und, .und, .und, .und, .und, .und, .und, .und, .und, .und, .und, .und, .und, .und, .und, .und, .und, .und, .und, .und], [.fix [.int .i64 (.V 3), .int .i64 (.V 4)] true, .rows [.int .i64] (.V 2) 2], 6, 3, [none, none, none, none, none, none], [], [⟨0, [.int .i64], (.V 0)⟩]⟩⟩]
def rrS_K : Con := ⟨60, [.val false [.sl [.int .i64]], .val false [.int .i64]], [.val false [.sl [.int .i64]], .val false [.int .i64]], []⟩
def rrS_T : T (List X) :=
  (.ite (.lt (.N 400) (.len (.V 0)))
  (.ret [(.rows []), (.N 2)])
  (.loop [(.rows []), (.N 1), (.N (-1)), (.N 0)]
   (.ite (.lt (.V 5) (.len (.V 0)))
    (.need (.and (.not (.lt (.V 5) (.N 0))) (.lt (.V 5) (.len (.V 0))))
     (.call 55 [(.V 3), (.V 4), (.V 5), (.at (.V 0) (.V 5) 0), (.V 1)] 3
      (.ite (.eq (.V 8) (.N 0))
       (.need (.not (.lt (.N 17592186044416) (.add (.len (.V 2)) (.N 1))))
        (.ret (true, [(.app (.V 2) (.rows [[(.V 6)]])), (.V 6), (.V 7), (.wr .i64 (.add (.V 5) (.N 1)))])))
       (.ret (false, [(.N 0), (.V 2), (.V 3), (.V 4), (.V 6), (.V 7), (.V 8)])))))
    (.ret (false, [(.N 1), (.V 2), (.V 3), (.V 4), (.N 0), (.N 0), (.N 0)]))) 7
   (.ite (.eq (.V 2) (.N 0))
    (.ret [(.rows []), (.V 8)])
    (.ret [(.V 3), (.N 0)]))))
set_option maxRecDepth 100000 in
theorem rrS_t : runS Try.prog [rnS_K.to []] [(60, rrS_H)] rrS_K = rrS_T := by kernel_rfl
def pjS_K : Con := ⟨63, [.val false [.bool], .val false [.bool], .val true [.int .i64, .int .i64, .int .i64, .int .i64, .int .i64], .val false [.int .i64]], [.val false [.int .i64]], []⟩
def pjS_T : T (List X) :=
  (.sub (.sub (.ite (.V 0)
    (.ret [(.eq (.V 6) (.N 1))])
    (.ret [(.B false)])) 1
   (.ite (.V 8)
    (.sub (.ite (.V 1)
      (.ret [(.not (.lt (.V 7) (.N 2)))])
      (.ret [(.B false)])) 1
     (.ite (.V 9)
      (.ret [(.N 3)])
      (.ret [(.N 2)])))
    (.ret [(.N 1)]))) 1
  (.ret [(.V 8)]))
set_option maxRecDepth 100000 in
theorem pjS_t : runS Try.prog [] [] pjS_K = pjS_T := by kernel_rfl
def rjS_K : Con := ⟨64, [.val false [.bool], .val false [.bool], .val true [.int .i64, .int .i64, .int .i64, .int .i64, .int .i64], .val false [.int .i64]], [.val false [.int .i64]], []⟩
def rjS_T : T (List X) :=
  (.sub (.ite (.V 0)
   (.ret [(.not (.eq (.V 6) (.N 1)))])
   (.ret [(.B true)])) 1
  (.ite (.V 8)
   (.ret [(.N 1)])
   (.sub (.ite (.V 1)
     (.ret [(.not (.lt (.V 7) (.N 2)))])
     (.ret [(.B false)])) 1
    (.ite (.V 9)
     (.ret [(.N 3)])
     (.ret [(.N 2)])))))
set_option maxRecDepth 100000 in
theorem rjS_t : runS Try.prog [] [] rjS_K = rjS_T := by kernel_rfl
def levels_H : List Hint := [
  ⟨4192369, 6, [.t [.int .i64] 5], ⟨[.ptr 0 0, .und, .und, .und, .con (.slice none 0 0), .var 3, .int .i64 (.V 9), .und, .und, .und, .und, .und, .und, .und, .und, .und, .und, .und, .und, .und, .und, .und], [.fix [.var 4, .int .i64 (.V 8)] true, .rows [.int .i64] (.V 6) 3], 10, 5, [none, none, none, none, none, none, none, none, none, none], [], [⟨0, [.int .i64], (.V 0)⟩, ⟨1, [.int .i64], (.V 4)⟩, ⟨4, [.int .i64], (.V 7)⟩]⟩⟩]
def levels_K : Con := ⟨58, [.ptr [.sl [.int .i64], .int .i64], .val false [.int .i64]], [.val false [.sl [.int .i64]]], []⟩
def levels_T : T (List X) :=
  (.call 10 [(.V 0), (.V 1), (.wr .i64 (.add (.V 2) (.N 1)))] 3
  (.loop [(.rows []), (.V 4), (.V 5), (.V 3)]
   (.ite (.lt (.N 0) (.V 9))
    (.call 10 [(.V 7), (.V 8), (.N 5)] 3
     (.need (.and (.not (.lt (.V 10) (.N 0))) (.lt (.V 10) (.N 5)))
      (.need (.not (.lt (.N 17592186044416) (.add (.len (.V 6)) (.N 1))))
       (.ret (true, [(.app (.V 6) (.rows [[(.at (.rows [[(.N 3)], [(.N 3)], [(.N 2)], [(.N 1)], [(.N 3)]]) (.V 10) 0)]])), (.V 11), (.V 12), (.wr .i64 (.sub (.V 9) (.N 1)))])))))
    (.ret (false, [(.V 6), (.V 7), (.V 8)]))) 3
   (.ret [(.V 6), (.V 7), (.V 8)])))
set_option maxRecDepth 100000 in
theorem levels_t : runS Try.prog [srcN_K.to []] [(58, levels_H)] levels_K = levels_T := by kernel_rfl
def sane28_K : Con := ⟨51, [], [.val false [.bool]], []⟩
def sane28_T : T (List X) :=
  (.sub (.sub (.sub (.ite (.eq (.at (.put (.put (.put (.put (.put (.rows [[(.N 0)], [(.N 0)], [(.N 0)], [(.N 0)], [(.N 0)]]) (.N 0) 0 (.N 1)) (.N 1) 0 (.N 1)) (.N 2) 0 (.N 2)) (.N 3) 0 (.N 2)) (.N 4) 0 (.N 3)) (.N 0) 0) (.N 1))
     (.ite (.eq (.at (.put (.put (.put (.put (.put (.rows [[(.N 0)], [(.N 0)], [(.N 0)], [(.N 0)], [(.N 0)]]) (.N 0) 0 (.N 1)) (.N 1) 0 (.N 1)) (.N 2) 0 (.N 2)) (.N 3) 0 (.N 2)) (.N 4) 0 (.N 3)) (.N 1) 0) (.N 1))
      (.ite (.eq (.at (.put (.put (.put (.put (.put (.rows [[(.N 0)], [(.N 0)], [(.N 0)], [(.N 0)], [(.N 0)]]) (.N 0) 0 (.N 1)) (.N 1) 0 (.N 1)) (.N 2) 0 (.N 2)) (.N 3) 0 (.N 2)) (.N 4) 0 (.N 3)) (.N 2) 0) (.N 2))
       (.ite (.eq (.at (.put (.put (.put (.put (.put (.rows [[(.N 0)], [(.N 0)], [(.N 0)], [(.N 0)], [(.N 0)]]) (.N 0) 0 (.N 1)) (.N 1) 0 (.N 1)) (.N 2) 0 (.N 2)) (.N 3) 0 (.N 2)) (.N 4) 0 (.N 3)) (.N 3) 0) (.N 2))
        (.ite (.eq (.at (.put (.put (.put (.put (.put (.rows [[(.N 0)], [(.N 0)], [(.N 0)], [(.N 0)], [(.N 0)]]) (.N 0) 0 (.N 1)) (.N 1) 0 (.N 1)) (.N 2) 0 (.N 2)) (.N 3) 0 (.N 2)) (.N 4) 0 (.N 3)) (.N 4) 0) (.N 3))
         (.ret [(.N 0)])
         (.ret [(.N 1)]))
        (.ret [(.N 1)]))
       (.ret [(.N 1)]))
      (.ret [(.N 1)]))
     (.ret [(.N 1)])) 1
    (.ite (.eq (.V 0) (.N 0))
     (.ret [(.B true)])
     (.ret [(.B false)]))) 1
   (.ite (.V 0)
    (.ret [(.B true)])
    (.ret [(.B false)]))) 1
  (.ret [(.V 0)]))
set_option maxRecDepth 100000 in
theorem sane28_t : runS Try.prog [] [] sane28_K = sane28_T := by kernel_rfl
end Go.Proofs.Ytdkamfkpmplaoaa
