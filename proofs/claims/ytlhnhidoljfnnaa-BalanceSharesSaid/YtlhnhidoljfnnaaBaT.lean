/- The trees of balance. -/
import Derived.Test.YtlhnhidoljfnnaaRnd
import Derived.Test.YtlhnhidoljfnnaaAuto
import Derived.Test.YtlhnhidoljfnnaaBaM
set_option linter.unusedVariables false
namespace Go.Proofs.Ytlhnhidoljfnnaa
open Go.RowKit Fx
def symM_K : Con := ⟨128, [], [], []⟩
def baChk_H : List Hint := [
  ⟨68719411283, 3, [], ⟨[.int .i64 (.V 0), .var 0, .und, .und, .int .i64 (.N 0), .und, .und, .und, .und, .und, .und, .und, .und, .und, .und, .und, .var 0, .int .i64 (.len (.V 1)), .int .i64 (.V 3), .und, .und, .und, .und, .und, .und, .und, .und, .und, .und, .und, .und, .und, .und, .und, .und, .und], [], 4, 1, [none, none, none, none], [], [⟨0, [.int .i64], (.V 1)⟩]⟩⟩]
def baChk_K : Con := ⟨107, [.val false [.int .i64], .val false [.sl [.int .i64]]], [.val false [.int .i64]], []⟩
def baChk_T : T (List X) :=
  (.ite (.lt (.N 8) (.len (.V 1)))
  (.ret [(.N 2)])
  (.sub (.ite (.lt (.V 0) (.N 0))
    (.ret [(.B true)])
    (.ret [(.lt (.N 800000) (.V 0))])) 1
   (.ite (.V 2)
    (.ret [(.N 1)])
    (.loop [(.N 0)]
     (.ite (.lt (.V 3) (.len (.V 1)))
      (.need (.and (.not (.lt (.V 3) (.N 0))) (.lt (.V 3) (.len (.V 1))))
       (.sub (.ite (.lt (.at (.V 1) (.V 3) 0) (.N 1))
         (.ret [(.B true)])
         (.ret [(.lt (.N 50000) (.at (.V 1) (.V 3) 0))])) 1
        (.ite (.V 4)
         (.ret (false, [(.N 0)]))
         (.ret (true, [(.wr .i64 (.add (.V 3) (.N 1)))])))))
      (.ret (false, [(.N 1)]))) 1
     (.ite (.eq (.V 3) (.N 0))
      (.ret [(.N 1)])
      (.sub (.ite (.eq (.len (.V 1)) (.N 0))
        (.ret [(.not (.eq (.V 0) (.N 0)))])
        (.ret [(.B false)])) 1
       (.ite (.V 4)
        (.ret [(.N 9)])
        (.ret [(.N 0)]))))))))
set_option maxRecDepth 100000 in
theorem baChk_t : runS Try.prog [] [(107, baChk_H)] baChk_K = baChk_T := by kernel_rfl
def baCheck_H : List Hint := [
  ⟨131052, 4, [], ⟨[.und, .und, .int .i64 (.N 0), .int .i64 (.V 4), .und, .und, .var 0, .int .i64 (.len (.V 1)), .int .i64 (.V 5), .und, .und, .und, .und, .und, .und, .und, .und], [], 6, 2, [none, none, none, none, none, none], [], [⟨0, [.int .i64], (.V 1)⟩, ⟨1, [.int .i64], (.V 2)⟩]⟩⟩,
  ⟨1152921504539743172, 5, [], ⟨[.int .i64 (.V 0), .und, .var 1, .und, .und, .und, .bool (.B false), .int .i64 (.V 4), .int .i64 (.V 5), .und, .und, .und, .und, .und, .und, .und, .und, .und, .und, .und, .und, .und, .und, .und, .und, .und, .var 0, .int .i64 (.len (.V 1)), .int .i64 (.V 6), .und, .und, .und, .und, .und, .und, .und, .und, .und, .und, .und, .und, .und, .und, .und, .und, .und, .und, .und, .und, .und, .und, .und, .und, .und, .und, .und, .und, .und, .und, .und, .und, .und, .und, .und, .und, .und, .und, .und, .und, .und], [], 7, 2, [none, none, none, none, none, none, none], [], [⟨0, [.int .i64], (.V 1)⟩, ⟨1, [.int .i64], (.V 2)⟩]⟩⟩]
def baCheck_K : Con := ⟨66, [.val false [.int .i64], .val false [.sl [.int .i64]], .val false [.sl [.int .i64]]], [.val false [.bool]], []⟩
def baCheck_T : T (List X) :=
  (.sub (.call 107 [(.V 0), (.V 1)] 1
   (.ite (.eq (.V 3) (.N 0))
    (.ret [(.not (.eq (.len (.V 2)) (.len (.V 1))))])
    (.ret [(.B true)]))) 1
  (.ite (.V 3)
   (.ret [(.B false)])
   (.loop [(.N 0), (.N 0)]
    (.ite (.lt (.V 5) (.len (.V 1)))
     (.need (.and (.not (.lt (.V 5) (.N 0))) (.lt (.V 5) (.len (.V 1))))
      (.ret (true, [(.wr .i64 (.add (.V 4) (.at (.V 1) (.V 5) 0))), (.wr .i64 (.add (.V 5) (.N 1)))])))
     (.ret (false, [(.V 4)]))) 1
    (.loop [(.V 0), (.N 0)]
     (.ite (.lt (.V 6) (.len (.V 1)))
      (.need (.and (.not (.lt (.V 6) (.N 0))) (.lt (.V 6) (.len (.V 1))))
       (.need (.not (.eq (.V 4) (.N 0)))
        (.sub (.need (.and (.not (.lt (.V 6) (.N 0))) (.lt (.V 6) (.len (.V 2))))
          (.ite (.eq (.at (.V 2) (.V 6) 0) (.wr .i64 (.quo (.wr .i64 (.mul (.V 0) (.at (.V 1) (.V 6) 0))) (.V 4))))
           (.ret [(.B false)])
           (.ite (.eq (.at (.V 2) (.V 6) 0) (.wr .i64 (.add (.wr .i64 (.quo (.wr .i64 (.mul (.V 0) (.at (.V 1) (.V 6) 0))) (.V 4))) (.N 1))))
            (.ret [(.eq (.rem (.wr .i64 (.mul (.V 0) (.at (.V 1) (.V 6) 0))) (.V 4)) (.N 0))])
            (.ret [(.B true)])))) 1
         (.ite (.V 7)
          (.ret (false, [(.N 0), (.V 5)]))
          (.need (.and (.not (.lt (.V 6) (.N 0))) (.lt (.V 6) (.len (.V 2))))
           (.ret (true, [(.wr .i64 (.sub (.V 5) (.at (.V 2) (.V 6) 0))), (.wr .i64 (.add (.V 6) (.N 1)))])))))))
      (.ret (false, [(.N 1), (.V 5)]))) 2
     (.ite (.eq (.V 5) (.N 0))
      (.ret [(.B false)])
      (.ret [(.eq (.V 6) (.N 0))]))))))
set_option maxRecDepth 100000 in
theorem baCheck_t : runS Try.prog [baChk_K.to []] [(66, baCheck_H), (108, baCheck_H)] baCheck_K = baCheck_T := by kernel_rfl
def baSplit_H : List Hint := [
  ⟨131052, 3, [], ⟨[.und, .und, .int .i64 (.N 0), .int .i64 (.V 3), .und, .und, .var 0, .int .i64 (.len (.V 1)), .int .i64 (.V 4), .und, .und, .und, .und, .und, .und, .und, .und], [.fix [.int .i64 (.V 0)] true, .fix [.var 0] true], 5, 1, [none, none, none, none, none], [], [⟨0, [.int .i64], (.V 1)⟩]⟩⟩,
  ⟨1151795604431582139, 4, [], ⟨[.und, .und, .ptr 0 0, .ptr 1 0, .con (.slice none 0 0), .int .i64 (.N 0), .und, .ptr 2 0, .var 1, .var 2, .und, .und, .und, .und, .und, .und, .und, .und, .und, .und, .und, .und, .und, .und, .und, .und, .und, .und, .var 0, .int .i64 (.len (.V 1)), .int .i64 (.V 6), .und, .und, .und, .und, .und, .und, .und, .und, .und, .und, .und, .und, .und, .und, .und, .und, .und, .und, .und, .und, .und, .und, .und, .und, .und, .und, .und, .und, .und, .und, .und, .und, .und, .und, .und, .und, .und, .und, .und], [.fix [.int .i64 (.V 0)] true, .fix [.var 0] true, .fix [.int .i64 (.V 3)] true, .rows [.int .i64] (.V 4) 1, .rows [.int .i64] (.V 5) 2], 7, 3, [none, none, none, none, none, none, none], [], [⟨0, [.int .i64], (.V 1)⟩]⟩⟩,
  ⟨1152912708379343821, 6, [], ⟨[.var 2, .int .i64 (.len (.V 5)), .fn 110 [] [.ptr 0 0, .ptr 1 0, .ptr 2 0], .und, .und, .und, .int .i64 (.N 20), .int .i64 (.V 7), .int .i64 (.V 8), .und, .und, .und, .und, .und, .und, .und, .und, .und, .und, .und, .und, .und, .und, .und, .und, .und, .und, .und, .und, .und, .und, .und, .und, .und, .und, .und, .und, .und, .und, .und, .und, .und, .und, .und, .und, .und, .und, .und, .und, .und, .und, .und, .und, .und, .und, .und, .und, .und, .und, .und, .und, .und, .und], [.fix [.int .i64 (.V 0)] true, .fix [.var 0] true, .fix [.int .i64 (.V 3)] true, .rows [.int .i64] (.V 4) 1, .rows [.int .i64] (.V 6) 2], 9, 3, [none, none, none, none, none, none, none, some (0, 4611686018427387904), some (20, 4611686018427387904)], [], [⟨0, [.int .i64], (.V 1)⟩]⟩⟩,
  ⟨9007199254737679, 11, [], ⟨[.var 2, .int .i64 (.V 7), .int .i64 (.len (.V 5)), .fn 110 [] [.ptr 0 0, .ptr 1 0, .ptr 2 0], .und, .und, .und, .und, .int .i64 (.V 10), .int .i64 (.V 12), .und, .und, .int .i64 (.V 10), .int .i64 (.len (.V 5)), .bool (.lt (.V 10) (.len (.V 5))), .und, .und, .int .i64 (.V 10), .und, .und, .und, .und, .und, .und, .und, .und, .und, .und, .und, .und, .und, .und, .und, .und, .und, .und, .und, .und, .und, .und, .und, .und, .und, .und, .und, .und, .und, .und, .und, .und, .und, .und, .und], [.fix [.int .i64 (.V 0)] true, .fix [.var 0] true, .fix [.int .i64 (.V 3)] true, .rows [.int .i64] (.V 4) 1, .rows [.int .i64] (.V 11) 2], 13, 3, [none, none, none, none, none, none, none, some (0, 4611686018427387904), some (20, 4611686018427387904), none, none, none, none], [], [⟨0, [.int .i64], (.V 1)⟩]⟩⟩,
  ⟨131052, 10, [], ⟨[.und, .und, .int .i64 (.N 0), .int .i64 (.V 10), .und, .und, .var 1, .int .i64 (.len (.V 4)), .int .i64 (.V 11), .und, .und, .und, .und, .und, .und, .und, .und], [.none, .none, .none, .rows [.int .i64] (.V 4) 1, .none], 12, 3, [none, none, none, none, none, none, none, some (0, 4611686018427387904), some (20, 4611686018427387904), none, none, none], [], [⟨0, [.int .i64], (.V 1)⟩, ⟨1, [], (.rep (.len (.V 4)) [])⟩, ⟨2, [], (.rep (.len (.V 9)) [])⟩]⟩⟩,
  ⟨1080863910568928559, 11, [], ⟨[.und, .und, .und, .und, .con (.slice none 0 0), .int .i64 (.N 0), .und, .und, .var 1, .und, .und, .und, .und, .und, .und, .und, .und, .und, .und, .und, .und, .und, .und, .und, .und, .und, .und, .und, .und, .und, .und, .und, .und, .und, .und, .und, .und, .und, .und, .und, .und, .und, .und, .und, .und, .und, .und, .und, .und, .und, .und, .und, .und, .und, .und, .und, .var 3, .int .i64 (.len (.take (.V 9) (.wr .i64 (.sub (.V 0) (.V 10))))), .int .i64 (.V 12), .und, .und, .und, .und, .und, .und, .und, .und, .und, .und, .und], [.fix [.int .i64 (.V 0)] true, .fix [.var 0] true, .fix [.int .i64 (.V 3)] true, .rows [.int .i64] (.V 11) 1, .rows [.int .i64] (.take (.V 9) (.wr .i64 (.sub (.V 0) (.V 10)))) 3], 13, 4, [none, none, none, none, none, none, none, some (0, 4611686018427387904), some (20, 4611686018427387904), none, none, none, none], [], [⟨0, [.int .i64], (.V 1)⟩]⟩⟩]
def baSplit_K : Con := ⟨65, [.val false [.int .i64], .val false [.sl [.int .i64]]], [.val false [.sl [.int .i64]], .val false [.int .i64]], []⟩
def baSplit_T : T (List X) :=
  (.call 107 [(.V 0), (.V 1)] 1
  (.ite (.eq (.V 2) (.N 0))
   (.loop [(.N 0), (.N 0)]
    (.ite (.lt (.V 4) (.len (.V 1)))
     (.need (.and (.not (.lt (.V 4) (.N 0))) (.lt (.V 4) (.len (.V 1))))
      (.ret (true, [(.wr .i64 (.add (.V 3) (.at (.V 1) (.V 4) 0))), (.wr .i64 (.add (.V 4) (.N 1)))])))
     (.ret (false, [(.V 3)]))) 1
    (.need (.and (.not (.lt (.len (.V 1)) (.len (.V 1)))) (.not (.lt (.N 17592186044416) (.len (.V 1)))))
     (.loop [(.rep (.len (.V 1)) [(.N 0)]), (.rep (.len (.V 1)) [(.N 0)]), (.N 0)]
      (.ite (.lt (.V 6) (.len (.V 1)))
       (.need (.and (.not (.lt (.V 6) (.N 0))) (.lt (.V 6) (.len (.V 1))))
        (.need (.not (.eq (.V 3) (.N 0)))
         (.need (.and (.not (.lt (.V 6) (.N 0))) (.lt (.V 6) (.len (.V 4))))
          (.need (.and (.not (.lt (.V 6) (.N 0))) (.lt (.V 6) (.len (.V 5))))
           (.ret (true, [(.put (.V 4) (.V 6) 0 (.wr .i64 (.quo (.wr .i64 (.mul (.V 0) (.at (.V 1) (.V 6) 0))) (.V 3)))), (.put (.V 5) (.V 6) 0 (.V 6)), (.wr .i64 (.add (.V 6) (.N 1)))]))))))
       (.ret (false, [(.V 4), (.V 5)]))) 2
      (.loop [(.V 5), (.N 0), (.N 20)]
       (.ite (.lt (.len (.V 5)) (.V 8))
        (.ret (false, [(.V 6), (.V 7), (.V 8)]))
        (.fail 135)) 3
       (.loop [(.V 6), (.add (.V 7) (.N 1))]
        (.ite (.lt (.V 10) (.len (.V 5)))
         (.loop [(.V 9), (.V 10)]
          (.sub (.ite (.lt (.V 7) (.V 12))
            (.need (.and (.not (.lt (.V 12) (.N 0))) (.lt (.V 12) (.len (.V 11))))
             (.need (.and (.not (.lt (.wr .i64 (.sub (.V 12) (.N 1))) (.N 0))) (.lt (.wr .i64 (.sub (.V 12) (.N 1))) (.len (.V 11))))
              (.need (.and (.not (.lt (.at (.V 11) (.wr .i64 (.sub (.V 12) (.N 1))) 0) (.N 0))) (.lt (.at (.V 11) (.wr .i64 (.sub (.V 12) (.N 1))) 0) (.len (.V 1))))
               (.need (.not (.eq (.V 3) (.N 0)))
                (.need (.and (.not (.lt (.at (.V 11) (.V 12) 0) (.N 0))) (.lt (.at (.V 11) (.V 12) 0) (.len (.V 1))))
                 (.sub (.ite (.lt (.rem (.wr .i64 (.mul (.V 0) (.at (.V 1) (.at (.V 11) (.wr .i64 (.sub (.V 12) (.N 1))) 0) 0))) (.V 3)) (.rem (.wr .i64 (.mul (.V 0) (.at (.V 1) (.at (.V 11) (.V 12) 0) 0))) (.V 3)))
                   (.ret [(.N (-1))])
                   (.ite (.lt (.rem (.wr .i64 (.mul (.V 0) (.at (.V 1) (.at (.V 11) (.V 12) 0) 0))) (.V 3)) (.rem (.wr .i64 (.mul (.V 0) (.at (.V 1) (.at (.V 11) (.wr .i64 (.sub (.V 12) (.N 1))) 0) 0))) (.V 3)))
                    (.ret [(.N 1)])
                    (.ret [(.N 0)]))) 1
                  (.ret [(.lt (.V 13) (.N 0))])))))))
            (.ret [(.B false)])) 1
           (.ite (.V 13)
            (.need (.and (.not (.lt (.wr .i64 (.sub (.V 12) (.N 1))) (.N 0))) (.lt (.wr .i64 (.sub (.V 12) (.N 1))) (.len (.V 11))))
             (.need (.and (.not (.lt (.V 12) (.N 0))) (.lt (.V 12) (.len (.V 11))))
              (.ret (true, [(.put (.put (.V 11) (.V 12) 0 (.at (.V 11) (.wr .i64 (.sub (.V 12) (.N 1))) 0)) (.wr .i64 (.sub (.V 12) (.N 1))) 0 (.at (.V 11) (.V 12) 0)), (.wr .i64 (.sub (.V 12) (.N 1)))]))))
            (.ret (false, [(.V 11), (.V 12), (.V 12), (.lt (.V 7) (.V 12)), (.lt (.V 7) (.V 12)), (.V 13)])))) 6
          (.ret (true, [(.V 11), (.wr .i64 (.add (.V 10) (.N 1)))])))
         (.ret (false, [(.V 9)]))) 1
        (.loop []
         (.ite (.lt (.N 20) (.len (.V 5)))
          (.loop []
           (.ite (.lt (.len (.V 5)) (.N 40))
            (.ret (false, []))
            (.fail 87)) 0
           (.fail 87))
          (.ret (false, []))) 0
         (.loop [(.N 0), (.N 0)]
          (.ite (.lt (.V 11) (.len (.V 4)))
           (.need (.and (.not (.lt (.V 11) (.N 0))) (.lt (.V 11) (.len (.V 4))))
            (.ret (true, [(.wr .i64 (.add (.V 10) (.at (.V 4) (.V 11) 0))), (.wr .i64 (.add (.V 11) (.N 1)))])))
           (.ret (false, [(.V 10)]))) 1
          (.need (.and (.not (.lt (.wr .i64 (.sub (.V 0) (.V 10))) (.N 0))) (.not (.lt (.len (.V 9)) (.wr .i64 (.sub (.V 0) (.V 10))))))
           (.loop [(.V 4), (.N 0)]
            (.ite (.lt (.V 12) (.len (.take (.V 9) (.wr .i64 (.sub (.V 0) (.V 10))))))
             (.need (.and (.not (.lt (.V 12) (.N 0))) (.lt (.V 12) (.len (.take (.V 9) (.wr .i64 (.sub (.V 0) (.V 10)))))))
              (.need (.and (.not (.lt (.at (.take (.V 9) (.wr .i64 (.sub (.V 0) (.V 10)))) (.V 12) 0) (.N 0))) (.lt (.at (.take (.V 9) (.wr .i64 (.sub (.V 0) (.V 10)))) (.V 12) 0) (.len (.V 11))))
               (.ret (true, [(.put (.V 11) (.at (.take (.V 9) (.wr .i64 (.sub (.V 0) (.V 10)))) (.V 12) 0) 0 (.wr .i64 (.add (.at (.V 11) (.at (.take (.V 9) (.wr .i64 (.sub (.V 0) (.V 10)))) (.V 12) 0) 0) (.N 1)))), (.wr .i64 (.add (.V 12) (.N 1)))]))))
             (.ret (false, [(.V 11)]))) 1
            (.ret [(.V 11), (.N 0)]))))))))))
   (.ret [(.rows []), (.V 2)])))
set_option maxRecDepth 100000 in
theorem baSplit_t : runS Try.prog [baChk_K.to [], symM_K.to []] [(65, baSplit_H), (108, baSplit_H), (109, baSplit_H), (122, baSplit_H), (127, baSplit_H)] baSplit_K = baSplit_T := by kernel_rfl
def baRat_H : List Hint := [
  ⟨262045, 5, [.t [.int .i64] 3], ⟨[.ptr 0 0, .und, .con (.slice none 0 0), .var 3, .int .i64 (.V 8), .und, .und, .und, .und, .und, .und, .und, .und, .und, .und, .und, .und, .und], [.fix [.var 4, .int .i64 (.V 7)] true, .rows [.int .i64] (.V 5) 3], 9, 5, [none, none, none, none, none, none, none, none, none], [], [⟨0, [.int .i64], (.V 0)⟩, ⟨1, [.int .i64], (.V 3)⟩, ⟨4, [.int .i64], (.V 6)⟩]⟩⟩]
def baRat_K : Con := ⟨63, [.ptr [.sl [.int .i64], .int .i64]], [.val false [.sl [.int .i64]]], []⟩
def baRat_T : T (List X) :=
  (.call 26 [(.V 0), (.V 1), (.N 6)] 3
  (.loop [(.rows []), (.V 3), (.V 4), (.V 2)]
   (.ite (.lt (.N 0) (.V 8))
    (.call 26 [(.V 6), (.V 7), (.N 5)] 3
     (.need (.and (.not (.lt (.V 9) (.N 0))) (.lt (.V 9) (.N 5)))
      (.need (.not (.lt (.N 17592186044416) (.add (.len (.V 5)) (.N 1))))
       (.ret (true, [(.app (.V 5) (.rows [[(.at (.rows [[(.N 1)], [(.N 3)], [(.N 10)], [(.N 50)], [(.N 100)]]) (.V 9) 0)]])), (.V 10), (.V 11), (.wr .i64 (.sub (.V 8) (.N 1)))])))))
    (.ret (false, [(.V 5), (.V 6), (.V 7)]))) 3
   (.ret [(.V 5), (.V 6), (.V 7)])))
set_option maxRecDepth 100000 in
theorem baRat_t : runS Try.prog [srcN_K.to []] [(63, baRat_H)] baRat_K = baRat_T := by kernel_rfl
def baInts_H : List Hint := [
  ⟨67104819, 2, [], ⟨[.var 0, .var 1, .und, .und, .bool (.B false), .und, .und, .und, .und, .und, .und, .und, .int .i64 (.len (.V 0)), .int .i64 (.V 2), .und, .und, .und, .und, .und, .und, .und, .und, .und, .und, .und, .und], [], 3, 2, [none, none, none], [], [⟨0, [.int .i64], (.V 0)⟩, ⟨1, [.int .i64], (.V 1)⟩]⟩⟩]
def baInts_K : Con := ⟨25, [.val false [.sl [.int .i64]], .val false [.sl [.int .i64]]], [.val false [.bool]], []⟩
def baInts_T : T (List X) :=
  (.ite (.eq (.len (.V 0)) (.len (.V 1)))
  (.loop [(.N 0)]
   (.ite (.lt (.V 2) (.len (.V 0)))
    (.need (.and (.not (.lt (.V 2) (.N 0))) (.lt (.V 2) (.len (.V 0))))
     (.need (.and (.not (.lt (.V 2) (.N 0))) (.lt (.V 2) (.len (.V 1))))
      (.ite (.eq (.at (.V 0) (.V 2) 0) (.at (.V 1) (.V 2) 0))
       (.ret (true, [(.wr .i64 (.add (.V 2) (.N 1)))]))
       (.ret (false, [(.N 0)])))))
    (.ret (false, [(.N 1)]))) 1
   (.ite (.eq (.V 2) (.N 0))
    (.ret [(.B false)])
    (.ret [(.B true)])))
  (.ret [(.B false)]))
set_option maxRecDepth 100000 in
theorem baInts_t : runS Try.prog [] [(25, baInts_H)] baInts_K = baInts_T := by kernel_rfl
def sane17_K : Con := ⟨64, [], [.val false [.bool]], []⟩
def sane17_T : T (List X) :=
  (.call 65 [(.N 10), (.rows [[(.N 2)], [(.N 2)], [(.N 2)]])] 2
  (.sub (.ite (.eq (.V 1) (.N 0))
    (.call 25 [(.V 0), (.rows [[(.N 4)], [(.N 3)], [(.N 3)]])] 1
     (.ite (.V 2)
      (.call 66 [(.N 10), (.rows [[(.N 2)], [(.N 2)], [(.N 2)]]), (.V 0)] 1
       (.ret [(.V 3)]))
      (.ret [(.B false)])))
    (.ret [(.B false)])) 1
   (.ret [(.V 2)])))
set_option maxRecDepth 100000 in
theorem sane17_t : runS Try.prog [baSplit_K.to [], baCheck_K.to [], baInts_K.to []] [] sane17_K = sane17_T := by kernel_rfl
end Go.Proofs.Ytlhnhidoljfnnaa
