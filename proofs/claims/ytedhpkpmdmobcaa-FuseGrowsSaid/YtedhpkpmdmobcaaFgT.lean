/- The tree of FuseGrows. -/
import Derived.Test.YtedhpkpmdmobcaaSane09
set_option linter.unusedVariables false
namespace Go.Proofs.Ytedhpkpmdmobcaa
open Go.RowKit Fx
def fGrows_K : Con := ⟨3, [.val false [.int .u16], .val false [.int .u8], .val false [.int .u16], .val false [.int .u16], .val false [.int .u16]], [.val false [.bool]], [some (0, 65535), some (0, 255), some (0, 65535), some (0, 65535), some (0, 65535)]⟩
def fGrows_T : T (List X) :=
  (.sub (.ite (.eq (.mn (.add (.V 0) (.mul (.V 1) (.add (.V 2) (.V 3)))) (.N 200000000)) (.mn (.add (.mn (.add (.V 0) (.mul (.V 1) (.V 2))) (.N 200000000)) (.mul (.V 1) (.V 3))) (.N 200000000)))
   (.ite (.lt (.mn (.add (.V 0) (.mul (.V 1) (.add (.V 2) (.V 3)))) (.N 200000000)) (.V 0))
    (.ret [(.B false)])
    (.ite (.lt (.mx (.N 1) (.wr .i64 (.quo (.N 1000000000) (.mul (.add (.N 1) (.V 4)) (.add (.N 1) (.V 4)))))) (.mx (.N 1) (.wr .i64 (.quo (.N 1000000000) (.mul (.add (.add (.N 1) (.V 4)) (.N 1)) (.add (.add (.N 1) (.V 4)) (.N 1)))))))
     (.ret [(.B false)])
     (.call 8 [] 1
      (.ret [(.V 5)]))))
   (.ret [(.B false)])) 1
  (.ret [(.V 5)]))
set_option maxRecDepth 100000 in
theorem fGrows_t : runS Try.prog [sane09_K.to []] [] fGrows_K = fGrows_T := by kernel_rfl
end Go.Proofs.Ytedhpkpmdmobcaa
