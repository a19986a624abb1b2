/- The examples of chapter 2 hold. -/
import Derived.Test.YtjmmkphdomiohaaAnIn
namespace Go.Proofs.Ytjmmkphdomiohaa
open Go.RowKit
theorem in_eq (f t a : Int) (q : Bool) (w : World) (h : An.inn f t a = q) :
    Calls Try.prog 36 #[.agg #[.int .i64 f, .int .i64 t], .int .i64 a] w fun e w' => e = .returned (.bool q) ∧ Below w.heap.size w w' := by
  subst h; exact in_calls f t a w
theorem within_eq (f t x y : Int) (q : Bool) (w : World) (h : An.within f t x y = q) :
    Calls Try.prog 23 #[.agg #[.int .i64 f, .int .i64 t], .int .i64 x, .int .i64 y] w fun e w' => e = .returned (.bool q) ∧ Below w.heap.size w w' := by
  subst h; exact within_calls f t x y w
set_option maxHeartbeats 400000 in
theorem sane02 (w : World) :
    Calls Try.prog 19 #[] w fun e w' => e = .returned (.bool true) ∧ Below w.heap.size w w' := by
  go_enter Try.func19, Try.ntmps19
  go_wp2_with (fail)
  refine (sin_eq _ 0 _ (by decide)).mono ?_
  rintro e w1 ⟨rfl, hb1⟩
  go_wp2_with (fail)
  refine (sin_eq _ 5000 _ (by decide)).mono ?_
  rintro e w2 ⟨rfl, hb2⟩
  go_wp2_with (fail)
  refine (sin_eq _ 10000 _ (by decide)).mono ?_
  rintro e w3 ⟨rfl, hb3⟩
  go_wp2_with (fail)
  refine (cos_eq _ 10000 _ (by decide)).mono ?_
  rintro e w4 ⟨rfl, hb4⟩
  go_wp2_with (fail)
  refine (diff_eq _ _ 20 _ (by decide)).mono ?_
  rintro e w' ⟨rfl, rfl⟩
  go_wp2_with (fail)
  refine (norm_eq _ 3590 _ (by decide)).mono ?_
  rintro e w' ⟨rfl, rfl⟩
  have hb := below_step hb1 (below_step hb2 (below_step hb3 hb4))
  clear hb1 hb2 hb3 hb4
  go_wp2_with (fail)
  refine (in_eq _ _ _ true _ (by decide)).mono ?_
  rintro e w5 ⟨rfl, hb5⟩
  go_wp2_with (fail)
  go_ret
  exact ⟨rfl, below_step hb hb5⟩
end Go.Proofs.Ytjmmkphdomiohaa
