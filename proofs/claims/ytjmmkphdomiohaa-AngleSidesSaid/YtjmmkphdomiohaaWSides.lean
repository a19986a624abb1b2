/- The walk of AngleSides. -/
import Derived.Test.YtjmmkphdomiohaaAnSane
import Derived.Test.YtjmmkphdomiohaaSrArc
namespace Go.Proofs.Ytjmmkphdomiohaa
open Go.RowKit
namespace An
theorem fits16 {x : Int} (h0 : -32768 ≤ x) (h1 : x ≤ 32767) : Fits x ∧ Fits (-x) ∧ Fits (2 * x) := by unfold Fits; omega
theorem cross_fit {g x y : Int} (hx : Fits x) (hy : Fits y) : cross g x y = cos g * y - sin g * x := by rw [cross, if_pos ⟨hx, hy⟩]
theorem sides_facts (a x y f t : Int) (x0 : -32768 ≤ x) (x1 : x ≤ 32767) (y0 : -32768 ≤ y) (y1 : y ≤ 32767) : ∃ (p q : Int) (b : Bool), norm a = p ∧ 0 ≤ p ∧ p < 3600 ∧ cross p x y = q ∧ cross p (-x) (-y) = -q ∧ cross (p + 1800) x y = -q ∧
    -20000000000000 ≤ q ∧ q ≤ 20000000000000 ∧ within f t x y = b ∧ (b = true → within f t (-x) (-y) = false) ∧ within f t 0 0 = false ∧ (b = true → within f t (2 * x) (2 * y) = true) := by
  obtain ⟨fx, fnx, f2x⟩ := fits16 x0 x1
  obtain ⟨fy, fny, f2y⟩ := fits16 y0 y1
  have e := at_each a
  simp only [each, Bool.and_eq_true, beq_iff_eq] at e
  have r := cross_range (norm a) x y
  refine ⟨_, _, _, rfl, (norm_range a).1, (norm_range a).2, rfl, ?_, ?_, r.1, r.2, rfl, ?_, ?_, ?_⟩
  · rw [cross_fit fnx fny, cross_fit fx fy, Int.mul_neg, Int.mul_neg]; omega
  · rw [cross_fit fx fy, cross_fit fx fy, e.1.1.1.1.1.1.1, e.1.1.1.1.1.1.2, Int.neg_mul, Int.neg_mul]; omega
  · intro h
    simp only [within, decide_eq_true_eq] at h
    simp only [within, decide_eq_false_iff_not]
    rintro ⟨-, -, -, -, k1, k2, k3⟩
    obtain ⟨-, -, -, -, h1, h2, h3⟩ := h
    rw [cross_fit fx fy] at h1 h2 h3
    rw [cross_fit fnx fny, Int.mul_neg, Int.mul_neg] at k1 k2 k3
    unfold dot at h3 k3
    rw [Int.mul_neg, Int.mul_neg] at k3
    generalize cos f * y = A at *
    generalize sin f * x = B at *
    generalize cos f * x = C at *
    generalize sin f * y = D at *
    omega
  · simp only [within, decide_eq_false_iff_not]
    rintro ⟨-, k, -⟩
    exact k ⟨trivial, trivial⟩
  · intro h
    simp only [within, decide_eq_true_eq] at h ⊢
    obtain ⟨h0, hz, -, -, h1, h2, h3⟩ := h
    refine ⟨h0, by omega, f2x, f2y, ?_⟩
    rw [cross_fit fx fy] at h1 h2 h3
    rw [cross_fit f2x f2y, cross_fit f2x f2y]
    unfold dot at h3 ⊢
    have m : ∀ c z : Int, c * (2 * z) = 2 * (c * z) := fun c z => Int.mul_left_comm c 2 z
    rw [m, m, m, m, m, m] <;> skip
    generalize cos f * y = A at *
    generalize sin f * x = B at *
    generalize cos f * x = C at *
    generalize sin f * y = D at *
    generalize cos t * y = E at *
    generalize sin t * x = F at *
    omega
end An
set_option maxHeartbeats 1000000 in
set_option maxRecDepth 100000 in
theorem AngleSides_walk (w : World) (l : Value) (ts : List Int) (hl : IntsIn w w.heap.size l .i64 ts) (hts : ∀ z ∈ ts, (Lit.int .i64 z).wf = true) (a : Int) (_ : (Lit.int .i64 a).wf = true)
    (x : Int) (wx : (Lit.int .i16 x).wf = true) (y : Int) (wy : (Lit.int .i16 y).wf = true) :
    Calls Try.prog 4 #[l, .int .i64 a, .int .i16 x, .int .i16 y] w fun e w' => e = .returned (.bool true) ∧ Below w.heap.size w w' := by
  have e3 : IntKind.i16.min = -32768 := rfl
  have e4 : IntKind.i16.max = 32767 := rfl
  simp only [Lit.wf, e3, e4, Bool.and_eq_true, decide_eq_true_eq] at wx wy
  clear e3 e4
  obtain ⟨x0, x1⟩ := wx
  obtain ⟨y0, y1⟩ := wy
  have M : Hid (∀ f t : Int, _) := Lib.hid (fun f t => An.sides_facts a x y f t x0 x1 y0 y1)
  go_enter Try.func4, Try.ntmps4
  go_wp2_with (fail)
  refine (srcNew_calls _ ts _ hl hts).mono ?_
  rintro e w1 ⟨rfl, hs1, hb1⟩
  clear hl hts
  go_wp2_with (fail)
  refine (norm_eq _ (An.norm a) _ rfl).mono ?_
  rintro e w' ⟨rfl, rfl⟩
  go_wp2_with (fail)
  refine (srcArc_calls _ _ hs1).mono ?_
  rintro e w2 ⟨f, d, hf, hd, rfl, hs2, hg2⟩
  have hb2 : Below w.heap.size w w2 := below_grownBy hb1 hg2 (Nat.le_refl _) hb1.size
  clear hf hd hs1 hs2 hg2 hb1
  generalize (f + d) % 3600 = t
  obtain ⟨p, q, b, f1, g1, g2, f2, f3, f4, g3, g4, f5, f6, f7, f8⟩ := M.out f t
  rw [f1]
  clear M f1
  have F2 := Lib.hid f2
  have F3 := Lib.hid f3
  have F4 := Lib.hid f4
  have F5 := Lib.hid f5
  have F6 := Lib.hid f6
  have F7 := Lib.hid f7
  have F8 := Lib.hid f8
  clear f2 f3 f4 f5 f6 f7 f8
  go_wp2_with (fail)
  obtain ⟨W, hW, s0, s1, sB⟩ : ∃ W, w2.alloc (Obj.cells #[Value.int IntKind.i64 f, Value.int IntKind.i64 t] 32) = W ∧ W.cell? ⟨w2.heap.size, 0, none⟩ = some (.int .i64 f) ∧ W.cell? ⟨w2.heap.size, 1, none⟩ = some (.int .i64 t) ∧ Below w.heap.size w W :=
    ⟨_, rfl, by simp, by simp, hb2.alloc hb2.size _⟩
  rw [hW]
  clear hW hb2
  generalize w2.heap.size = g at *
  refine (cross_eq _ _ _ q _ F2.out).mono ?_
  rintro e wn ⟨rfl, hb⟩
  replace s0 := cellB hb s0
  replace s1 := cellB hb s1
  replace sB := below_step sB hb
  clear hb
  go_wp2_with (fail)
  refine (cross_eq _ _ _ (-q) _ F3.out).mono ?_
  rintro e wn ⟨rfl, hb⟩
  replace s0 := cellB hb s0
  replace s1 := cellB hb s1
  replace sB := below_step sB hb
  clear hb
  go_wp2_with (fail)
  refine (cross_eq _ _ _ (-q) _ F4.out).mono ?_
  rintro e wn ⟨rfl, hb⟩
  replace s0 := cellB hb s0
  replace s1 := cellB hb s1
  replace sB := below_step sB hb
  clear hb
  go_wp2_with (fail)
  refine (cross_eq _ _ _ q _ F2.out).mono ?_
  rintro e wn ⟨rfl, hb⟩
  replace s0 := cellB hb s0
  replace s1 := cellB hb s1
  replace sB := below_step sB hb
  clear hb
  cases b
  · clear F6 F8
    go_wp2_with (fail)
    refine (within_eq _ _ _ _ false _ F5.out).mono ?_
    rintro e wn ⟨rfl, hb⟩
    replace s0 := cellB hb s0
    replace s1 := cellB hb s1
    replace sB := below_step sB hb
    clear hb
    go_wp2_with (fail)
    refine (within_eq _ _ _ _ false _ F7.out).mono ?_
    rintro e wn ⟨rfl, hb⟩
    replace s0 := cellB hb s0
    replace s1 := cellB hb s1
    replace sB := below_step sB hb
    clear hb
    go_wp2_with (fail)
    refine (within_eq _ _ _ _ false _ F5.out).mono ?_
    rintro e wn ⟨rfl, hb⟩
    replace s0 := cellB hb s0
    replace s1 := cellB hb s1
    replace sB := below_step sB hb
    clear hb
    go_wp2_with (fail)
    refine (sane02 _).mono ?_
    rintro e wz ⟨rfl, hb⟩
    go_wp2_with (fail)
    go_ret
    exact ⟨rfl, below_step sB hb⟩
  · have G6 := Lib.hid (F6.out rfl)
    have G8 := Lib.hid (F8.out rfl)
    clear F6 F8
    go_wp2_with (fail)
    refine (within_eq _ _ _ _ true _ F5.out).mono ?_
    rintro e wn ⟨rfl, hb⟩
    replace s0 := cellB hb s0
    replace s1 := cellB hb s1
    replace sB := below_step sB hb
    clear hb
    go_wp2_with (fail)
    refine (within_eq _ _ _ _ false _ G6.out).mono ?_
    rintro e wn ⟨rfl, hb⟩
    replace s0 := cellB hb s0
    replace s1 := cellB hb s1
    replace sB := below_step sB hb
    clear hb
    go_wp2_with (fail)
    refine (within_eq _ _ _ _ false _ F7.out).mono ?_
    rintro e wn ⟨rfl, hb⟩
    replace s0 := cellB hb s0
    replace s1 := cellB hb s1
    replace sB := below_step sB hb
    clear hb
    go_wp2_with (fail)
    refine (within_eq _ _ _ _ true _ F5.out).mono ?_
    rintro e wn ⟨rfl, hb⟩
    replace s0 := cellB hb s0
    replace s1 := cellB hb s1
    replace sB := below_step sB hb
    clear hb
    go_wp2_with (fail)
    refine (within_eq _ _ _ _ true _ G8.out).mono ?_
    rintro e wn ⟨rfl, hb⟩
    replace s0 := cellB hb s0
    replace s1 := cellB hb s1
    replace sB := below_step sB hb
    clear hb
    go_wp2_with (fail)
    refine (sane02 _).mono ?_
    rintro e wz ⟨rfl, hb⟩
    go_wp2_with (fail)
    go_ret
    exact ⟨rfl, below_step sB hb⟩
end Go.Proofs.Ytjmmkphdomiohaa
