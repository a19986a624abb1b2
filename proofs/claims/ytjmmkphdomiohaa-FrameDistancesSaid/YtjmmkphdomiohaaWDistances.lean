/- The walk of FrameDistances. -/
import Derived.Test.YtjmmkphdomiohaaFrDist
namespace Go.Proofs.Ytjmmkphdomiohaa
open Go.RowKit
set_option maxHeartbeats 1000000 in
set_option maxRecDepth 100000 in
theorem FrameDistances_walk (w : World) (l : Value) (ts : List Int) (hl : IntsIn w w.heap.size l .i64 ts) (hts : ∀ z ∈ ts, (Lit.int .i64 z).wf = true) :
    Calls Try.prog 11 #[l] w fun e w' => e = .returned (.bool true) ∧ Below w.heap.size w w' := by
  go_enter Try.func11, Try.ntmps11
  go_wp2_with (fail)
  refine (srcNew_calls _ ts _ hl hts).mono ?_
  rintro e w1 ⟨rfl, hs1, hb1⟩
  clear hl hts
  go_wp2_with (fail)
  refine (srcPoint_calls _ _ hs1).mono ?_
  rintro e w2 ⟨a, b, ha, hb, rfl, hs2, hg2⟩
  go_wp2_with (fail)
  refine (srcPoint_calls _ _ hs2).mono ?_
  rintro e w3 ⟨c, d, hc, hd, rfl, hs3, hg3⟩
  go_wp2_with (fail)
  refine (srcPoint_calls _ _ hs3).mono ?_
  rintro e w4 ⟨g, h, hg, hh, rfl, hs4, hg4⟩
  have hb4 : Below w.heap.size w w4 := below_grownBy hb1 (grownBy_trans hg2 (grownBy_trans hg3 hg4)) (Nat.le_refl _) hb1.size
  obtain ⟨r, s, t, m, f1, f2, f3, f4, f5, f6, f7, f8, f9, f10, f11, r0, s0, t0, m0, r1, s1, m1, q1, q2, q3, q4⟩ := Fr.dist_facts ha hb hc hd hg hh
  have F1 := Lib.hid f1
  have F2 := Lib.hid f2
  have F3 := Lib.hid f3
  have F4 := Lib.hid f4
  have F5 := Lib.hid f5
  have F6 := Lib.hid f6
  have F7 := Lib.hid f7
  have F8 := Lib.hid f8
  have F9 := Lib.hid f9
  have F10 := Lib.hid f10
  have F11 := Lib.hid f11
  clear f1 f2 f3 f4 f5 f6 f7 f8 f9 f10 f11 ha hb hc hd hg hh hs1 hs2 hs3 hs4 hg2 hg3 hg4 hb1
  have X : (r == (0 : Int)) = decide (a = c ∧ b = d) := by rw [Bool.eq_iff_iff]; simp; omega
  clear q4
  go_wp2_with (fail)
  obtain ⟨W, hW, s0, s1, s2, s3, s4, s5, sB⟩ : ∃ W, ((w4.alloc (Obj.cells #[Value.int IntKind.i64 a, Value.int IntKind.i64 b] 51)).alloc (Obj.cells #[Value.int IntKind.i64 c, Value.int IntKind.i64 d] 51)).alloc (Obj.cells #[Value.int IntKind.i64 g, Value.int IntKind.i64 h] 51) = W ∧
      W.cell? ⟨w4.heap.size, 0, none⟩ = some (.int .i64 a) ∧ W.cell? ⟨w4.heap.size, 1, none⟩ = some (.int .i64 b) ∧ W.cell? ⟨w4.heap.size + 1, 0, none⟩ = some (.int .i64 c) ∧ W.cell? ⟨w4.heap.size + 1, 1, none⟩ = some (.int .i64 d) ∧
      W.cell? ⟨w4.heap.size + 1 + 1, 0, none⟩ = some (.int .i64 g) ∧ W.cell? ⟨w4.heap.size + 1 + 1, 1, none⟩ = some (.int .i64 h) ∧ Below w.heap.size w W :=
    ⟨_, rfl, by go_simp, by go_simp, by go_simp, by go_simp, by go_simp, by go_simp, by
      have := hb4.size
      exact ((hb4.alloc hb4.size _).alloc (by simp; omega) _).alloc (by simp; omega) _⟩
  rw [hW]
  clear hW hb4
  generalize w4.heap.size = n at *
  refine (dist_eq _ _ _ _ r 0 _ F1.out F7.out).mono ?_
  rintro e w5 ⟨rfl, hb⟩
  replace s0 := cellB hb s0
  replace s1 := cellB hb s1
  replace s2 := cellB hb s2
  replace s3 := cellB hb s3
  replace s4 := cellB hb s4
  replace s5 := cellB hb s5
  replace sB := below_step sB hb
  clear hb
  go_wp2_with (fail)
  refine (dist_eq _ _ _ _ r 0 _ F2.out F8.out).mono ?_
  rintro e w6 ⟨rfl, hb⟩
  replace s0 := cellB hb s0
  replace s1 := cellB hb s1
  replace s2 := cellB hb s2
  replace s3 := cellB hb s3
  replace s4 := cellB hb s4
  replace s5 := cellB hb s5
  replace sB := below_step sB hb
  clear hb
  go_wp2_with (fail)
  refine (dist_eq _ _ _ _ s 0 _ F3.out F9.out).mono ?_
  rintro e w7 ⟨rfl, hb⟩
  replace s0 := cellB hb s0
  replace s1 := cellB hb s1
  replace s2 := cellB hb s2
  replace s3 := cellB hb s3
  replace s4 := cellB hb s4
  replace s5 := cellB hb s5
  replace sB := below_step sB hb
  clear hb
  go_wp2_with (fail)
  refine (dist_eq _ _ _ _ t 0 _ F4.out F10.out).mono ?_
  rintro e w8 ⟨rfl, hb⟩
  replace s0 := cellB hb s0
  replace s1 := cellB hb s1
  replace s2 := cellB hb s2
  replace s3 := cellB hb s3
  replace s4 := cellB hb s4
  replace s5 := cellB hb s5
  replace sB := below_step sB hb
  clear hb
  go_wp2_with (fail)
  refine (box_eq _ _ _ _ m 0 _ F5.out F7.out).mono ?_
  rintro e w9 ⟨rfl, hb⟩
  replace s0 := cellB hb s0
  replace s1 := cellB hb s1
  replace s2 := cellB hb s2
  replace s3 := cellB hb s3
  replace s4 := cellB hb s4
  replace s5 := cellB hb s5
  replace sB := below_step sB hb
  clear hb
  go_wp2_with (fail)
  refine (dist_eq _ _ _ _ 0 0 _ F6.out F11.out).mono ?_
  rintro e w10 ⟨rfl, hb⟩
  replace s0 := cellB hb s0
  replace s1 := cellB hb s1
  replace s2 := cellB hb s2
  replace s3 := cellB hb s3
  replace s4 := cellB hb s4
  replace s5 := cellB hb s5
  replace sB := below_step sB hb
  clear hb
  go_wp2_with (go_at_call 42; refine (sane03 _).mono ?_; rintro e wz ⟨rfl, hb⟩)
  all_goals first | (go_ret; exact ⟨rfl, below_step sB hb⟩) | (exfalso; omega) | (go_ret; exact ⟨retb (by simp; omega), below_step sB hb⟩) | (exfalso; simp at *; omega)
end Go.Proofs.Ytjmmkphdomiohaa
