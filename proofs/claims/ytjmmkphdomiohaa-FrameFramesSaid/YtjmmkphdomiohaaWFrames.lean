/- The walk of FrameFrames. -/
import Derived.Test.YtjmmkphdomiohaaFrSane
namespace Go.Proofs.Ytjmmkphdomiohaa
open Go.RowKit
namespace Fr
theorem half_ten {n : Int} (h0 : -1000000000000 ≤ n) (h1 : n ≤ 1000000000000) : Ar.half n 10000 = (2 * n + 10000) / 20000 := by
  have hb := Ar.good (n := n) (d := 10000) ⟨by omega, by omega, by omega, by omega⟩
  rw [Ar.half, if_neg hb]; rfl
theorem frames_facts {a b c d : Int} (ha : -900 ≤ a ∧ a ≤ 900) (hb : -900 ≤ b ∧ b ≤ 900) (hc : -900 ≤ c ∧ c ≤ 900) (hd : -900 ≤ d ∧ d ≤ 900) :
    turnx a b 0 = a ∧ turny a b 0 = b ∧ err (Ok a ∧ Ok b) = 0 ∧ turnx a b (-An.norm 900) = b ∧ turny a b (-An.norm 900) = -a ∧
    (if Sum a b c d then a + c else 0) = a + c ∧ (if Sum a b c d then b + d else 0) = b + d ∧ err (Sum a b c d) = 0 ∧
    (if Dif (a + c) (b + d) c d then a + c - c else 0) = a ∧ (if Dif (a + c) (b + d) c d then b + d - d else 0) = b ∧ err (Dif (a + c) (b + d) c d) = 0 := by
  have k : Ok a ∧ Ok b := by unfold Ok; omega
  have s : Sum a b c d := by unfold Sum Four Ok; omega
  have f : Dif (a + c) (b + d) c d := by unfold Dif Four Ok; omega
  have c0 : An.cos 0 = 10000 := by decide
  have s0 : An.sin 0 = 0 := by decide
  have c9 : An.cos (-An.norm 900) = 0 := by decide
  have s9 : An.sin (-An.norm 900) = -10000 := by decide
  refine ⟨?_, ?_, by unfold err; rw [if_pos k], ?_, ?_, by rw [if_pos s], by rw [if_pos s], by unfold err; rw [if_pos s], by rw [if_pos f]; omega, by rw [if_pos f]; omega, by unfold err; rw [if_pos f]⟩
  · rw [turnx, if_pos k, c0, s0, half_ten (by omega) (by omega)]; omega
  · rw [turny, if_pos k, c0, s0, half_ten (by omega) (by omega)]; omega
  · rw [turnx, if_pos k, c9, s9, half_ten (by omega) (by omega)]; omega
  · rw [turny, if_pos k, c9, s9, half_ten (by omega) (by omega)]; omega
end Fr
theorem cellG {a w : World} {b g i : Nat} {v : Value} (h : a.grownBy w (some b)) (hne : g ≠ b) (hc : a.cell? ⟨g, i, none⟩ = some v) : w.cell? ⟨g, i, none⟩ = some v := by
  rw [World.cell?_of_block (grown_blk h (World.block_lt_of_cell? a _ hc) hne)]; exact hc
set_option maxHeartbeats 1000000 in
set_option maxRecDepth 100000 in
theorem FrameFrames_walk (w : World) (l : Value) (ts : List Int) (hl : IntsIn w w.heap.size l .i64 ts) (hts : ∀ z ∈ ts, (Lit.int .i64 z).wf = true) :
    Calls Try.prog 13 #[l] w fun e w' => e = .returned (.bool true) ∧ Below w.heap.size w w' := by
  go_enter Try.func13, Try.ntmps13
  go_wp2_with (fail)
  refine (srcNew_calls _ ts _ hl hts).mono ?_
  rintro e w1 ⟨rfl, hs1, hb1⟩
  clear hl hts
  go_wp2_with (fail)
  refine (srcRange_calls _ _ _ _ hs1 (by omega) (by omega) (by omega)).mono ?_
  rintro e w2 ⟨a, rfl, ha, hs2, hg2⟩
  go_wp2_with (fail)
  refine (srcRange_calls _ _ _ _ hs2 (by omega) (by omega) (by omega)).mono ?_
  rintro e w3 ⟨b, rfl, hb, hs3, hg3⟩
  have hb3 : Below w.heap.size w w3 := below_grownBy hb1 (grownBy_trans hg2 hg3) (Nat.le_refl _) hb1.size
  have lt3 := hs3.lt
  have hs4 := hs3.alloc (Obj.cells #[Value.int IntKind.i64 a, Value.int IntKind.i64 b] 51)
  have hb4 := hb3.alloc hb3.size (Obj.cells #[Value.int IntKind.i64 a, Value.int IntKind.i64 b] 51)
  go_wp2_with (fail)
  refine (srcRange_calls _ _ _ _ hs4 (by omega) (by omega) (by omega)).mono ?_
  rintro e w5 ⟨c, rfl, hc, hs5, hg5⟩
  have s0 : w5.cell? ⟨w3.heap.size, 0, none⟩ = some (.int .i64 a) := cellG hg5 (by omega) (by simp)
  have s1 : w5.cell? ⟨w3.heap.size, 1, none⟩ = some (.int .i64 b) := cellG hg5 (by omega) (by simp)
  have sB : Below w.heap.size w w5 := below_grownBy hb4 hg5 (Nat.le_refl _) hb4.size
  go_wp2_with (fail)
  refine (srcRange_calls _ _ _ _ hs5 (by omega) (by omega) (by omega)).mono ?_
  rintro e w6 ⟨d, rfl, hd, hs6, hg6⟩
  replace s0 := cellG hg6 (by omega) s0
  replace s1 := cellG hg6 (by omega) s1
  replace sB := below_grownBy sB hg6 (Nat.le_refl _) sB.size
  clear hs1 hs2 hs3 hs4 hs5 hs6 hg2 hg3 hg5 hg6 hb1 hb3 hb4 lt3
  generalize w3.heap.size = n at *
  obtain ⟨f1, f2, f3, f4, f5, f6, f7, f8, f9, f10, f11⟩ := Fr.frames_facts ha hb hc hd
  have F1 := Lib.hid f1
  have F2 := Lib.hid f2
  have F3 := Lib.hid f3
  have F4 := Lib.hid f4
  have F5 := Lib.hid f5
  have F6 := Lib.hid f6
  have F7 := Lib.hid f7
  have F8 := Lib.hid f8
  have F9 := Lib.hid f9
  have F10 := Lib.hid f10
  have F11 := Lib.hid f11
  clear f1 f2 f3 f4 f5 f6 f7 f8 f9 f10 f11
  obtain ⟨a0, a1⟩ := ha
  obtain ⟨b0, b1⟩ := hb
  obtain ⟨c0, c1⟩ := hc
  obtain ⟨d0, d1⟩ := hd
  have lt_s0 := World.block_lt_of_cell? _ _ s0
  have lt_s1 := World.block_lt_of_cell? _ _ s1
  go_wp2_with (fail)
  refine (earth_eq _ _ _ a b 0 _ F1.out F2.out F3.out).mono ?_
  rintro e w7 ⟨rfl, hb⟩
  replace s0 := cellB hb (cellA s0)
  replace s1 := cellB hb (cellA s1)
  replace sB := below_step (sB.alloc sB.size _) hb
  clear lt_s0 lt_s1
  have s2 : w7.cell? ⟨w6.heap.size, 0, none⟩ = some (.int .i64 c) := cellB hb (by simp)
  have s3 : w7.cell? ⟨w6.heap.size, 1, none⟩ = some (.int .i64 d) := cellB hb (by simp)
  clear hb
  generalize w6.heap.size = n1 at *
  go_wp2_with (fail)
  refine (body_eq _ _ _ b (-a) 0 _ F4.out F5.out F3.out).mono ?_
  rintro e w8 ⟨rfl, hb⟩
  replace s0 := cellB hb s0
  replace s1 := cellB hb s1
  replace s2 := cellB hb s2
  replace s3 := cellB hb s3
  replace sB := below_step sB hb
  clear hb
  go_wp2_with (fail)
  refine (add_eq _ _ _ _ (a + c) (b + d) 0 _ F6.out F7.out F8.out).mono ?_
  rintro e w9 ⟨rfl, hb⟩
  replace s0 := cellB hb s0
  replace s1 := cellB hb s1
  replace s2 := cellB hb s2
  replace s3 := cellB hb s3
  replace sB := below_step sB hb
  clear hb
  have lt_s0 := World.block_lt_of_cell? _ _ s0
  have lt_s1 := World.block_lt_of_cell? _ _ s1
  have lt_s2 := World.block_lt_of_cell? _ _ s2
  have lt_s3 := World.block_lt_of_cell? _ _ s3
  go_wp2_with (fail)
  refine (sub_eq _ _ _ _ a b 0 _ F9.out F10.out F11.out).mono ?_
  rintro e w10 ⟨rfl, hb⟩
  replace s0 := cellB hb (cellA s0)
  replace s1 := cellB hb (cellA s1)
  replace s2 := cellB hb (cellA s2)
  replace s3 := cellB hb (cellA s3)
  replace sB := below_step (sB.alloc sB.size _) hb
  clear lt_s0 lt_s1 lt_s2 lt_s3
  clear hb
  have lt0 := World.block_lt_of_cell? _ _ s0
  have lt2 := World.block_lt_of_cell? _ _ s2
  go_wp2_with (go_at_call 42; refine (sane03 _).mono ?_; rintro e wz ⟨rfl, hb⟩)
  all_goals first | (go_ret; exact ⟨rfl, below_step (sB.alloc sB.size _) hb⟩) | (exfalso; omega) | (go_ways; trace_state; sorry)
end Go.Proofs.Ytjmmkphdomiohaa
