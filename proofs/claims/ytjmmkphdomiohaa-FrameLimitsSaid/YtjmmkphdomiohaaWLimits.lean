/- The walk of FrameLimits. -/
import Derived.Test.YtjmmkphdomiohaaFrSane
namespace Go.Proofs.Ytjmmkphdomiohaa
open Go.RowKit
namespace Fr
theorem limits_facts {a b c d g h : Int} (ha : Ok a) (hb : Ok b) (hc : Ok c) (hd : Ok d) (hg : Ok g) (hh : Ok h) :
    ∃ u v e x y z : Int, (if Sum a b c d then a + c else 0) = u ∧ (if Sum a b c d then b + d else 0) = v ∧ err (Sum a b c d) = e ∧ (if Sum c d a b then c + a else 0) = u ∧ (if Sum c d a b then d + b else 0) = v ∧ err (Sum c d a b) = e ∧
      (e = 0 ∧ -100000000 ≤ a + c ∧ a + c ≤ 100000000 ∧ -100000000 ≤ b + d ∧ b + d ≤ 100000000 ∨ e = 1 ∧ ¬ (-100000000 ≤ a + c ∧ a + c ≤ 100000000 ∧ -100000000 ≤ b + d ∧ b + d ≤ 100000000)) ∧
      box a b c d = x ∧ box c d g h = y ∧ box a b g h = z ∧ err (Four a b c d) = 0 ∧ err (Four c d g h) = 0 ∧ err (Four a b g h) = 0 ∧ z ≤ x + y ∧ 0 ≤ x ∧ x ≤ 200000000 ∧ 0 ≤ y ∧ y ≤ 200000000 ∧ (x = 0 ↔ a = c ∧ b = d) := by
  have F1 : Four a b c d := ⟨⟨ha, hb⟩, hc, hd⟩
  have F2 : Four c d g h := ⟨⟨hc, hd⟩, hg, hh⟩
  have F3 : Four a b g h := ⟨⟨ha, hb⟩, hg, hh⟩
  have F4 : Four c d a b := ⟨⟨hc, hd⟩, ha, hb⟩
  have s : Sum c d a b ↔ Sum a b c d := by
    unfold Sum Ok
    rw [Int.add_comm c a, Int.add_comm d b]
    exact ⟨fun k => ⟨F1, k.2⟩, fun k => ⟨F4, k.2⟩⟩
  refine ⟨_, _, _, _, _, _, rfl, rfl, rfl, ?_, ?_, ?_, ?_, rfl, rfl, rfl, by unfold err; rw [if_pos F1], by unfold err; rw [if_pos F2], by unfold err; rw [if_pos F3], ?_⟩
  · by_cases k : Sum a b c d
    · rw [if_pos k, if_pos (s.2 k), Int.add_comm]
    · rw [if_neg k, if_neg (fun j => k (s.1 j))]
  · by_cases k : Sum a b c d
    · rw [if_pos k, if_pos (s.2 k), Int.add_comm]
    · rw [if_neg k, if_neg (fun j => k (s.1 j))]
  · unfold err
    by_cases k : Sum a b c d
    · rw [if_pos k, if_pos (s.2 k)]
    · rw [if_neg k, if_neg (fun j => k (s.1 j))]
  · unfold err
    by_cases k : Sum a b c d
    · rw [if_pos k]
      obtain ⟨-, k1, k2⟩ := k
      unfold Ok at k1 k2
      omega
    · rw [if_neg k]
      right
      refine ⟨rfl, fun j => k ⟨F1, ?_, ?_⟩⟩ <;> (unfold Ok; omega)
  · have e1 : box a b c d = max (abs (a - c)) (abs (b - d)) := by rw [box, if_pos F1]
    have e2 : box c d g h = max (abs (c - g)) (abs (d - h)) := by rw [box, if_pos F2]
    have e3 : box a b g h = max (abs (a - g)) (abs (b - h)) := by rw [box, if_pos F3]
    rw [e1, e2, e3]
    unfold Ok at ha hb hc hd hg hh
    unfold abs
    omega
end Fr
set_option maxHeartbeats 1000000 in
set_option maxRecDepth 100000 in
theorem FrameLimits_walk (w : World) (l : Value) (ts : List Int) (hl : IntsIn w w.heap.size l .i64 ts) (hts : ∀ z ∈ ts, (Lit.int .i64 z).wf = true) :
    Calls Try.prog 9 #[l] w fun e w' => e = .returned (.bool true) ∧ Below w.heap.size w w' := by
  go_enter Try.func9, Try.ntmps9
  go_wp2_with (fail)
  refine (srcNew_calls _ ts _ hl hts).mono ?_
  rintro e w1 ⟨rfl, hs1, hb1⟩
  clear hl hts
  go_wp2_with (fail)
  refine (srcPoint_calls _ _ hs1).mono ?_
  rintro e w2 ⟨a, b, ha, hb, rfl, hs2, hg2⟩
  go_wp2_with (fail)
  refine (srcPoint_calls _ _ hs2).mono ?_
  rintro e w3 ⟨c, d, hc, hd, rfl, hs3, hg3⟩
  go_wp2_with (fail)
  refine (srcPoint_calls _ _ hs3).mono ?_
  rintro e w4 ⟨g, h, hg, hh, rfl, hs4, hg4⟩
  have hb4 : Below w.heap.size w w4 := below_grownBy hb1 (grownBy_trans hg2 (grownBy_trans hg3 hg4)) (Nat.le_refl _) hb1.size
  obtain ⟨u, v, e, x, y, z, f1, f2, f3, f4, f5, f6, f7, f8, f9, f10, f11, f12, f13, f14, f15, f16, f17, f18, f19⟩ := Fr.limits_facts ha hb hc hd hg hh
  have F1 := Lib.hid f1
  have F2 := Lib.hid f2
  have F3 := Lib.hid f3
  have F4 := Lib.hid f4
  have F5 := Lib.hid f5
  have F6 := Lib.hid f6
  have F8 := Lib.hid f8
  have F9 := Lib.hid f9
  have F10 := Lib.hid f10
  have F11 := Lib.hid f11
  have F12 := Lib.hid f12
  have F13 := Lib.hid f13
  unfold Fr.Ok at ha hb hc hd
  clear f1 f2 f3 f4 f5 f6 f8 f9 f10 f11 f12 f13 hg hh hs1 hs2 hs3 hs4 hg2 hg3 hg4 hb1
  have X : (x == (0 : Int)) = decide (a = c ∧ b = d) := by rw [Bool.eq_iff_iff]; simp; omega
  clear f19
  rcases f7 with ⟨rfl, k1, k2, k3, k4⟩ | ⟨rfl, k⟩
  all_goals
    go_wp2_with (fail)
    obtain ⟨W, hW, s0, s1, s2, s3, s4, s5, sB⟩ : ∃ W, ((w4.alloc (Obj.cells #[Value.int IntKind.i64 a, Value.int IntKind.i64 b] 51)).alloc (Obj.cells #[Value.int IntKind.i64 c, Value.int IntKind.i64 d] 51)).alloc (Obj.cells #[Value.int IntKind.i64 g, Value.int IntKind.i64 h] 51) = W ∧
        W.cell? ⟨w4.heap.size, 0, none⟩ = some (.int .i64 a) ∧ W.cell? ⟨w4.heap.size, 1, none⟩ = some (.int .i64 b) ∧ W.cell? ⟨w4.heap.size + 1, 0, none⟩ = some (.int .i64 c) ∧ W.cell? ⟨w4.heap.size + 1, 1, none⟩ = some (.int .i64 d) ∧
        W.cell? ⟨w4.heap.size + 1 + 1, 0, none⟩ = some (.int .i64 g) ∧ W.cell? ⟨w4.heap.size + 1 + 1, 1, none⟩ = some (.int .i64 h) ∧ Below w.heap.size w W :=
      ⟨_, rfl, by go_simp, by go_simp, by go_simp, by go_simp, by go_simp, by go_simp, by
        have := hb4.size
        exact ((hb4.alloc hb4.size _).alloc (by simp; omega) _).alloc (by simp; omega) _⟩
    rw [hW]
    clear hW hb4
    generalize w4.heap.size = n at *
    refine (add_eq _ _ _ _ u v _ _ F1.out F2.out F3.out).mono ?_
    rintro e w5 ⟨rfl, hb⟩
    replace s0 := cellB hb s0
    replace s1 := cellB hb s1
    replace s2 := cellB hb s2
    replace s3 := cellB hb s3
    replace s4 := cellB hb s4
    replace s5 := cellB hb s5
    replace sB := below_step sB hb
    clear hb
    have lt_s0 := World.block_lt_of_cell? _ _ s0
    have lt_s1 := World.block_lt_of_cell? _ _ s1
    have lt_s2 := World.block_lt_of_cell? _ _ s2
    have lt_s3 := World.block_lt_of_cell? _ _ s3
    have lt_s4 := World.block_lt_of_cell? _ _ s4
    have lt_s5 := World.block_lt_of_cell? _ _ s5
    go_wp2_with (fail)
    refine (add_eq _ _ _ _ u v _ _ F4.out F5.out F6.out).mono ?_
    rintro e w6 ⟨rfl, hb⟩
    replace s0 := cellB hb (cellA s0)
    replace s1 := cellB hb (cellA s1)
    replace s2 := cellB hb (cellA s2)
    replace s3 := cellB hb (cellA s3)
    replace s4 := cellB hb (cellA s4)
    replace s5 := cellB hb (cellA s5)
    replace sB := below_step (sB.alloc sB.size _) hb
    clear lt_s0 lt_s1 lt_s2 lt_s3 lt_s4 lt_s5
    have s6 : w6.cell? ⟨w5.heap.size, 0, none⟩ = some (.int .i64 u) := cellB hb (by simp)
    have s7 : w6.cell? ⟨w5.heap.size, 1, none⟩ = some (.int .i64 v) := cellB hb (by simp)
    clear hb
    generalize w5.heap.size = n1 at *
    have lt0 := World.block_lt_of_cell? _ _ s0
    have lt2 := World.block_lt_of_cell? _ _ s2
    have lt4 := World.block_lt_of_cell? _ _ s4
    have lt6 := World.block_lt_of_cell? _ _ s6
    go_wp2_with (fail)
    all_goals
      refine (box_eq _ _ _ _ x 0 _ F8.out F11.out).mono ?_
      rintro e w7 ⟨rfl, hb⟩
      have s8 : w7.cell? ⟨w6.heap.size, 0, none⟩ = some (.int .i64 u) := cellB hb (by simp)
      have s9 : w7.cell? ⟨w6.heap.size, 1, none⟩ = some (.int .i64 v) := cellB hb (by simp)
      replace s0 := cellB hb (cellA s0)
      replace s1 := cellB hb (cellA s1)
      replace s2 := cellB hb (cellA s2)
      replace s3 := cellB hb (cellA s3)
      replace s4 := cellB hb (cellA s4)
      replace s5 := cellB hb (cellA s5)
      replace s6 := cellB hb (cellA s6)
      replace s7 := cellB hb (cellA s7)
      replace sB := below_step (sB.alloc sB.size _) hb
      clear hb lt0 lt2 lt4 lt6
      go_wp2_with (fail)
      refine (box_eq _ _ _ _ y 0 _ F9.out F12.out).mono ?_
      rintro e w8 ⟨rfl, hb⟩
      replace s0 := cellB hb s0
      replace s1 := cellB hb s1
      replace s2 := cellB hb s2
      replace s3 := cellB hb s3
      replace s4 := cellB hb s4
      replace s5 := cellB hb s5
      replace s6 := cellB hb s6
      replace s7 := cellB hb s7
      replace s8 := cellB hb s8
      replace s9 := cellB hb s9
      replace sB := below_step sB hb
      clear hb
      go_wp2_with (fail)
      refine (box_eq _ _ _ _ z 0 _ F10.out F13.out).mono ?_
      rintro e w9 ⟨rfl, hb⟩
      replace s0 := cellB hb s0
      replace s1 := cellB hb s1
      replace s2 := cellB hb s2
      replace s3 := cellB hb s3
      replace s4 := cellB hb s4
      replace s5 := cellB hb s5
      replace s6 := cellB hb s6
      replace s7 := cellB hb s7
      replace s8 := cellB hb s8
      replace s9 := cellB hb s9
      replace sB := below_step sB hb
      clear hb
      go_wp2_with (go_at_call 42; refine (sane03 _).mono ?_; rintro e wz ⟨rfl, hb⟩)
      all_goals first | (go_ret; exact ⟨rfl, below_step sB hb⟩) | (exfalso; omega) | (go_ret; exact ⟨retb (by simp; omega), below_step sB hb⟩) | (exfalso; simp at *; omega)
end Go.Proofs.Ytjmmkphdomiohaa
