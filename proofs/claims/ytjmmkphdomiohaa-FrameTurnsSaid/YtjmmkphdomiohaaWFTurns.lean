/- The walk of FrameTurns. -/
import Derived.Test.YtjmmkphdomiohaaFrTurn
namespace Go.Proofs.Ytjmmkphdomiohaa
open Go.RowKit
set_option maxHeartbeats 400000 in
theorem margin_eq (x q : Int) (w : World) (h0 : -50000000 ≤ x) (h1 : x ≤ 50000000) (hq : (if x < 0 then -x / 200 + 2 else x / 200 + 2) = q) :
    Calls Try.prog 57 #[.int .i64 x] w fun e w' => e = .returned (.int .i64 q) ∧ w = w' := by
  subst hq
  by_cases k : x < 0
  · obtain ⟨y, rfl⟩ : ∃ y, x = -y := ⟨-x, by omega⟩
    have y0 : 0 < y := by omega
    have H : Hid ((if -y < 0 then - -y / 200 + 2 else -y / 200 + 2) = y / 200 + 2) := Lib.hid (by rw [if_pos k, Int.neg_neg])
    rw [H.out]
    clear k H
    go_enter Try.func57, Try.ntmps57
    go_wp2
    all_goals first | omega | (go_ret; exact ⟨rfl, rfl⟩)
  · have H : Hid ((if x < 0 then -x / 200 + 2 else x / 200 + 2) = x / 200 + 2) := Lib.hid (by rw [if_neg k])
    rw [H.out]
    clear H
    go_enter Try.func57, Try.ntmps57
    go_wp2
    all_goals first | omega | (go_ret; exact ⟨rfl, rfl⟩)
set_option maxHeartbeats 2000000 in
set_option maxRecDepth 100000 in
theorem FrameTurns_walk (w : World) (l : Value) (ts : List Int) (hl : IntsIn w w.heap.size l .i64 ts) (hts : ∀ z ∈ ts, (Lit.int .i64 z).wf = true) (a : Int) (_ : (Lit.int .i64 a).wf = true) :
    Calls Try.prog 12 #[l, .int .i64 a] w fun e w' => e = .returned (.bool true) ∧ Below w.heap.size w w' := by
  have ka := Int.lt_tmod_of_pos a (by omega : (0 : Int) < 3600)
  have kb := Int.tmod_lt_of_pos a (by omega : (0 : Int) < 3600)
  go_enter Try.func12, Try.ntmps12
  go_wp2_with (fail)
  refine (srcNew_calls _ ts _ hl hts).mono ?_
  rintro e w1 ⟨rfl, hs1, hb1⟩
  clear hl hts
  go_wp2_with (fail)
  refine (srcPoint_calls _ _ hs1).mono ?_
  rintro e w2 ⟨P, Q, hP, hQ, rfl, hs2, hg2⟩
  have hb2 : Below w.heap.size w w2 := below_grownBy hb1 hg2 (Nat.le_refl _) hb1.size
  obtain ⟨X, Y, b, c, d, h, f1, f2, f3, f4, f5, f6, f7, f8, f9, f10, f11, f12, f13, x0, x1, y0, y1, d0, d1, h0, h1, q1, q2, q3, q4⟩ := Fr.turns_all (a.tmod 3600) hP hQ
  have F3 := Lib.hid f3
  have F4 := Lib.hid f4
  have F5 := Lib.hid f5
  have F6 := Lib.hid f6
  have F7 := Lib.hid f7
  have F8 := Lib.hid f8
  have F9 := Lib.hid f9
  have F10 := Lib.hid f10
  have F11 := Lib.hid f11
  have F12 := Lib.hid f12
  have F13 := Lib.hid f13
  unfold Fr.Ok at hP hQ
  obtain ⟨P0, P1⟩ := hP
  obtain ⟨Q0, Q1⟩ := hQ
  clear f3 f4 f5 f6 f7 f8 f9 f10 f11 f12 f13 hs1 hs2 hg2 hb1
  go_wp2_with (fail)
  obtain ⟨W, hW, s0, s1, sB⟩ : ∃ W, w2.alloc (Obj.cells #[Value.int IntKind.i64 P, Value.int IntKind.i64 Q] 51) = W ∧ W.cell? ⟨w2.heap.size, 0, none⟩ = some (.int .i64 P) ∧ W.cell? ⟨w2.heap.size, 1, none⟩ = some (.int .i64 Q) ∧ Below w.heap.size w W :=
    ⟨_, rfl, by simp, by simp, hb2.alloc hb2.size _⟩
  rw [hW]
  clear hW hb2
  generalize w2.heap.size = g at *
  refine (turn_eq _ _ _ (-Q) P 0 _ F3.out F4.out F7.out).mono ?_
  rintro e w3 ⟨rfl, hb⟩
  replace s0 := cellB hb s0
  replace s1 := cellB hb s1
  replace sB := below_step sB hb
  clear hb
  go_wp2_with (fail)
  refine (turn_eq _ _ _ (-P) (-Q) 0 _ F5.out F6.out F7.out).mono ?_
  rintro e w4 ⟨rfl, hb⟩
  replace s0 := cellB hb s0
  replace s1 := cellB hb s1
  replace sB := below_step sB hb
  clear hb
  have lt0 := World.block_lt_of_cell? _ _ s0
  go_wp2_with (fail)
  refine (turn_eq _ _ _ b c 0 _ F8.out F9.out F10.out).mono ?_
  rintro e w5 ⟨rfl, hb⟩
  have s2 : w5.cell? ⟨w4.heap.size, 0, none⟩ = some (.int .i64 X) := cellB hb (by simp)
  have s3 : w5.cell? ⟨w4.heap.size, 1, none⟩ = some (.int .i64 Y) := cellB hb (by simp)
  replace sB := below_step (sB.alloc sB.size _) hb
  clear hb lt0 s0 s1
  generalize w4.heap.size = n at *
  go_wp2_with (fail)
  refine (turn_eq _ _ _ d h 0 _ F11.out F12.out F13.out).mono ?_
  rintro e w6 ⟨rfl, hb⟩
  replace s2 := cellB hb s2
  replace s3 := cellB hb s3
  replace sB := below_step sB hb
  clear hb
  clear F3 F4 F5 F6 F7 F8 F9 F10 F11 F12 F13 P0 P1 Q0 Q1 f1 f2
  go_wp2_with (fail)
  have W1 : IntKind.i64.wrap (d - X) = d - X := IntWalk.i64_in _ (by omega)
  have W2 : IntKind.i64.wrap (h - Y) = h - Y := IntWalk.i64_in _ (by omega)
  refine region_steady (fun w' => w'.cell? ⟨n, 0, none⟩ = some (.int .i64 X) ∧ w'.cell? ⟨n, 1, none⟩ = some (.int .i64 Y) ∧ Below w.heap.size w w') (by kernel_rfl) (by kernel_rfl) (fun _ _ _ _ _ h => h) ⟨s2, s3, sB.drew⟩ ?_
  repeat
    first
      | refine wpSteady_skip (by rfl) ?_
      | (apply wpSteady_step
         · rfl
         · rintro w' ⟨t0, t1, t2⟩
           go_simp
           first
             | exact steadyR_value rfl ⟨t0, t1, t2⟩)
    (try simp only [Act.put, List.setIfInBounds_toArray, List.set_cons_zero, List.set_cons_succ])
  refine wpSteady_nil ?_
  rintro wq ⟨t0, t1, t2⟩
  clear W1 W2 s2 s3 sB
  generalize hm : d - X = m at *
  generalize hn : h - Y = o at *
  have m0 : -300000000 ≤ m ∧ m ≤ 300000000 := by omega
  have o0 : -300000000 ≤ o ∧ o ≤ 300000000 := by omega
  clear hm hn d0 d1 h0 h1
  obtain ⟨M, hM⟩ : ∃ M, (if X < 0 then -X / 200 + 2 else X / 200 + 2) = M := ⟨_, rfl⟩
  obtain ⟨N, hN⟩ : ∃ N, (if Y < 0 then -Y / 200 + 2 else Y / 200 + 2) = N := ⟨_, rfl⟩
  have u : m ≤ M ∧ -M ≤ m ∧ 0 ≤ M ∧ M ≤ 300000 := by
    rw [← hM]
    split <;> omega
  have v : o ≤ N ∧ -N ≤ o ∧ 0 ≤ N ∧ N ≤ 300000 := by
    rw [← hN]
    split <;> omega
  obtain ⟨u1, u2, u3, u4⟩ := u
  obtain ⟨v1, v2, v3, v4⟩ := v
  have HM : Hid (∀ w, _) := Lib.hid (fun w => margin_eq X M w x0 x1 hM)
  have HN : Hid (∀ w, _) := Lib.hid (fun w => margin_eq Y N w y0 y1 hN)
  clear q1 q2 q3 q4 hM hN
  go_wp2_with (fail)
  refine (HM.out _).mono ?_
  rintro e wn ⟨rfl, rfl⟩
  go_wp2_with (fail)
  refine (HM.out _).mono ?_
  rintro e wn ⟨rfl, rfl⟩
  go_wp2_with (fail)
  refine (HN.out _).mono ?_
  rintro e wn ⟨rfl, rfl⟩
  go_wp2_with (fail)
  refine (HN.out _).mono ?_
  rintro e wn ⟨rfl, rfl⟩
  go_wp2_with (go_at_call 42; refine (sane03 _).mono ?_; rintro e wz ⟨rfl, hb⟩)
  all_goals first | (go_ret; exact ⟨rfl, below_step t2 hb⟩) | (exfalso; omega)
end Go.Proofs.Ytjmmkphdomiohaa
