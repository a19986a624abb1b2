/- The walk of StatusJudges. -/
import Derived.Test.YtjmmkphdomiohabStSane
import Derived.Test.YtjmmkphdomiohabSrEst
import Derived.Test.YtjmmkphdomiohabSteady
namespace Go.Proofs.Ytjmmkphdomiohab
open Go.RowKit
theorem judge_eq (h s : Bool) (x y b t st n q : Int) (w : World) (hq : St.judge h s st n = q) :
    Calls Try.prog 24 #[.bool h, .bool s, .agg #[.int .i64 x, .int .i64 y, .int .i64 b, .int .i64 t, .int .i64 st], .int .i64 n] w fun e w' => e = .returned (.int .i64 q) ∧ Below w.heap.size w w' := by
  subst hq; exact judge_calls h s x y b t st n w
theorem judge_facts (st n : Int) : ∃ a b c, St.judge true true st n = a ∧ St.judge true false st n = b ∧ St.judge true true st (n + 1) = c ∧ St.judge false true st n = 1 ∧ b ≤ a ∧ b < 3 ∧ a ≤ c ∧ (st = 1 → 1 < a) ∧ (st ≠ 1 → a ≤ 1) := by
  refine ⟨_, _, _, rfl, rfl, rfl, by simp [St.judge], ?_⟩
  unfold St.judge
  by_cases h : st = 1
  · by_cases h2 : 2 ≤ n
    · have : 2 ≤ n + 1 := by omega
      simp [h, h2, this]
    · by_cases h3 : 2 ≤ n + 1 <;> simp [h, h2, h3]
  · simp [h]
set_option maxHeartbeats 2000000 in
set_option maxRecDepth 100000 in
theorem StatusJudges_walk (w : World) (l : Value) (ts : List Int) (hl : IntsIn w w.heap.size l .i64 ts) (hts : ∀ z ∈ ts, (Lit.int .i64 z).wf = true) (n : Int) (hn : (Lit.int .u8 n).wf = true) :
    Calls Try.prog 8 #[l, .int .u8 n] w fun e w' => e = .returned (.bool true) ∧ Below w.heap.size w w' := by
  have e3 : IntKind.u8.min = 0 := rfl
  have e4 : IntKind.u8.max = 255 := rfl
  have bn : IntKind.u8.min ≤ n ∧ n ≤ IntKind.u8.max := by simpa [Lit.wf] using hn
  rw [e3, e4] at bn
  clear hn e3 e4
  obtain ⟨n0, n1⟩ := bn
  have HL := Lib.hid hl
  have HT := Lib.hid hts
  obtain ⟨A, c, rfl, k1, k2, _, _⟩ := hl
  unfold maxLen at k2
  clear hts
  by_cases hn : (600 : Int) < ts.length
  · go_enter Try.func8, Try.ntmps8
    go_wp2_with (fail)
    refine (stSane_calls _).mono ?_
    rintro e w1 ⟨rfl, hb⟩
    go_wp2_with (fail)
    go_ret
    exact ⟨rfl, hb⟩
  · go_enter Try.func8, Try.ntmps8
    go_wp2_with (fail)
    refine (srcNew_calls _ ts _ HL.out HT.out).mono ?_
    rintro e w1 ⟨rfl, hs1, hb1⟩
    clear HL HT
    go_wp2_with (fail)
    refine (srcEst_calls _ 0 _ hs1).mono ?_
    rintro e w2 ⟨x, y, r, s, hs, rfl, hs2, hg2⟩
    have hb2 : Below w.heap.size w w2 := below_grownBy hb1 hg2 (Nat.le_refl _) hb1.size
    clear hs1 hg2 hb1 hs2 hs
    obtain ⟨a, b, d, j1, j2, j3, j4, f1, f2, f3, f4, f5⟩ := judge_facts s n
    have J1 := Lib.hid j1
    have J2 := Lib.hid j2
    have J3 := Lib.hid j3
    have J4 := Lib.hid j4
    clear j1 j2 j3 j4
    go_wp2_with (fail)
    obtain ⟨W, hW, s0, s1, s2, s3, s4, sB⟩ : ∃ W, w2.alloc (Obj.cells #[Value.int IntKind.i64 x, Value.int IntKind.i64 y, Value.int IntKind.i64 r, Value.int IntKind.i64 0, Value.int IntKind.i64 s] 28) = W ∧ W.cell? ⟨w2.heap.size, 0, none⟩ = some (.int .i64 x) ∧ W.cell? ⟨w2.heap.size, 1, none⟩ = some (.int .i64 y) ∧ W.cell? ⟨w2.heap.size, 2, none⟩ = some (.int .i64 r) ∧
        W.cell? ⟨w2.heap.size, 3, none⟩ = some (.int .i64 0) ∧ W.cell? ⟨w2.heap.size, 4, none⟩ = some (.int .i64 s) ∧ Below w.heap.size w W :=
      ⟨_, rfl, by simp, by simp, by simp, by simp, by simp, hb2.alloc hb2.size _⟩
    rw [hW]
    clear hW hb2
    generalize w2.heap.size = g at *
    refine region_steady (fun w' => w'.cell? ⟨g, 0, none⟩ = some (.int .i64 x) ∧ w'.cell? ⟨g, 1, none⟩ = some (.int .i64 y) ∧ w'.cell? ⟨g, 2, none⟩ = some (.int .i64 r) ∧ w'.cell? ⟨g, 3, none⟩ = some (.int .i64 0) ∧ w'.cell? ⟨g, 4, none⟩ = some (.int .i64 s) ∧ Below w.heap.size w w') (by kernel_rfl) (by kernel_rfl) (fun _ _ _ _ _ h => h) ⟨s0, s1, s2, s3, s4, sB.drew⟩ ?_
    repeat
      first
        | refine wpSteady_skip (by rfl) ?_
        | (apply wpSteady_step
           · rfl
           · rintro w' ⟨t0, t1, t2, t3, t4, tB⟩
             go_simp
             first
               | exact steadyR_value rfl ⟨t0, t1, t2, t3, t4, tB⟩
               | (apply steadyR_enter
                  first
                 | (go_at_call 24; refine (judge_calls _ _ _ _ _ _ _ _ _).mono ?_; rintro e w1 ⟨rfl, hb⟩; exact ⟨rfl, cellB hb t0, cellB hb t1, cellB hb t2, cellB hb t3, cellB hb t4, below_step tB hb⟩)))
      (try simp only [Act.put, List.setIfInBounds_toArray, List.set_cons_zero, List.set_cons_succ])
    refine wpSteady_nil ?_
    rintro wq ⟨t0, t1, t2, t3, t4, tB⟩
    clear s0 s1 s2 s3 s4 sB
    rw [J1.out, J2.out]
    go_wp2_with (fail)
    refine (judge_eq _ _ _ _ _ _ _ _ 1 _ J4.out).mono ?_
    rintro e w3 ⟨rfl, hb⟩
    have s0 := cellB hb t0
    have s1 := cellB hb t1
    have s2 := cellB hb t2
    have s3 := cellB hb t3
    have s4 := cellB hb t4
    have sB := below_step tB hb
    clear hb t0 t1 t2 t3 t4 tB
    by_cases k : s = 1
    · have f6 := f4 k
      have k3 : (s == 1) = true := by simpa using k
      have k4 : decide (1 < a) = true := decide_eq_true f6
      clear f4 f5 k
      go_wp2_with (fail)
      refine (judge_eq _ _ _ _ _ _ _ _ d _ J3.out).mono ?_
      rintro e w4 ⟨rfl, hb⟩
      replace sB := below_step sB hb
      clear hb
      go_wp2_with (fail)
      refine (stSane_calls _).mono ?_
      rintro e w5 ⟨rfl, hb⟩
      replace sB := below_step sB hb
      go_wp2_with (fail)
      go_ret
      exact ⟨rfl, sB⟩
    · have f6 := f5 k
      have k3 : (s == 1) = false := by simpa using k
      have k4 : decide (1 < a) = false := decide_eq_false (by omega)
      clear f4 f5 k
      go_wp2_with (fail)
      refine (judge_eq _ _ _ _ _ _ _ _ d _ J3.out).mono ?_
      rintro e w4 ⟨rfl, hb⟩
      replace sB := below_step sB hb
      clear hb
      go_wp2_with (fail)
      refine (stSane_calls _).mono ?_
      rintro e w5 ⟨rfl, hb⟩
      replace sB := below_step sB hb
      go_wp2_with (fail)
      go_ret
      exact ⟨rfl, sB⟩
end Go.Proofs.Ytjmmkphdomiohab
