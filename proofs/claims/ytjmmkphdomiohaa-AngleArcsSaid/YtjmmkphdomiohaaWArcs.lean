/- The walk of AngleArcs. -/
import Derived.Test.YtjmmkphdomiohaaAnSane
import Derived.Test.YtjmmkphdomiohaaSrArc
import Derived.Test.YtjmmkphdomiohaaAnDir
import Derived.Test.YtjmmkphdomiohaaRAn
namespace Go.Proofs.Ytjmmkphdomiohaa
open Go.RowKit
namespace An
theorem side_at {g : Int} (hg : g.toNat ∈ ends) (h0 : 0 ≤ g) (h1 : g < 3600) {p : Int} (p0 : 0 ≤ p) (p1 : p < 3600) :
    (norm (p - g) = 0 → cross g (cos p) (sin p) = 0 ∧ 0 < dot g (cos p) (sin p)) ∧ (0 < norm (p - g) → norm (p - g) < 1800 → 0 < cross g (cos p) (sin p)) ∧
    (norm (p - g) = 1800 → cross g (cos p) (sin p) = 0 ∧ dot g (cos p) (sin p) < 0) ∧ (1800 < norm (p - g) → cross g (cos p) (sin p) < 0) := by
  have k := List.all_eq_true.1 (List.all_eq_true.1 all_sides g.toNat hg) p.toNat (List.mem_range.2 (by omega))
  have fx : Fits (cos p) := by have := cos_range p; unfold Fits; omega
  have fy : Fits (sin p) := by have := sin_range p; unfold Fits; omega
  have ec : cross g (cos p) (sin p) = cosI g.toNat * sinI p.toNat - sinI g.toNat * cosI p.toNat := by
    rw [cross, if_pos ⟨fx, fy⟩, ← cos_nat g.toNat (by omega), ← sin_nat g.toNat (by omega), ← cos_nat p.toNat (by omega), ← sin_nat p.toNat (by omega), Int.toNat_of_nonneg h0, Int.toNat_of_nonneg p0]
  have ed : dot g (cos p) (sin p) = cosI g.toNat * cosI p.toNat + sinI g.toNat * sinI p.toNat := by
    rw [dot, ← cos_nat g.toNat (by omega), ← sin_nat g.toNat (by omega), ← cos_nat p.toNat (by omega), ← sin_nat p.toNat (by omega), Int.toNat_of_nonneg h0, Int.toNat_of_nonneg p0]
  have en : norm (p - g) = ((p.toNat + 3600 - g.toNat) % 3600 : Nat) := by unfold norm; omega
  rw [ec, ed, en]
  unfold side at k
  simp only at k
  generalize cosI g.toNat * sinI p.toNat - sinI g.toNat * cosI p.toNat = x at *
  generalize cosI g.toNat * cosI p.toNat + sinI g.toNat * sinI p.toNat = y at *
  generalize (p.toNat + 3600 - g.toNat) % 3600 = d at *
  split at k
  · simp at k; omega
  · split at k
    · simp at k; omega
    · split at k
      · simp at k; omega
      · simp at k; omega
theorem ends_of {f d : Int} (hf : f ∈ arcFroms) (hd : d ∈ arcWidths) : f.toNat ∈ ends ∧ ((f + d) % 3600).toNat ∈ ends := by
  simp only [arcFroms, arcWidths, List.mem_cons, List.not_mem_nil, or_false] at hf hd
  rcases hf with rfl | rfl | rfl | rfl | rfl | rfl | rfl <;> rcases hd with rfl | rfl | rfl | rfl | rfl <;> decide
theorem arcs_facts (f d a : Int) (hf : f ∈ arcFroms) (hd : d ∈ arcWidths) : ∃ (t p : Int) (q : Bool), (f + d) % 3600 = t ∧ norm a = p ∧ 0 ≤ f ∧ f < 3600 ∧ 0 ≤ t ∧ t < 3600 ∧ 0 ≤ p ∧ p < 3600 ∧ norm (wrap64 (t - f)) = d ∧ 0 ≤ d ∧ d ≤ 1799 ∧
    valid f t = true ∧ inn f t f = true ∧ inn f t t = true ∧ inn f t p = q ∧ within f t (cos p) (sin p) = q ∧ (q = true → inn (norm (t + 1)) (norm (t + 900)) p = false) ∧ cross p (cos p) (sin p) = 0 := by
  obtain ⟨f0, f1⟩ := froms_range hf
  obtain ⟨d0, d1⟩ := widths_range hd
  obtain ⟨e1, e2⟩ := ends_of hf hd
  obtain ⟨p0, p1⟩ := norm_range a
  have t0 : 0 ≤ (f + d) % 3600 := by omega
  have t1 : (f + d) % 3600 < 3600 := by omega
  have s1 := side_at e1 f0 (by omega) p0 p1
  have s2 := side_at e2 t0 t1 p0 p1
  have hw : norm ((f + d) % 3600 - f) = d := by unfold norm; omega
  have hv : valid f ((f + d) % 3600) = true := by simp only [valid, decide_eq_true_eq]; omega
  refine ⟨_, _, _, rfl, rfl, f0, by omega, t0, t1, p0, p1, by rw [width_wrap f0 (by omega) t0 t1]; exact hw, d0, d1, hv, ?_, ?_, rfl, ?_, ?_, ?_⟩
  · simp only [inn, hv, Bool.true_and, decide_eq_true_eq, hw]; unfold norm; omega
  · simp only [inn, hv, Bool.true_and, decide_eq_true_eq, hw]; unfold norm; omega
  · have fx : Fits (cos (norm a)) := by have := cos_range (norm a); unfold Fits; omega
    have fy : Fits (sin (norm a)) := by have := sin_range (norm a); unfold Fits; omega
    have nz : ¬ (cos (norm a) = 0 ∧ sin (norm a) = 0) := by
      rintro ⟨z1, z2⟩
      rw [z1, z2] at s1
      simp only [cross, dot, Int.mul_zero, Int.sub_zero, Int.add_zero, ite_self] at s1
      have := norm_range (norm a - f)
      omega
    rw [inn, hv, Bool.true_and, norm_norm, hw, within]
    refine decide_eq_decide.2 ⟨fun k => ?_, fun k => ⟨hv, nz, fx, fy, ?_⟩⟩
    · have n1 := norm_range (norm a - f)
      have n2 := norm_range (norm a - (f + d) % 3600)
      have e : norm (norm a - (f + d) % 3600) = norm (norm (norm a - f) - d) := by unfold norm; omega
      have e' : norm (norm (norm a - f) - d) = if d ≤ norm (norm a - f) then norm (norm a - f) - d else norm (norm a - f) - d + 3600 := by
        generalize norm (norm a - f) = u at *
        split <;> (unfold norm; omega)
      rw [e, e'] at s2
      rw [e, e'] at n2
      obtain ⟨_, _, _, _, k1, k2, k3⟩ := k
      generalize norm (norm a - f) = u at *
      generalize cross f (cos (norm a)) (sin (norm a)) = X at *
      generalize cross ((f + d) % 3600) (cos (norm a)) (sin (norm a)) = Y at *
      generalize dot f (cos (norm a)) (sin (norm a)) = Z at *
      split at s2 <;> omega
    · have n1 := norm_range (norm a - f)
      have e : norm (norm a - (f + d) % 3600) = norm (norm (norm a - f) - d) := by unfold norm; omega
      have e' : norm (norm (norm a - f) - d) = if d ≤ norm (norm a - f) then norm (norm a - f) - d else norm (norm a - f) - d + 3600 := by
        generalize norm (norm a - f) = u at *
        split <;> (unfold norm; omega)
      rw [e, e'] at s2
      generalize norm (norm a - f) = u at *
      generalize cross f (cos (norm a)) (sin (norm a)) = X at *
      generalize cross ((f + d) % 3600) (cos (norm a)) (sin (norm a)) = Y at *
      generalize dot f (cos (norm a)) (sin (norm a)) = Z at *
      split at s2 <;> omega
  · intro hq
    simp only [inn, hv, Bool.true_and, decide_eq_true_eq, hw] at hq
    simp only [inn, Bool.and_eq_false_iff, decide_eq_false_iff_not]
    right
    unfold norm at *
    omega
  · unfold cross
    split
    · rw [Int.mul_comm]; omega
    · rfl
end An
set_option maxHeartbeats 1000000 in
set_option maxRecDepth 100000 in
theorem AngleArcs_walk (w : World) (l : Value) (ts : List Int) (hl : IntsIn w w.heap.size l .i64 ts) (hts : ∀ z ∈ ts, (Lit.int .i64 z).wf = true) (a : Int) (_ : (Lit.int .i64 a).wf = true) :
    Calls Try.prog 8 #[l, .int .i64 a] w fun e w' => e = .returned (.bool true) ∧ Below w.heap.size w w' := by
  go_enter Try.func8, Try.ntmps8
  go_wp2_with (fail)
  refine (srcNew_calls _ ts _ hl hts).mono ?_
  rintro e w1 ⟨rfl, hs1, hb1⟩
  clear hl hts
  go_wp2_with (fail)
  refine (srcArc_calls _ _ hs1).mono ?_
  rintro e w2 ⟨f, d, hf, hd, rfl, hs2, hg2⟩
  obtain ⟨t, p, q, f1, f2, g1, g2, g3, g4, g5, g6, f3, g7, g8, f4, f5, f6, f7, f8, f9, f10⟩ := An.arcs_facts f d a hf hd
  rw [f1]
  have hb2 : Below w.heap.size w w2 := below_grownBy hb1 hg2 (Nat.le_refl _) hb1.size
  clear f1 hf hd hs1 hs2 hg2 hb1
  have F2 := Lib.hid f2
  have F3 := Lib.hid f3
  have F4 := Lib.hid f4
  have F5 := Lib.hid f5
  have F6 := Lib.hid f6
  have F7 := Lib.hid f7
  have F8 := Lib.hid f8
  have F9 := Lib.hid f9
  have F10 := Lib.hid f10
  clear f2 f3 f4 f5 f6 f7 f8 f9 f10
  go_wp2_with (fail)
  obtain ⟨W, hW, s0, s1, sB⟩ : ∃ W, w2.alloc (Obj.cells #[Value.int IntKind.i64 f, Value.int IntKind.i64 t] 32) = W ∧ W.cell? ⟨w2.heap.size, 0, none⟩ = some (.int .i64 f) ∧ W.cell? ⟨w2.heap.size, 1, none⟩ = some (.int .i64 t) ∧ Below w.heap.size w W :=
    ⟨_, rfl, by simp, by simp, hb2.alloc hb2.size _⟩
  rw [hW]
  clear hW hb2
  generalize w2.heap.size = g at *
  refine (norm_eq _ p _ F2.out).mono ?_
  rintro e w' ⟨rfl, rfl⟩
  go_wp2_with (fail)
  refine (valid_eq _ _ true _ F4.out).mono ?_
  rintro e w3 ⟨rfl, hb⟩
  replace s0 := cellB hb s0
  replace s1 := cellB hb s1
  replace sB := below_step sB hb
  clear hb
  go_wp2_with (fail)
  refine (in_eq _ _ _ true _ F5.out).mono ?_
  rintro e w4 ⟨rfl, hb⟩
  replace s0 := cellB hb s0
  replace s1 := cellB hb s1
  replace sB := below_step sB hb
  clear hb
  go_wp2_with (fail)
  refine (in_eq _ _ _ true _ F6.out).mono ?_
  rintro e w5 ⟨rfl, hb⟩
  replace s0 := cellB hb s0
  replace s1 := cellB hb s1
  replace sB := below_step sB hb
  clear hb
  go_wp2_with (fail)
  refine region_steady (fun w' => w'.cell? ⟨g, 0, none⟩ = some (.int .i64 f) ∧ w'.cell? ⟨g, 1, none⟩ = some (.int .i64 t) ∧ Below w.heap.size w w') (by kernel_rfl) (by kernel_rfl) (fun _ _ _ _ _ h => h) ⟨s0, s1, sB.drew⟩ ?_
  repeat
    first
      | refine wpSteady_skip (by rfl) ?_
      | (apply wpSteady_step
         · rfl
         · rintro w' ⟨t0, t1, t2⟩
           go_simp
           first
             | exact steadyR_value rfl ⟨t0, t1, t2⟩
             | (apply steadyR_enter
                first
               | (go_at_call 28; refine (rcos_calls _ _).mono ?_; rintro e w1 ⟨rfl, rfl⟩; exact ⟨rfl, t0, t1, t2⟩)
               | (go_at_call 27; refine (rsin_calls _ _).mono ?_; rintro e w1 ⟨rfl, rfl⟩; exact ⟨rfl, t0, t1, t2⟩)
               | (go_at_call 23; refine (within_eq _ _ _ _ q _ F8.out).mono ?_; rintro e w1 ⟨rfl, hb⟩; exact ⟨rfl, cellB hb t0, cellB hb t1, below_step t2 hb⟩)
               | (go_at_call 36; refine (in_eq _ _ _ q _ F7.out).mono ?_; rintro e w1 ⟨rfl, hb⟩; exact ⟨rfl, cellB hb t0, cellB hb t1, below_step t2 hb⟩)))
    (try simp only [Act.put, List.setIfInBounds_toArray, List.set_cons_zero, List.set_cons_succ])
  refine wpSteady_nil ?_
  rintro wq ⟨t0, t1, t2⟩
  clear s0 s1 sB
  go_wp2_with (fail)
  have W1 : IntKind.i64.wrap (t + 1) = t + 1 := IntWalk.i64_in _ (by omega)
  have W2 : IntKind.i64.wrap (t + 900) = t + 900 := IntWalk.i64_in _ (by omega)
  have hg : g < wq.heap.size := World.block_lt_of_cell? wq _ t0
  go_cut [8] (fun s wr => ∃ h : Nat, s = .pointer (some ⟨h, 0, none⟩) ∧ wr.cell? ⟨g, 0, none⟩ = some (.int .i64 f) ∧ wr.cell? ⟨g, 1, none⟩ = some (.int .i64 t) ∧ wr.cell? ⟨h, 0, none⟩ = some (.int .i64 (An.norm (t + 1))) ∧ wr.cell? ⟨h, 1, none⟩ = some (.int .i64 (An.norm (t + 900))) ∧ Below w.heap.size w wr)
  case first =>
    have n0 := World.new_ne wq _ t0
    have n1 := World.new_ne wq _ t1
    go_region_held3 (fun w' => w'.cell? ⟨g, 0, none⟩ = some (.int .i64 f) ∧ w'.cell? ⟨g, 1, none⟩ = some (.int .i64 t)) (go_keep)
      (first | (go_at_call 15; refine (norm_calls _ _).mono ?_; rintro e w' ⟨rfl, rfl⟩))
    all_goals
      go_wp2_with (fail)
      go_meet
      exact ⟨wq.heap.size, rfl, by rw [World.cell?_drew, World.cell?_alloc_lt _ _ _ hg]; exact t0, by rw [World.cell?_drew, World.cell?_alloc_lt _ _ _ hg]; exact t1, by simp, by simp, (t2.alloc t2.size _).drew⟩
  case rest =>
    clear t0 t1 t2 W1 W2 hg
    obtain ⟨h, rfl, s0, s1, s2, s3, sB⟩ := hcut
    go_wp2_with (fail)
    refine (width_eq _ _ d _ F3.out).mono ?_
    rintro e w6 ⟨rfl, hb⟩
    replace s0 := cellB hb s0
    replace s1 := cellB hb s1
    replace s2 := cellB hb s2
    replace s3 := cellB hb s3
    replace sB := below_step sB hb
    clear hb
    cases q
    · go_wp2_with (fail)
      refine (in_eq _ _ _ false _ F7.out).mono ?_
      rintro e w9 ⟨rfl, hb⟩
      replace s0 := cellB hb s0
      replace s1 := cellB hb s1
      replace s2 := cellB hb s2
      replace s3 := cellB hb s3
      replace sB := below_step sB hb
      clear hb
      go_wp2_with (fail)
      refine (rcos_calls _ _).mono ?_
      rintro e w' ⟨rfl, rfl⟩
      go_wp2_with (fail)
      refine (rsin_calls _ _).mono ?_
      rintro e w' ⟨rfl, rfl⟩
      go_wp2_with (fail)
      refine (cross_eq _ _ _ 0 _ F10.out).mono ?_
      rintro e w7 ⟨rfl, hb⟩
      replace sB := below_step sB hb
      clear hb
      go_wp2_with (fail)
      refine (sane02 _).mono ?_
      rintro e w8 ⟨rfl, hb⟩
      go_wp2_with (fail)
      go_ret
      exact ⟨rfl, below_step sB hb⟩
    · have F11 := Lib.hid (F9.out rfl)
      go_wp2_with (fail)
      refine (in_eq _ _ _ true _ F7.out).mono ?_
      rintro e w9 ⟨rfl, hb⟩
      replace s0 := cellB hb s0
      replace s1 := cellB hb s1
      replace s2 := cellB hb s2
      replace s3 := cellB hb s3
      replace sB := below_step sB hb
      clear hb
      go_wp2_with (fail)
      refine (in_eq _ _ _ false _ F11.out).mono ?_
      rintro e w10 ⟨rfl, hb⟩
      replace s0 := cellB hb s0
      replace s1 := cellB hb s1
      replace s2 := cellB hb s2
      replace s3 := cellB hb s3
      replace sB := below_step sB hb
      clear hb
      go_wp2_with (fail)
      refine (rcos_calls _ _).mono ?_
      rintro e w' ⟨rfl, rfl⟩
      go_wp2_with (fail)
      refine (rsin_calls _ _).mono ?_
      rintro e w' ⟨rfl, rfl⟩
      go_wp2_with (fail)
      refine (cross_eq _ _ _ 0 _ F10.out).mono ?_
      rintro e w7 ⟨rfl, hb⟩
      replace sB := below_step sB hb
      clear hb
      go_wp2_with (fail)
      refine (sane02 _).mono ?_
      rintro e w8 ⟨rfl, hb⟩
      go_wp2_with (fail)
      go_ret
      exact ⟨rfl, below_step sB hb⟩
end Go.Proofs.Ytjmmkphdomiohaa
