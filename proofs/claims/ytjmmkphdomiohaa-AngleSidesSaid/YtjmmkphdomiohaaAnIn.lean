/- In, Cross and Within of package angle: what each call returns. -/
import Derived.Test.YtjmmkphdomiohaaAnArc
import Derived.Test.YtjmmkphdomiohaaSteady
namespace Go.Proofs.Ytjmmkphdomiohaa
open Go.RowKit
theorem valid_eq (f t : Int) (q : Bool) (w : World) (h : An.valid f t = q) :
    Calls Try.prog 32 #[.agg #[.int .i64 f, .int .i64 t]] w fun e w' => e = .returned (.bool q) ∧ Below w.heap.size w w' := by
  subst h; exact valid_calls f t w
theorem valid_of {f t : Int} (h : An.valid f t = true) : 0 ≤ f ∧ f < 3600 ∧ 0 ≤ t ∧ t < 3600 ∧ An.norm (t - f) < 1800 := by
  simpa [An.valid] using h
theorem width_eq (f t q : Int) (w : World) (h : An.norm (wrap64 (t - f)) = q) :
    Calls Try.prog 34 #[.agg #[.int .i64 f, .int .i64 t]] w fun e w' => e = .returned (.int .i64 q) ∧ Below w.heap.size w w' := by
  subst h; exact width_calls f t w
set_option maxHeartbeats 400000 in
theorem in_calls (f t a : Int) (w : World) :
    Calls Try.prog 36 #[.agg #[.int .i64 f, .int .i64 t], .int .i64 a] w fun e w' => e = .returned (.bool (An.inn f t a)) ∧ Below w.heap.size w w' := by
  cases hv : An.valid f t
  · have H := Lib.hid hv
    clear hv
    go_enter Try.func36, Try.ntmps36
    go_wp2_with (fail)
    have hB : Below w.heap.size w (w.alloc (Obj.cells #[Value.int IntKind.i64 f, Value.int IntKind.i64 t] 32)) := (Below.refl _ _).alloc (Nat.le_refl _) _
    refine region_steady (fun w' => w'.cell? ⟨w.heap.size, 0, none⟩ = some (.int .i64 f) ∧ w'.cell? ⟨w.heap.size, 1, none⟩ = some (.int .i64 t) ∧ Below w.heap.size w w') (by kernel_rfl) (by kernel_rfl) (fun _ _ _ _ _ h => h) ⟨by simp, by simp, hB.drew⟩ ?_
    repeat
      first
        | refine wpSteady_skip (by rfl) ?_
        | (apply wpSteady_step
           · rfl
           · rintro w' ⟨s0, s1, s2⟩
             go_simp
             first
               | exact steadyR_value rfl ⟨s0, s1, s2⟩
               | (apply steadyR_enter
                  first
                 | (go_at_call 32; refine (valid_eq _ _ false _ H.out).mono ?_; rintro e w1 ⟨rfl, hb⟩; exact ⟨rfl, cellB hb s0, cellB hb s1, below_step s2 hb⟩)))
      (try simp only [Act.put, List.setIfInBounds_toArray, List.set_cons_zero, List.set_cons_succ])
    refine wpSteady_nil ?_
    rintro wq ⟨s0, s1, s2⟩
    go_wp2_with (fail)
    go_ret
    refine ⟨retb ?_, s2⟩
    rw [An.inn, H.out]; rfl
  · have H := Lib.hid hv
    obtain ⟨h0, h1, h2, h3, h4⟩ := valid_of hv
    obtain ⟨n0, n1⟩ := An.norm_range a
    have E : Hid (wrap64 (t - f) = t - f) := Lib.hid (width_wrap h0 h1 h2 h3)
    have W1 : IntKind.i64.wrap (An.norm a - f) = An.norm a - f := IntWalk.i64_in _ (by omega)
    clear hv
    go_enter Try.func36, Try.ntmps36
    go_wp2_with (fail)
    have hB : Below w.heap.size w (w.alloc (Obj.cells #[Value.int IntKind.i64 f, Value.int IntKind.i64 t] 32)) := (Below.refl _ _).alloc (Nat.le_refl _) _
    refine region_steady (fun w' => w'.cell? ⟨w.heap.size, 0, none⟩ = some (.int .i64 f) ∧ w'.cell? ⟨w.heap.size, 1, none⟩ = some (.int .i64 t) ∧ Below w.heap.size w w') (by kernel_rfl) (by kernel_rfl) (fun _ _ _ _ _ h => h) ⟨by simp, by simp, hB.drew⟩ ?_
    repeat
      first
        | refine wpSteady_skip (by rfl) ?_
        | (apply wpSteady_step
           · rfl
           · rintro w' ⟨s0, s1, s2⟩
             go_simp
             first
               | exact steadyR_value rfl ⟨s0, s1, s2⟩
               | (apply steadyR_enter
                  first
                 | (go_at_call 32; refine (valid_eq _ _ true _ H.out).mono ?_; rintro e w1 ⟨rfl, hb⟩; exact ⟨rfl, cellB hb s0, cellB hb s1, below_step s2 hb⟩)
                 | (go_at_call 15; refine (norm_calls _ _).mono ?_; rintro e w1 ⟨rfl, rfl⟩; exact ⟨rfl, s0, s1, s2⟩)
                 | (go_at_call 34; refine (width_eq _ _ _ _ (by rw [E.out])).mono ?_; rintro e w1 ⟨rfl, hb⟩; exact ⟨rfl, cellB hb s0, cellB hb s1, below_step s2 hb⟩)))
      (try simp only [Act.put, List.setIfInBounds_toArray, List.set_cons_zero, List.set_cons_succ])
    refine wpSteady_nil ?_
    rintro wq ⟨s0, s1, s2⟩
    go_wp2_with (fail)
    go_ret
    refine ⟨retb ?_, s2⟩
    rw [An.inn, H.out]; rfl
theorem fits_cases (x y : Int) : (An.Fits x ∧ An.Fits y) ∨ ¬ (An.Fits x ∧ An.Fits y) := Decidable.em _
set_option maxHeartbeats 400000 in
theorem cross_calls (a x y : Int) (w : World) :
    Calls Try.prog 22 #[.int .i64 a, .int .i64 x, .int .i64 y] w fun e w' => e = .returned (.int .i64 (An.cross a x y)) ∧ Below w.heap.size w w' := by
  rcases fits_cases x y with h | h
  · have H : Hid (An.cross a x y = _) := Lib.hid (show An.cross a x y = An.cos a * y - An.sin a * x by unfold An.cross; rw [if_pos h])
    obtain ⟨hx, hy⟩ := h
    obtain ⟨c0, c1⟩ := An.mul_le (An.cos_range a) hy
    obtain ⟨c2, c3⟩ := An.mul_le (An.sin_range a) hx
    obtain ⟨x0, x1⟩ := hx
    obtain ⟨y0, y1⟩ := hy
    go_enter Try.func22, Try.ntmps22
    go_wp2_with (first
      | (go_at_call 17; refine (cos_calls _ _).mono ?_; rintro e w1 ⟨rfl, hb1⟩)
      | (go_at_call 16; refine (sin_calls _ _).mono ?_; rintro e w2 ⟨rfl, hb2⟩)
      | (go_at_call 62; go_in))
    go_ret
    exact ⟨ret1 H.out.symm, below_step hb1 hb2⟩
  · have H : Hid (An.cross a x y = _) := Lib.hid (show An.cross a x y = 0 by unfold An.cross; rw [if_neg h])
    unfold An.Fits at h
    go_enter Try.func22, Try.ntmps22
    go_wp2_with (first
      | (go_at_call 17; fail)
      | (go_at_call 62; go_in))
    all_goals first | omega | (simp at *; omega) | (go_ret; exact ⟨ret1 H.out.symm, Below.refl _ _⟩)
theorem cross_eq (a x y q : Int) (w : World) (h : An.cross a x y = q) :
    Calls Try.prog 22 #[.int .i64 a, .int .i64 x, .int .i64 y] w fun e w' => e = .returned (.int .i64 q) ∧ Below w.heap.size w w' := by
  subst h; exact cross_calls a x y w
set_option maxHeartbeats 800000 in
theorem within_calls (f t x y : Int) (w : World) :
    Calls Try.prog 23 #[.agg #[.int .i64 f, .int .i64 t], .int .i64 x, .int .i64 y] w fun e w' => e = .returned (.bool (An.within f t x y)) ∧ Below w.heap.size w w' := by
  by_cases h : An.valid f t = true ∧ ¬ (x = 0 ∧ y = 0) ∧ An.Fits x ∧ An.Fits y
  · obtain ⟨hv, hz, hx, hy⟩ := h
    have HV := Lib.hid hv
    clear hv
    have X0 := hx.1
    have X1 := hx.2
    have Y0 := hy.1
    have Y1 := hy.2
    have hwi : An.within f t x y = decide (0 ≤ An.cross f x y ∧ An.cross t x y ≤ 0 ∧ (0 < An.cross f x y ∨ 0 < An.dot f x y)) := by
      unfold An.within
      rw [HV.out]
      exact decide_eq_decide.2 ⟨fun k => ⟨k.2.2.2.2.1, k.2.2.2.2.2⟩, fun k => ⟨rfl, hz, hx, hy, k⟩⟩
    have HW := Lib.hid hwi
    clear hwi
    obtain ⟨c0, c1⟩ := An.mul_le (An.cos_range f) hx
    obtain ⟨d0, d1⟩ := An.mul_le (An.sin_range f) hy
    clear hx hy
    go_enter Try.func23, Try.ntmps23
    go_upto_region 1 with (fail)
    obtain ⟨W, hW, s0, s1, s2, s3, sB⟩ : ∃ W, ((w.alloc (Obj.cells #[Value.int IntKind.i64 f, Value.int IntKind.i64 t] 32)).alloc (Obj.cells #[Value.int IntKind.i64 x] 3)).alloc (Obj.cells #[Value.int IntKind.i64 y] 3) = W ∧ W.cell? ⟨w.heap.size, 0, none⟩ = some (.int .i64 f) ∧ W.cell? ⟨w.heap.size, 1, none⟩ = some (.int .i64 t) ∧ W.cell? ⟨w.heap.size + 1, 0, none⟩ = some (.int .i64 x) ∧ W.cell? ⟨w.heap.size + 1 + 1, 0, none⟩ = some (.int .i64 y) ∧ Below w.heap.size w W :=
      ⟨_, rfl, by go_simp, by go_simp, by go_simp, by go_simp, ((((Below.refl _ _).alloc (Nat.le_refl _) _).alloc (by simp) _).alloc (by simp; omega) _)⟩
    rw [hW]
    clear hW
    go_cut [29] (fun s wr => s = .bool false ∧ wr.cell? ⟨w.heap.size, 0, none⟩ = some (.int .i64 f) ∧ wr.cell? ⟨w.heap.size, 1, none⟩ = some (.int .i64 t) ∧ wr.cell? ⟨w.heap.size + 1, 0, none⟩ = some (.int .i64 x) ∧ wr.cell? ⟨w.heap.size + 1 + 1, 0, none⟩ = some (.int .i64 y) ∧ Below w.heap.size w wr)
    case first =>
      by_cases hx0 : x = 0
      · subst hx0
        have hy0 : (y == (0 : Int)) = false := by simp; omega
        go_wp2_with (fail)
        refine (valid_eq _ _ true _ HV.out).mono ?_
        rintro e w1 ⟨rfl, hb⟩
        replace s0 := cellB hb s0
        replace s1 := cellB hb s1
        replace s2 := cellB hb s2
        replace s3 := cellB hb s3
        replace sB := below_step sB hb
        clear hb
        go_wp2_with (go_at_call 62; go_in)
        all_goals first | (exfalso; omega) | (go_meet; exact ⟨rfl, s0, s1, s2, s3, sB⟩)
      · have hx1 : (x == (0 : Int)) = false := by simp; omega
        go_wp2_with (fail)
        refine (valid_eq _ _ true _ HV.out).mono ?_
        rintro e w1 ⟨rfl, hb⟩
        replace s0 := cellB hb s0
        replace s1 := cellB hb s1
        replace s2 := cellB hb s2
        replace s3 := cellB hb s3
        replace sB := below_step sB hb
        clear hb
        go_wp2_with (go_at_call 62; go_in)
        all_goals first | (exfalso; omega) | (go_meet; exact ⟨rfl, s0, s1, s2, s3, sB⟩)
    case rest =>
      clear s0 s1 s2 s3 sB W
      obtain ⟨rfl, s0, s1, s2, s3, sB⟩ := hcut
      go_wp2_with (go_at_call 63; go_in)
      refine (cross_calls _ _ _ _).mono ?_
      rintro e w1 ⟨rfl, hb⟩
      replace s0 := cellB hb s0
      replace s1 := cellB hb s1
      replace s2 := cellB hb s2
      replace s3 := cellB hb s3
      replace sB := below_step sB hb
      clear hb
      by_cases k1 : An.cross f x y < 0
      · clear c0 c1 d0 d1
        go_wp2_with (fail)
        go_ret
        exact ⟨retb (by rw [HW.out]; simp; omega), sB⟩
      · by_cases k2 : 0 < An.cross t x y
        · clear c0 c1 d0 d1
          go_wp2_with (go_at_call 63; go_in)
          refine (cross_calls _ _ _ _).mono ?_
          rintro e w2 ⟨rfl, hb⟩
          replace s0 := cellB hb s0
          replace s1 := cellB hb s1
          replace s2 := cellB hb s2
          replace s3 := cellB hb s3
          replace sB := below_step sB hb
          clear hb
          go_wp2_with (fail)
          go_ret
          exact ⟨retb (by rw [HW.out]; simp; omega), sB⟩
        · by_cases k3 : 0 < An.cross f x y
          · clear c0 c1 d0 d1
            have k4 : decide (0 < An.cross f x y) = true := by simpa using k3
            go_wp2_with (go_at_call 63; go_in)
            refine (cross_calls _ _ _ _).mono ?_
            rintro e w2 ⟨rfl, hb⟩
            replace s0 := cellB hb s0
            replace s1 := cellB hb s1
            replace s2 := cellB hb s2
            replace s3 := cellB hb s3
            replace sB := below_step sB hb
            clear hb
            go_wp2_with (fail)
            refine region_steady (fun w' => Below w.heap.size w w') (by kernel_rfl) (by kernel_rfl) (fun _ _ _ _ _ h => h) sB.drew ?_
            repeat
              first
                | refine wpSteady_skip (by rfl) ?_
                | (apply wpSteady_step
                   · rfl
                   · rintro w' s0
                     go_simp
                     first
                       | exact steadyR_value rfl s0)
              (try simp only [Act.put, List.setIfInBounds_toArray, List.set_cons_zero, List.set_cons_succ])
            refine wpSteady_nil ?_
            rintro wq s0
            go_wp2_with (fail)
            go_ret
            exact ⟨retb (by rw [HW.out]; simp; omega), s0⟩
          · have k4 : decide (0 < An.cross f x y) = false := by simp; omega
            go_wp2_with (go_at_call 63; go_in)
            refine (cross_calls _ _ _ _).mono ?_
            rintro e w2 ⟨rfl, hb⟩
            replace s0 := cellB hb s0
            replace s1 := cellB hb s1
            replace s2 := cellB hb s2
            replace s3 := cellB hb s3
            replace sB := below_step sB hb
            clear hb
            go_wp2_with (fail)
            have W1 : IntKind.i64.wrap (An.cos f * x) = An.cos f * x := IntWalk.i64_in _ (by omega)
            have W2 : IntKind.i64.wrap (An.sin f * y) = An.sin f * y := IntWalk.i64_in _ (by omega)
            have W3 : IntKind.i64.wrap (An.cos f * x + An.sin f * y) = An.cos f * x + An.sin f * y := IntWalk.i64_in _ (by omega)
            refine region_steady (fun w' => w'.cell? ⟨w.heap.size, 0, none⟩ = some (.int .i64 f) ∧ w'.cell? ⟨w.heap.size + 1, 0, none⟩ = some (.int .i64 x) ∧ w'.cell? ⟨w.heap.size + 1 + 1, 0, none⟩ = some (.int .i64 y) ∧ Below w.heap.size w w') (by kernel_rfl) (by kernel_rfl) (fun _ _ _ _ _ h => h) ⟨s0, s2, s3, sB.drew⟩ ?_
            repeat
              first
                | refine wpSteady_skip (by rfl) ?_
                | (apply wpSteady_step
                   · rfl
                   · rintro w' ⟨t0, t1, t2, t3⟩
                     go_simp
                     first
                       | exact steadyR_value rfl ⟨t0, t1, t2, t3⟩
                       | (apply steadyR_enter
                          first
                         | (go_at_call 17; refine (cos_calls _ _).mono ?_; rintro e w1 ⟨rfl, hb⟩; exact ⟨rfl, cellB hb t0, cellB hb t1, cellB hb t2, below_step t3 hb⟩)
                         | (go_at_call 16; refine (sin_calls _ _).mono ?_; rintro e w1 ⟨rfl, hb⟩; exact ⟨rfl, cellB hb t0, cellB hb t1, cellB hb t2, below_step t3 hb⟩)))
              (try simp only [Act.put, List.setIfInBounds_toArray, List.set_cons_zero, List.set_cons_succ])
            refine wpSteady_nil ?_
            rintro wq ⟨t0, t1, t2, t3⟩
            go_wp2_with (fail)
            go_ret
            clear W1 W2 W3
            refine ⟨retb ?_, t3⟩
            rw [HW.out]
            unfold An.dot
            generalize An.cos f * x = p at *
            generalize An.sin f * y = q at *
            rw [Bool.eq_iff_iff]
            simp
            omega
  · have H : An.within f t x y = false := by simp only [An.within, decide_eq_false_iff_not]; exact fun k => h ⟨k.1, k.2.1, k.2.2.1, k.2.2.2.1⟩
    have HF := Lib.hid H
    clear H
    have st : ∃ W, ((w.alloc (Obj.cells #[Value.int IntKind.i64 f, Value.int IntKind.i64 t] 32)).alloc (Obj.cells #[Value.int IntKind.i64 x] 3)).alloc (Obj.cells #[Value.int IntKind.i64 y] 3) = W ∧ W.cell? ⟨w.heap.size, 0, none⟩ = some (.int .i64 f) ∧ W.cell? ⟨w.heap.size, 1, none⟩ = some (.int .i64 t) ∧ W.cell? ⟨w.heap.size + 1, 0, none⟩ = some (.int .i64 x) ∧ W.cell? ⟨w.heap.size + 1 + 1, 0, none⟩ = some (.int .i64 y) ∧ Below w.heap.size w W :=
      ⟨_, rfl, by go_simp, by go_simp, by go_simp, by go_simp, ((((Below.refl _ _).alloc (Nat.le_refl _) _).alloc (by simp) _).alloc (by simp; omega) _)⟩
    cases hv : An.valid f t
    · have HV := Lib.hid hv
      clear hv h
      go_enter Try.func23, Try.ntmps23
      go_wp2_with (fail)
      obtain ⟨W, hW, s0, s1, s2, s3, sB⟩ := st
      rw [hW]
      clear hW
      refine (valid_eq _ _ false _ HV.out).mono ?_
      rintro e w1 ⟨rfl, hb⟩
      go_wp2_with (fail)
      go_ret
      exact ⟨retb HF.out.symm, below_step sB hb⟩
    · have HV := Lib.hid hv
      have h' : ¬ ((x ≠ 0 ∨ y ≠ 0) ∧ An.Fits x ∧ An.Fits y) := fun k => h ⟨hv, by omega, k.2⟩
      clear hv h
      unfold An.Fits at h'
      by_cases hx0 : x = 0
      · subst hx0
        go_enter Try.func23, Try.ntmps23
        go_wp2_with (fail)
        obtain ⟨W, hW, s0, s1, s2, s3, sB⟩ := st
        rw [hW]
        clear hW
        refine (valid_eq _ _ true _ HV.out).mono ?_
        rintro e w1 ⟨rfl, hb⟩
        replace s2 := cellB hb s2
        replace s3 := cellB hb s3
        go_wp2_with (go_at_call 62; go_in)
        all_goals first | (exfalso; omega) | (exfalso; simp at *; omega) | (go_ret; exact ⟨retb HF.out.symm, below_step sB hb⟩)
      · have hx1 : (x == (0 : Int)) = false := by simp; omega
        go_enter Try.func23, Try.ntmps23
        go_wp2_with (fail)
        obtain ⟨W, hW, s0, s1, s2, s3, sB⟩ := st
        rw [hW]
        clear hW
        refine (valid_eq _ _ true _ HV.out).mono ?_
        rintro e w1 ⟨rfl, hb⟩
        replace s2 := cellB hb s2
        replace s3 := cellB hb s3
        go_wp2_with (go_at_call 62; go_in)
        all_goals first | (exfalso; omega) | (exfalso; simp at *; omega) | (go_ret; exact ⟨retb HF.out.symm, below_step sB hb⟩)
end Go.Proofs.Ytjmmkphdomiohaa
