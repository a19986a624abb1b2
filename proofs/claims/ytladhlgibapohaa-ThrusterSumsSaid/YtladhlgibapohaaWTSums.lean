/- ThrusterSums. -/
import Derived.Test.YtladhlgibapohaaSum
import Derived.Test.YtladhlgibapohaaSane12
set_option linter.unusedVariables false
set_option linter.unusedSimpArgs false
namespace Go.Proofs.Ytladhlgibapohaa
open Go.RowKit Fx
noncomputable def tsM : Models := Models.on srcShip_K.f (srcShip_T.run srcSM 20) (Models.on srcThs_K.f (srcThs_T.run srcM12 20) (Models.on tTotal_K.f (tTotal_T.run ttM 20) (Models.on tMoment_K.f (tMoment_T.run tmoM 0) (Models.on sane12_K.f (fun _ => some [.b true]) noM))))
theorem src_take15 {rows : List (List D)} : SrcOk (rows.take (min (min (rows.length : Int) 9223372036854775807) 600).toNat) 0 := ⟨by omega, by omega, by rw [List.length_take]; omega⟩
/-- thrusts that are all turned round -/
def Neg (fs gs : List (List D)) : Prop := ∀ i : Nat, i < gs.length → ((D.l gs).cell i 0).int = 0 - ((D.l fs).cell i 0).int ∧ ((D.l gs).cell i 1).int = 0 - ((D.l fs).cell i 1).int
theorem neg_sums {ts fs gs : List (List D)} (h : Neg fs gs) : ∀ k : Nat, k ≤ gs.length → sx gs k = 0 - sx fs k ∧ sb ts gs k = 0 - sb ts fs k ∧ ss ts gs k = 0 - ss ts fs k
  | 0, _ => by simp [sx, sb, ss]
  | k + 1, hk => by
    obtain ⟨h1, h2, h3⟩ := neg_sums (ts := ts) h k (by omega)
    obtain ⟨a, b⟩ := h k (by omega)
    simp only [sx, sb, ss]
    split <;> omega
theorem ThrusterSums_ok : ConOk Try.prog tSums_K fun ds => match ds with | [.l _] => some [.b true] | _ => none :=
  con_of follows (M := tsM) (one_con (srcShip_ok.to _) (one_con (srcThs_ok.to _) (one_con (tTotal_ok.to _) (one_con (tMoment_ok.to _) (one_con (sane12_ok.to _) no_cons))))) tSums_t fun ds outs hl h => by
    split at h
    · rename_i rows
      injection h with h
      subst h
      refine ⟨fun i l h k => by simp [tSums_K] at k, 20, ?_⟩
      unfold tSums_T
      refine To.need (by simp only [X.den, X.dens, X.denss, D.int_i, D.boo_b, D.str_s, D.rows_l, List.getD_cons_zero, List.getD_cons_succ, List.cons_append, List.nil_append, List.append_nil, List.length_cons, List.length_nil, decide_eq_true_eq, decide_eq_false_iff_not, Bool.not_eq_true', Bool.not_eq_false', Bool.and_eq_true, Bool.and_eq_false_iff, Bool.true_eq_false, Bool.false_eq_true, Bool.not_true, Bool.not_false, eq_self, D.len_l]; omega) ?_
      refine To.viaK (by (try simp (disch := omega) only [X.den, X.dens, X.denss, D.int_i, D.boo_b, D.str_s, D.rows_l, List.getD_cons_zero, List.getD_cons_succ, List.cons_append, List.nil_append, List.append_nil, List.length_cons, List.length_nil, decide_eq_true_eq, decide_eq_false_iff_not, Bool.not_eq_true', Bool.not_eq_false', Bool.and_eq_true, Bool.and_eq_false_iff, Bool.true_eq_false, Bool.false_eq_true, Bool.not_true, Bool.not_false, eq_self, D.len_l, wr64, not_true_eq_false, not_false_eq_true]); exact srcShip_to src_take15 (by omega) (by omega)) ?_
      rintro _ ρ2 ⟨bow, stern, ts, t1, rfl, hb, hs, hn, ht, h1⟩ eρ
      refine ⟨rfl, ?_⟩
      simp only [List.cons_append, List.nil_append] at eρ
      subst eρ
      refine To.viaK (by (try simp (disch := omega) only [X.den, X.dens, X.denss, D.int_i, D.boo_b, D.str_s, D.rows_l, List.getD_cons_zero, List.getD_cons_succ, List.cons_append, List.nil_append, List.append_nil, List.length_cons, List.length_nil, decide_eq_true_eq, decide_eq_false_iff_not, Bool.not_eq_true', Bool.not_eq_false', Bool.and_eq_true, Bool.and_eq_false_iff, Bool.true_eq_false, Bool.false_eq_true, Bool.not_true, Bool.not_false, eq_self, D.len_l, wr64, not_true_eq_false, not_false_eq_true]); exact srcThs_to h1 (by omega)) ?_
      rintro _ ρ2 ⟨fs, t2, rfl, hl, hf, h2⟩ eρ
      refine ⟨rfl, ?_⟩
      simp only [List.cons_append, List.nil_append] at eρ
      subst eρ
      refine To.loopK (fun m l => ∃ (gs : List (List D)) (i : Nat), l = [.l gs, .i (sx fs i), .i (sb ts fs i + ss ts fs i), .i (sb ts fs i * bow - ss ts fs i * stern), .i i] ∧ i + m = fs.length ∧ gs.length = i ∧ Neg fs gs ∧ ∀ r ∈ gs, TsRow r)
        (fun l => ∃ gs : List (List D), l = [.l gs, .i (sx fs fs.length), .i (sb ts fs fs.length + ss ts fs fs.length), .i (sb ts fs fs.length * bow - ss ts fs fs.length * stern)] ∧ gs.length = fs.length ∧ Neg fs gs ∧ ∀ r ∈ gs, TsRow r) fs.length (by omega) ?_ ?_ ?_
      · exact ⟨[], 0, by simp only [X.den, X.dens, X.denss, D.int_i, D.boo_b, D.str_s, D.rows_l, List.getD_cons_zero, List.getD_cons_succ, List.cons_append, List.nil_append, List.append_nil, List.length_cons, List.length_nil, sx, sb, ss]; simp, by omega, rfl, fun i h => by simp at h, by simp⟩
      · rintro m l ρ2 ⟨gs, i, rfl, i1, i2, hg, hr⟩ eρ
        simp only [List.cons_append, List.nil_append] at eρ
        subst eρ
        obtain ⟨r1, r2, r3⟩ := sums_rng (ts := ts) hf i (by omega)
        have q1 := prod_rng (b := sb ts fs i) (B := 160) hb.1 hb.2 (by omega) (by omega) (by decide)
        have q2 := prod_rng (b := ss ts fs i) (B := 160) (show 0 ≤ stern by omega) hs.2 (by omega) (by omega) (by decide)
        rw [Int.mul_comm bow] at q1; rw [Int.mul_comm stern] at q2
        refine To.ite (fun c => ?_) (fun c => ?_) <;> simp only [X.den, X.dens, X.denss, D.int_i, D.boo_b, D.str_s, D.rows_l, List.getD_cons_zero, List.getD_cons_succ, List.cons_append, List.nil_append, List.append_nil, List.length_cons, List.length_nil, decide_eq_true_eq, decide_eq_false_iff_not, Bool.not_eq_true', Bool.not_eq_false', Bool.and_eq_true, Bool.and_eq_false_iff, Bool.true_eq_false, Bool.false_eq_true, Bool.not_true, Bool.not_false, eq_self, D.len_l] at c
        · refine To.need (by simp only [X.den, X.dens, X.denss, D.int_i, D.boo_b, D.str_s, D.rows_l, List.getD_cons_zero, List.getD_cons_succ, List.cons_append, List.nil_append, List.append_nil, List.length_cons, List.length_nil, decide_eq_true_eq, decide_eq_false_iff_not, Bool.not_eq_true', Bool.not_eq_false', Bool.and_eq_true, Bool.and_eq_false_iff, Bool.true_eq_false, Bool.false_eq_true, Bool.not_true, Bool.not_false, eq_self, D.len_l]; omega) ?_
          refine To.need (by simp only [X.den, X.dens, X.denss, D.int_i, D.boo_b, D.str_s, D.rows_l, List.getD_cons_zero, List.getD_cons_succ, List.cons_append, List.nil_append, List.append_nil, List.length_cons, List.length_nil, decide_eq_true_eq, decide_eq_false_iff_not, Bool.not_eq_true', Bool.not_eq_false', Bool.and_eq_true, Bool.and_eq_false_iff, Bool.true_eq_false, Bool.false_eq_true, Bool.not_true, Bool.not_false, eq_self, D.len_l]; omega) ?_
          obtain ⟨k, st, mx, rt, co, arcs, c0, c1, c2, c3, c4, c5, th⟩ := th_cell ht (show i < ts.length by omega)
          obtain ⟨x, y, d0, d1, hx, hy⟩ := ts_cell hf (show i < fs.length by omega)
          have hst := th.2.1
          have q3 := prod_rng (b := y) (B := 20) hb.1 hb.2 (by omega) (by omega) (by decide)
          have q4 := prod_rng (b := y) (B := 20) (show 0 ≤ stern by omega) hs.2 (by omega) (by omega) (by decide)
          have e4 : (0 - stern) * y = -(stern * y) := by rw [Int.zero_sub, Int.neg_mul]
          have step : Neg fs (gs ++ [[.i (0 - x), .i (0 - y)]]) := by
            intro j hj
            rw [List.length_append, List.length_singleton] at hj
            rcases (by omega : j < gs.length ∨ j = gs.length) with q | rfl
            · rw [cell_lt q, cell_lt q]; exact hg j q
            · rw [cell_eq, cell_eq, i2, d0, d1]; exact ⟨rfl, rfl⟩
          have rows' : ∀ r ∈ gs ++ [[.i (0 - x), .i (0 - y)]], TsRow r := by
            intro r h
            rcases List.mem_append.1 h with h | h
            · exact hr r h
            · rw [List.mem_singleton] at h
              exact ⟨_, _, h, by omega, by omega, by omega⟩
          refine To.subK (fun K hK => ?_)
          refine To.need (by simp only [X.den, X.dens, X.denss, D.int_i, D.boo_b, D.str_s, D.rows_l, List.getD_cons_zero, List.getD_cons_succ, List.cons_append, List.nil_append, List.append_nil, List.length_cons, List.length_nil, decide_eq_true_eq, decide_eq_false_iff_not, Bool.not_eq_true', Bool.not_eq_false', Bool.and_eq_true, Bool.and_eq_false_iff, Bool.true_eq_false, Bool.false_eq_true, Bool.not_true, Bool.not_false, eq_self, D.len_l]; omega) ?_
          refine To.ite (fun c2 => ?_) (fun c2 => ?_) <;> simp only [X.den, X.dens, X.denss, D.int_i, D.boo_b, D.str_s, D.rows_l, List.getD_cons_zero, List.getD_cons_succ, List.cons_append, List.nil_append, List.append_nil, List.length_cons, List.length_nil, decide_eq_true_eq, decide_eq_false_iff_not, Bool.not_eq_true', Bool.not_eq_false', Bool.and_eq_true, Bool.and_eq_false_iff, Bool.true_eq_false, Bool.false_eq_true, Bool.not_true, Bool.not_false, eq_self, c1] at c2
          · refine To.ret ⟨rfl, ?_⟩
            simp (disch := omega) only [X.den, X.dens, X.denss, D.int_i, D.boo_b, D.str_s, D.rows_l, List.getD_cons_zero, List.getD_cons_succ, List.cons_append, List.nil_append, List.append_nil, List.length_cons, List.length_nil, wr64]
            refine hK _ _ (by simp only [List.cons_append, List.nil_append]; first | done | rfl) ?_
            refine To.ret (.inl ⟨rfl, m - 1, by omega, gs ++ [[.i (0 - x), .i (0 - y)]], i + 1, ?_, by omega, by rw [List.length_append, i2]; rfl, step, rows'⟩)
            simp (disch := omega) only [X.den, X.dens, X.denss, D.int_i, D.boo_b, D.str_s, D.rows_l, List.getD_cons_zero, List.getD_cons_succ, List.cons_append, List.nil_append, List.append_nil, List.length_cons, List.length_nil, wr64, d0, d1, e4, sx, sb, ss, c1, if_neg (show ¬ st = 0 by omega), Int.add_zero]
            have e5 : (ss ts fs i + y) * stern = ss ts fs i * stern + stern * y := by rw [Int.add_mul, Int.mul_comm y]
            simp only [List.cons.injEq, D.i.injEq, and_true, true_and]
            refine ⟨by omega, by omega, by omega⟩
          · refine To.ret ⟨rfl, ?_⟩
            simp (disch := omega) only [X.den, X.dens, X.denss, D.int_i, D.boo_b, D.str_s, D.rows_l, List.getD_cons_zero, List.getD_cons_succ, List.cons_append, List.nil_append, List.append_nil, List.length_cons, List.length_nil, wr64]
            refine hK _ _ (by simp only [List.cons_append, List.nil_append]; first | done | rfl) ?_
            refine To.ret (.inl ⟨rfl, m - 1, by omega, gs ++ [[.i (0 - x), .i (0 - y)]], i + 1, ?_, by omega, by rw [List.length_append, i2]; rfl, step, rows'⟩)
            simp (disch := omega) only [X.den, X.dens, X.denss, D.int_i, D.boo_b, D.str_s, D.rows_l, List.getD_cons_zero, List.getD_cons_succ, List.cons_append, List.nil_append, List.append_nil, List.length_cons, List.length_nil, wr64, d0, d1, sx, sb, ss, c1, if_pos (show st = 0 by omega), Int.add_zero]
            have e5 : (sb ts fs i + y) * bow = sb ts fs i * bow + bow * y := by rw [Int.add_mul, Int.mul_comm y]
            simp only [List.cons.injEq, D.i.injEq, and_true, true_and]
            refine ⟨by omega, by omega, by omega⟩
        · obtain rfl : i = fs.length := by omega
          exact To.ret (.inr ⟨rfl, gs, by simp only [X.den, X.dens, X.denss, D.int_i, D.boo_b, D.str_s, D.rows_l, List.getD_cons_zero, List.getD_cons_succ, List.cons_append, List.nil_append, List.append_nil, List.length_cons, List.length_nil], i2, hg, hr⟩)
      · rintro l ρ2 ⟨gs, rfl, g1, hg, hr⟩ eρ
        simp only [List.cons_append, List.nil_append] at eρ
        subst eρ
        refine ⟨rfl, ?_⟩
        obtain ⟨n1, n2, n3⟩ := neg_sums (ts := ts) hg fs.length (by omega)
        obtain ⟨r1, r2, r3⟩ := sums_rng (ts := ts) hf fs.length (Nat.le_refl _)
        have q1 := prod_rng (b := sb ts fs fs.length) (B := 160) hb.1 hb.2 (by omega) (by omega) (by decide)
        have q2 := prod_rng (b := ss ts fs fs.length) (B := 160) (show 0 ≤ stern by omega) hs.2 (by omega) (by omega) (by decide)
        rw [Int.mul_comm bow] at q1; rw [Int.mul_comm stern] at q2
        refine To.viaK (by (try simp (disch := omega) only [X.den, X.dens, X.denss, D.int_i, D.boo_b, D.str_s, D.rows_l, List.getD_cons_zero, List.getD_cons_succ, List.cons_append, List.nil_append, List.append_nil, List.length_cons, List.length_nil, decide_eq_true_eq, decide_eq_false_iff_not, Bool.not_eq_true', Bool.not_eq_false', Bool.and_eq_true, Bool.and_eq_false_iff, Bool.true_eq_false, Bool.false_eq_true, Bool.not_true, Bool.not_false, eq_self, D.len_l, wr64, not_true_eq_false, not_false_eq_true]); exact tTotal_to hb hs ht (by omega) hf hl) ?_
        rintro _ ρ2 rfl eρ
        refine ⟨rfl, ?_⟩
        simp only [List.cons_append, List.nil_append] at eρ
        subst eρ
        refine To.viaK (by (try simp (disch := omega) only [X.den, X.dens, X.denss, D.int_i, D.boo_b, D.str_s, D.rows_l, List.getD_cons_zero, List.getD_cons_succ, List.cons_append, List.nil_append, List.append_nil, List.length_cons, List.length_nil, decide_eq_true_eq, decide_eq_false_iff_not, Bool.not_eq_true', Bool.not_eq_false', Bool.and_eq_true, Bool.and_eq_false_iff, Bool.true_eq_false, Bool.false_eq_true, Bool.not_true, Bool.not_false, eq_self, D.len_l, wr64, not_true_eq_false, not_false_eq_true]); exact tMoment_to hb hs ht (by omega) hf hl) ?_
        rintro _ ρ2 rfl eρ
        refine ⟨rfl, ?_⟩
        simp only [List.cons_append, List.nil_append] at eρ
        subst eρ
        refine To.viaK (by (try simp (disch := omega) only [X.den, X.dens, X.denss, D.int_i, D.boo_b, D.str_s, D.rows_l, List.getD_cons_zero, List.getD_cons_succ, List.cons_append, List.nil_append, List.append_nil, List.length_cons, List.length_nil, decide_eq_true_eq, decide_eq_false_iff_not, Bool.not_eq_true', Bool.not_eq_false', Bool.and_eq_true, Bool.and_eq_false_iff, Bool.true_eq_false, Bool.false_eq_true, Bool.not_true, Bool.not_false, eq_self, D.len_l, wr64, not_true_eq_false, not_false_eq_true]); exact tMoment_to hb hs ht (by omega) hr (by omega)) ?_
        rintro _ ρ2 rfl eρ
        refine ⟨rfl, ?_⟩
        simp only [List.cons_append, List.nil_append] at eρ
        subst eρ
        rw [g1, n1, n2, n3]
        have e1 : (0 - sb ts fs fs.length) * bow = -(sb ts fs fs.length * bow) := by rw [Int.zero_sub, Int.neg_mul]
        have e2 : (0 - ss ts fs fs.length) * stern = -(ss ts fs fs.length * stern) := by rw [Int.zero_sub, Int.neg_mul]
        rw [e1, e2]
        generalize sb ts fs fs.length * bow = u at *
        generalize ss ts fs fs.length * stern = v at *
        refine To.subK (fun K hK => ?_)
        refine To.yes rfl (To.yes rfl (To.yes rfl ?_))
        refine To.yes (by simp only [X.den, X.dens, X.denss, D.int_i, D.boo_b, D.str_s, D.rows_l, List.getD_cons_zero, List.getD_cons_succ, List.cons_append, List.nil_append, List.append_nil, List.length_cons, List.length_nil]; simp) ?_
        refine To.yes (by simp (disch := omega) only [X.den, X.dens, X.denss, D.int_i, D.boo_b, D.str_s, D.rows_l, List.getD_cons_zero, List.getD_cons_succ, List.cons_append, List.nil_append, List.append_nil, List.length_cons, List.length_nil, decide_eq_true_eq, decide_eq_false_iff_not, Bool.not_eq_true', Bool.not_eq_false', Bool.and_eq_true, Bool.and_eq_false_iff, Bool.true_eq_false, Bool.false_eq_true, Bool.not_true, Bool.not_false, eq_self, wr64]; exact ⟨trivial, by omega, by omega⟩) ?_
        refine To.yes (by simp only [X.den, X.dens, X.denss, D.int_i, D.boo_b, D.str_s, D.rows_l, List.getD_cons_zero, List.getD_cons_succ, List.cons_append, List.nil_append, List.append_nil, List.length_cons, List.length_nil]; simp) ?_
        refine To.yes (by simp (disch := omega) only [X.den, X.dens, X.denss, D.int_i, D.boo_b, D.str_s, D.rows_l, List.getD_cons_zero, List.getD_cons_succ, List.cons_append, List.nil_append, List.append_nil, List.length_cons, List.length_nil, decide_eq_true_eq, decide_eq_false_iff_not, Bool.not_eq_true', Bool.not_eq_false', Bool.and_eq_true, Bool.and_eq_false_iff, Bool.true_eq_false, Bool.false_eq_true, Bool.not_true, Bool.not_false, eq_self, wr64]) ?_
        refine To.callK (l := [.b true]) rfl rfl _ (by simp only [List.cons_append, List.nil_append]; first | done | rfl) ?_
        refine To.ret ⟨rfl, hK _ _ (by simp only [X.den, X.dens, X.denss, D.int_i, D.boo_b, D.str_s, D.rows_l, List.getD_cons_zero, List.getD_cons_succ, List.cons_append, List.nil_append, List.append_nil, List.length_cons, List.length_nil]; rfl) ?_⟩
        refine To.ret ?_
        simp only [X.den, X.dens, X.denss, D.int_i, D.boo_b, D.str_s, D.rows_l, List.getD_cons_zero, List.getD_cons_succ, List.cons_append, List.nil_append, List.append_nil, List.length_cons, List.length_nil]
    · cases h
theorem ThrusterSums_walk {w : World} (v : Value) (zs : List Int) (h : IntsIn w w.heap.size v .i64 zs) (hz : ∀ z ∈ zs, (Lit.int .i64 z).wf = true) : Calls Try.prog 9 #[v] w fun e w' => e = .returned (.bool true) ∧ Below w.heap.size w w' :=
  con_law ThrusterSums_ok rfl (fun G hG => args_ints h hG (by trivial)) (by simp [tSums_K]) (ds := [numD zs]) rfl
end Go.Proofs.Ytladhlgibapohaa
