/- Balance: the source, numbers that are compared, the example, what the laws say of shares. -/
import Derived.Test.YtlhnhidoljfnnaaBaB
set_option linter.unusedVariables false
set_option linter.unusedSimpArgs false
namespace Go.Proofs.Ytlhnhidoljfnnaa
open Go.RowKit Fx Sh
/-- rows of the source: one number each, from 1 to 100 -/
def RtRow (r : List D) : Prop := ∃ a : Int, r = [.i a] ∧ 1 ≤ a ∧ a ≤ 100
theorem rt_ok {l : List (List D)} (h : ∀ r ∈ l, RtRow r) {i : Int} (i0 : 0 ≤ i) (i1 : i < l.length) : 1 ≤ nf l i ∧ nf l i ≤ 100 := by
  have hm : l.getD i.toNat [] ∈ l := by
    rw [List.getD_eq_getElem?_getD, List.getElem?_eq_getElem (by omega), Option.getD_some]
    exact List.getElem_mem _
  obtain ⟨a, e, a0, a1⟩ := h _ hm
  have : nf l i = a := by unfold nf; rw [cell_of, e]; rfl
  omega
theorem rt_pick {r : Int} (h0 : 0 ≤ r) (h1 : r < 5) : ∃ z : Int, (D.l [[.i 1], [.i 3], [.i 10], [.i 50], [.i 100]]).cell r 0 = .i z ∧ 1 ≤ z ∧ z ≤ 100 := by
  obtain ⟨a, ha, ea⟩ := pick_cell (zs := [1, 3, 10, 50, 100]) h0 h1
  refine ⟨a, ea, ?_⟩
  simp only [List.mem_cons, List.not_mem_nil, or_false] at ha
  omega
def srM : Models := Models.on srcN_K.f (srcN_T.run noM 0) noM
theorem rat_to {rows : List (List D)} {at_ : Int} (h : SrcOk rows at_) : ∃ o, baRat_T.run srM 30 [.l rows, .i at_] = some o ∧ ∃ l at', o = [.l l, .l rows, .i at'] ∧ l.length ≤ 5 ∧ (∀ r ∈ l, RtRow r) ∧ SrcOk rows at' := by
  refine run_to ?_
  unfold baRat_T
  refine To.viaK (by (try simp (disch := omega) only [X.den, X.dens, X.denss, D.int_i, D.boo_b, D.str_s, D.rows_l, List.getD_cons_zero, List.getD_cons_succ, List.cons_append, List.nil_append, List.append_nil, List.length_cons, List.length_nil, decide_eq_true_eq, decide_eq_false_iff_not, Bool.not_eq_true', Bool.not_eq_false', Bool.and_eq_true, Bool.and_eq_false_iff, Bool.true_eq_false, Bool.false_eq_true, Bool.not_true, Bool.not_false, eq_self, D.len_l, wr64, not_true_eq_false, not_false_eq_true]); exact srcN_to h (by omega) (by omega)) ?_
  rintro _ ρ2 ⟨r, t1, rfl, p, q, h1⟩ eρ
  refine ⟨rfl, ?_⟩
  simp only [List.cons_append, List.nil_append] at eρ
  subst eρ
  refine To.loopK (fun m o => ∃ l at_ k, o = [.l l, .l rows, .i at_, .i k] ∧ SrcOk rows at_ ∧ k = m ∧ k + l.length ≤ 5 ∧ ∀ r ∈ l, RtRow r) (fun o => ∃ l at_, o = [.l l, .l rows, .i at_] ∧ SrcOk rows at_ ∧ (l.length : Int) ≤ 5 ∧ ∀ r ∈ l, RtRow r) r.toNat (by omega) ?_ ?_ ?_
  · exact ⟨[], t1, r, by simp only [X.den, X.dens, X.denss, D.int_i, D.boo_b, D.str_s, D.rows_l, List.getD_cons_zero, List.getD_cons_succ, List.cons_append, List.nil_append, List.append_nil, List.length_cons, List.length_nil, X.denss], h1, by omega, by simp; omega, by simp⟩
  · rintro m o ρ2 ⟨l, a, k, rfl, hs, hk, hn, hf⟩ eρ
    simp only [List.cons_append, List.nil_append] at eρ
    subst eρ
    refine To.ite (fun c => ?_) (fun c => ?_) <;> simp only [X.den, X.dens, X.denss, D.int_i, D.boo_b, D.str_s, D.rows_l, List.getD_cons_zero, List.getD_cons_succ, List.cons_append, List.nil_append, List.append_nil, List.length_cons, List.length_nil, decide_eq_true_eq, decide_eq_false_iff_not, Bool.not_eq_true', Bool.not_eq_false', Bool.and_eq_true, Bool.and_eq_false_iff, Bool.true_eq_false, Bool.false_eq_true, Bool.not_true, Bool.not_false, eq_self] at c
    · refine To.viaK (by (try simp (disch := omega) only [X.den, X.dens, X.denss, D.int_i, D.boo_b, D.str_s, D.rows_l, List.getD_cons_zero, List.getD_cons_succ, List.cons_append, List.nil_append, List.append_nil, List.length_cons, List.length_nil, decide_eq_true_eq, decide_eq_false_iff_not, Bool.not_eq_true', Bool.not_eq_false', Bool.and_eq_true, Bool.and_eq_false_iff, Bool.true_eq_false, Bool.false_eq_true, Bool.not_true, Bool.not_false, eq_self, D.len_l, wr64, not_true_eq_false, not_false_eq_true]); exact srcN_to hs (by omega) (by omega)) ?_
      rintro _ ρ2 ⟨r1, t1, rfl, p1, q1, h1⟩ eρ
      refine ⟨rfl, ?_⟩
      simp only [List.cons_append, List.nil_append] at eρ
      subst eρ
      refine To.need (by simp only [X.den, X.dens, X.denss, D.int_i, D.boo_b, D.str_s, D.rows_l, List.getD_cons_zero, List.getD_cons_succ, List.cons_append, List.nil_append, List.append_nil, List.length_cons, List.length_nil, decide_eq_true_eq, decide_eq_false_iff_not, Bool.not_eq_true', Bool.not_eq_false', Bool.and_eq_true, Bool.and_eq_false_iff, Bool.true_eq_false, Bool.false_eq_true, Bool.not_true, Bool.not_false, eq_self]; omega) ?_
      refine To.need (by simp only [X.den, X.dens, X.denss, D.int_i, D.boo_b, D.str_s, D.rows_l, List.getD_cons_zero, List.getD_cons_succ, List.cons_append, List.nil_append, List.append_nil, List.length_cons, List.length_nil, decide_eq_true_eq, decide_eq_false_iff_not, Bool.not_eq_true', Bool.not_eq_false', Bool.and_eq_true, Bool.and_eq_false_iff, Bool.true_eq_false, Bool.false_eq_true, Bool.not_true, Bool.not_false, eq_self, D.len_l]; omega) ?_
      obtain ⟨z, ez, z0, z1⟩ := rt_pick p1 q1
      refine To.ret (.inl ⟨rfl, m - 1, by omega, ?_⟩)
      simp (disch := omega) only [X.den, X.dens, X.denss, D.int_i, D.boo_b, D.str_s, D.rows_l, List.getD_cons_zero, List.getD_cons_succ, List.cons_append, List.nil_append, List.append_nil, List.length_cons, List.length_nil, X.denss, wr64, ez]
      refine ⟨_, _, _, rfl, h1, by omega, by rw [List.length_append]; simp only [List.length_cons, List.length_nil]; omega, ?_⟩
      intro r hr
      rcases List.mem_append.1 hr with hr | hr
      · exact hf r hr
      · rw [List.mem_singleton] at hr
        exact ⟨_, hr, z0, z1⟩
    · exact To.ret (.inr ⟨rfl, l, a, by simp only [X.den, X.dens, X.denss, D.int_i, D.boo_b, D.str_s, D.rows_l, List.getD_cons_zero, List.getD_cons_succ, List.cons_append, List.nil_append, List.append_nil, List.length_cons, List.length_nil], hs, by omega, hf⟩)
  · rintro o ρ2 ⟨l, a, rfl, hs, hn, hf⟩ eρ
    simp only [List.cons_append, List.nil_append] at eρ
    subst eρ
    refine ⟨rfl, To.ret ?_⟩
    simp only [X.den, X.dens, X.denss, D.int_i, D.boo_b, D.str_s, D.rows_l, List.getD_cons_zero, List.getD_cons_succ, List.cons_append, List.nil_append, List.append_nil, List.length_cons, List.length_nil]
    exact ⟨_, _, rfl, by omega, hf, hs⟩
theorem baRat_ok : ConOk Try.prog baRat_K (baRat_T.run srM 30) := con_run follows (one_con (srcN_ok.to _) no_cons) baRat_t rfl 30
/-- the same numbers -/
def SameN (x y : List (List D)) : Prop := x.length = y.length ∧ ∀ i : Int, 0 ≤ i → i < x.length → nf x i = nf y i
open Classical in
noncomputable def sameN (x y : List (List D)) : Bool := decide (SameN x y)
theorem sameN_true {x y} : sameN x y = true ↔ SameN x y := by simp only [sameN, decide_eq_true_eq]
theorem ints_gen {x y : List (List D)} (hx : x.length ≤ 20) : ∃ o, baInts_T.run noM 30 [.l x, .l y] = some o ∧ o = [.b (sameN x y)] := by
  refine run_to ?_
  unfold baInts_T
  refine To.ite (fun c => ?_) (fun c => ?_) <;> simp only [X.den, X.dens, X.denss, D.int_i, D.boo_b, D.str_s, D.rows_l, List.getD_cons_zero, List.getD_cons_succ, List.cons_append, List.nil_append, List.append_nil, List.length_cons, List.length_nil, decide_eq_true_eq, decide_eq_false_iff_not, Bool.not_eq_true', Bool.not_eq_false', Bool.and_eq_true, Bool.and_eq_false_iff, Bool.true_eq_false, Bool.false_eq_true, Bool.not_true, Bool.not_false, eq_self, D.len_l] at c
  · refine To.loopK (fun m o => ∃ i, o = [.i i] ∧ 0 ≤ i ∧ i + m = x.length ∧ ∀ j : Int, 0 ≤ j → j < i → nf x j = nf y j) (fun o => (o = [.i 0] ∧ sameN x y = false) ∨ (o = [.i 1] ∧ sameN x y = true)) x.length (by omega) ?_ ?_ ?_
    · exact ⟨0, by simp only [X.den, X.dens, X.denss, D.int_i, D.boo_b, D.str_s, D.rows_l, List.getD_cons_zero, List.getD_cons_succ, List.cons_append, List.nil_append, List.append_nil, List.length_cons, List.length_nil], by omega, by omega, by intro j; omega⟩
    · rintro m o ρ2 ⟨i, rfl, i0, i1, hj⟩ eρ
      simp only [List.cons_append, List.nil_append] at eρ
      subst eρ
      refine To.ite (fun c => ?_) (fun c => ?_) <;> simp only [X.den, X.dens, X.denss, D.int_i, D.boo_b, D.str_s, D.rows_l, List.getD_cons_zero, List.getD_cons_succ, List.cons_append, List.nil_append, List.append_nil, List.length_cons, List.length_nil, decide_eq_true_eq, decide_eq_false_iff_not, Bool.not_eq_true', Bool.not_eq_false', Bool.and_eq_true, Bool.and_eq_false_iff, Bool.true_eq_false, Bool.false_eq_true, Bool.not_true, Bool.not_false, eq_self, D.len_l] at c
      · refine To.need (by simp only [X.den, X.dens, X.denss, D.int_i, D.boo_b, D.str_s, D.rows_l, List.getD_cons_zero, List.getD_cons_succ, List.cons_append, List.nil_append, List.append_nil, List.length_cons, List.length_nil, decide_eq_true_eq, decide_eq_false_iff_not, Bool.not_eq_true', Bool.not_eq_false', Bool.and_eq_true, Bool.and_eq_false_iff, Bool.true_eq_false, Bool.false_eq_true, Bool.not_true, Bool.not_false, eq_self, D.len_l]; omega) ?_
        refine To.need (by simp only [X.den, X.dens, X.denss, D.int_i, D.boo_b, D.str_s, D.rows_l, List.getD_cons_zero, List.getD_cons_succ, List.cons_append, List.nil_append, List.append_nil, List.length_cons, List.length_nil, decide_eq_true_eq, decide_eq_false_iff_not, Bool.not_eq_true', Bool.not_eq_false', Bool.and_eq_true, Bool.and_eq_false_iff, Bool.true_eq_false, Bool.false_eq_true, Bool.not_true, Bool.not_false, eq_self, D.len_l]; omega) ?_
        refine To.ite (fun ct => ?_) (fun ct => ?_) <;> simp only [X.den, X.dens, X.denss, D.int_i, D.boo_b, D.str_s, D.rows_l, List.getD_cons_zero, List.getD_cons_succ, List.cons_append, List.nil_append, List.append_nil, List.length_cons, List.length_nil, decide_eq_true_eq, decide_eq_false_iff_not, Bool.not_eq_true', Bool.not_eq_false', Bool.and_eq_true, Bool.and_eq_false_iff, Bool.true_eq_false, Bool.false_eq_true, Bool.not_true, Bool.not_false, eq_self, nf_def] at ct
        · refine To.ret (.inl ⟨rfl, m - 1, by omega, ?_⟩)
          simp (disch := omega) only [X.den, X.dens, X.denss, D.int_i, D.boo_b, D.str_s, D.rows_l, List.getD_cons_zero, List.getD_cons_succ, List.cons_append, List.nil_append, List.append_nil, List.length_cons, List.length_nil, wr64]
          refine ⟨_, rfl, by omega, by omega, fun j j0 j1 => ?_⟩
          by_cases e : j = i
          · subst e; exact ct
          · exact hj j j0 (by omega)
        · exact To.ret (.inr ⟨rfl, .inl ⟨by simp only [X.den, X.dens, X.denss, D.int_i, D.boo_b, D.str_s, D.rows_l, List.getD_cons_zero, List.getD_cons_succ, List.cons_append, List.nil_append, List.append_nil, List.length_cons, List.length_nil], Bool.eq_false_iff.2 fun q => ct ((sameN_true.1 q).2 i i0 (by omega))⟩⟩)
      · exact To.ret (.inr ⟨rfl, .inr ⟨by simp only [X.den, X.dens, X.denss, D.int_i, D.boo_b, D.str_s, D.rows_l, List.getD_cons_zero, List.getD_cons_succ, List.cons_append, List.nil_append, List.append_nil, List.length_cons, List.length_nil], sameN_true.2 ⟨by omega, fun j j0 j1 => hj j j0 (by omega)⟩⟩⟩)
    · rintro o ρ2 (⟨rfl, h⟩ | ⟨rfl, h⟩) eρ
      · simp only [List.cons_append, List.nil_append] at eρ
        subst eρ
        refine ⟨rfl, To.yes rfl (To.ret ?_)⟩
        simp only [X.den, X.dens, X.denss, D.int_i, D.boo_b, D.str_s, D.rows_l, List.getD_cons_zero, List.getD_cons_succ, List.cons_append, List.nil_append, List.append_nil, List.length_cons, List.length_nil, h]
      · simp only [List.cons_append, List.nil_append] at eρ
        subst eρ
        refine ⟨rfl, To.no rfl (To.ret ?_)⟩
        simp only [X.den, X.dens, X.denss, D.int_i, D.boo_b, D.str_s, D.rows_l, List.getD_cons_zero, List.getD_cons_succ, List.cons_append, List.nil_append, List.append_nil, List.length_cons, List.length_nil, h]
  · refine To.ret ?_
    have : sameN x y = false := Bool.eq_false_iff.2 fun q => by have := (sameN_true.1 q).1; omega
    simp only [X.den, X.dens, X.denss, D.int_i, D.boo_b, D.str_s, D.rows_l, List.getD_cons_zero, List.getD_cons_succ, List.cons_append, List.nil_append, List.append_nil, List.length_cons, List.length_nil, this]
theorem baInts_ok : ConOk Try.prog baInts_K (baInts_T.run noM 30) := con_run follows no_cons baInts_t rfl 30
theorem sp_a : baSplit_T.run bsM 30 [.i 1, .l []] = some [.l [], .i 9] := by kernel_rfl
theorem sp_b : baSplit_T.run bsM 30 [.i 0, .l []] = some [.l [], .i 0] := by kernel_rfl
theorem sp_c : baSplit_T.run bsM 30 [.i 10, .l [[.i 2], [.i 2], [.i 2]]] = some [.l [[.i 4], [.i 3], [.i 3]], .i 0] := by kernel_rfl
theorem in_c : baInts_T.run noM 30 [.l [[.i 4], [.i 3], [.i 3]], .l [[.i 4], [.i 3], [.i 3]]] = some [.b true] := by kernel_rfl
theorem ch_c : baCheck_T.run bcM 30 [.i 10, .l [[.i 2], [.i 2], [.i 2]], .l [[.i 4], [.i 3], [.i 3]]] = some [.b true] := by kernel_rfl
def s17M : Models := Models.on baSplit_K.f (baSplit_T.run bsM 30) (Models.on baCheck_K.f (baCheck_T.run bcM 30) (Models.on baInts_K.f (baInts_T.run noM 30) noM))
theorem sane17_ok : ConOk Try.prog sane17_K fun _ => some [.b true] :=
  con_of follows (M := s17M) (one_con (baSplit_ok.to _) (one_con (baCheck_ok.to _) (one_con (baInts_ok.to _) no_cons))) sane17_t fun ds outs hl h => by
    injection h with h
    subst h
    obtain rfl : ds = [] := List.length_eq_zero_iff.1 hl
    refine ⟨fun i l h k => by simp [sane17_K] at k, 30, ?_⟩
    unfold sane17_T
    refine To.call (l := _) sp_c rfl ?_
    simp only [List.cons_append, List.nil_append]
    refine To.join (fun l => l = [.b true]) ?_ ?_
    · refine To.yes rfl ?_
      refine To.call (l := _) in_c rfl ?_
      simp only [List.cons_append, List.nil_append]
      refine To.yes rfl ?_
      refine To.call (l := _) ch_c rfl ?_
      simp only [List.cons_append, List.nil_append]
      exact To.ret ⟨rfl, rfl⟩
    rintro l rfl
    exact To.ret rfl
theorem src_take17 {rows : List (List D)} : SrcOk (rows.take (min (min (rows.length : Int) 9223372036854775807) 600).toNat) 0 := ⟨by omega, by omega, by rw [List.length_take]; omega⟩
/-- no share is greater than its rating where the total is at most their sum -/
theorem share_le {n : Nat} {r x : Int → Int} {t : Int} (hw : 1 ≤ sumf r n) (h : Split n r t x) (hr : ∀ i : Int, 0 ≤ i → i < n → 1 ≤ r i) (t0 : 0 ≤ t) (ht : t ≤ sumf r n) : ∀ i : Int, 0 ≤ i → i < n → 0 ≤ x i ∧ x i ≤ r i := by
  intro i i0 i1
  have ri := hr i i0 i1
  have q0 : 0 ≤ t * r i / sumf r n := Int.ediv_nonneg (Int.mul_nonneg t0 (by omega)) (by omega)
  have e := Int.mul_ediv_add_emod (t * r i) (sumf r n)
  have m0 := Int.emod_nonneg (t * r i) (show sumf r n ≠ 0 by omega)
  have le := Int.mul_le_mul_of_nonneg_right ht (show 0 ≤ r i by omega)
  rcases h.1 i i0 i1 with q | q
  · rw [q]
    refine ⟨q0, ?_⟩
    apply Int.not_lt.1
    intro lt
    have := Int.mul_le_mul_of_nonneg_left (show r i + 1 ≤ t * r i / sumf r n by omega) (show 0 ≤ sumf r n by omega)
    rw [Int.mul_add] at this
    omega
  · have rest := split_rest hw h i i0 i1 q
    rw [q]
    refine ⟨by omega, ?_⟩
    apply Int.not_lt.1
    intro lt
    have := Int.mul_le_mul_of_nonneg_left (show r i ≤ t * r i / sumf r n by omega) (show 0 ≤ sumf r n by omega)
    omega
theorem share_pos {n : Nat} {r x : Int → Int} {t : Int} (hw : 1 ≤ sumf r n) (h : Split n r t x) (hr : ∀ i : Int, 0 ≤ i → i < n → 1 ≤ r i) (t0 : 0 ≤ t) : ∀ i : Int, 0 ≤ i → i < n → 0 ≤ x i := by
  intro i i0 i1
  have ri := hr i i0 i1
  have q0 : 0 ≤ t * r i / sumf r n := Int.ediv_nonneg (Int.mul_nonneg t0 (by omega)) (by omega)
  rcases h.1 i i0 i1 with q | q <;> omega
theorem share_eq {n : Nat} {r x : Int → Int} {t : Int} (h : Split n r t x) {i k : Int} (i0 : 0 ≤ i) (i1 : i < n) (k0 : 0 ≤ k) (k1 : k < n) (e : r i = r k) : x i - x k ≤ 1 ∧ x k - x i ≤ 1 ∧ (i < k → x k ≤ x i) := by
  have a := h.1 i i0 i1
  have b := h.1 k k0 k1
  rw [e] at a
  refine ⟨by omega, by omega, fun lt => ?_⟩
  apply Int.not_lt.1
  intro q
  have := h.2.2 k i k0 k1 i0 i1 (by omega) (by rw [e]; omega)
  unfold Sh.Ord at this
  simp only [e] at this
  omega
end Go.Proofs.Ytlhnhidoljfnnaa
