/- Balance, in numbers: what Split gives. -/
import Derived.Test.YtlhnhidoljfnnaaBaA
set_option linter.unusedVariables false
set_option linter.unusedSimpArgs false
namespace Go.Proofs.Ytlhnhidoljfnnaa
open Go.RowKit Fx Sh
/-- rows of one number each -/
def OneI (y : List (List D)) : Prop := ∀ r ∈ y, ∃ z : Int, r = [.i z]
def put1 (y : List (List D)) (k v : Int) : List (List D) := y.set k.toNat ((y.getD k.toNat []).set 0 (.i v))
theorem put1_def {y : List (List D)} {k v : Int} : (D.l y).put k 0 (.i v) = .l (put1 y k v) := rfl
theorem put1_len {y : List (List D)} {k v : Int} : (put1 y k v).length = y.length := by simp only [put1, List.length_set]
theorem oneI_at {y : List (List D)} (h : OneI y) {k : Int} (k0 : 0 ≤ k) (k1 : k < y.length) : y.getD k.toNat [] = [.i (nf y k)] := by
  have hk : k.toNat < y.length := by omega
  obtain ⟨z, hz⟩ := h (y.getD k.toNat []) (by rw [List.getD_eq_getElem?_getD, List.getElem?_eq_getElem hk, Option.getD_some]; exact List.getElem_mem _)
  have : nf y k = z := by unfold nf; rw [cell_of, hz]; rfl
  rw [hz, this]
theorem nf_cell {y : List (List D)} (h : OneI y) {k : Int} (k0 : 0 ≤ k) (k1 : k < y.length) : (D.l y).cell k 0 = .i (nf y k) := by
  rw [cell_of, oneI_at h k0 k1]
  rfl
theorem put1_one {y : List (List D)} {k v : Int} (h : OneI y) (k0 : 0 ≤ k) (k1 : k < y.length) : OneI (put1 y k v) := by
  intro r hr
  rcases List.mem_or_eq_of_mem_set hr with h1 | h1
  · exact h r h1
  · rw [oneI_at h k0 k1] at h1
    exact ⟨v, h1⟩
theorem put1_nf {y : List (List D)} {k v i : Int} (h : OneI y) (k0 : 0 ≤ k) (k1 : k < y.length) (i0 : 0 ≤ i) : nf (put1 y k v) i = if i = k then v else nf y i := by
  have hk : k.toNat < y.length := by omega
  simp only [nf, cell_of, put1]
  split
  · rename_i e
    subst e
    rw [List.getD_eq_getElem?_getD (l := y.set _ _), List.getElem?_set_self hk, Option.getD_some, oneI_at h k0 k1]
    rfl
  · rw [List.getD_eq_getElem?_getD (l := y.set _ _), List.getElem?_set_ne (by omega), ← List.getD_eq_getElem?_getD]
theorem rep_oneI {n : Nat} {z : Int} : OneI (List.replicate n [.i z]) := fun r hr => ⟨z, List.eq_of_mem_replicate hr⟩
theorem cell_take {y : List (List D)} {k K : Nat} (h : k < K) : (D.l (y.take K)).cell (k : Int) 0 = (D.l y).cell (k : Int) 0 := by
  simp only [cell_of, Int.toNat_natCast]
  rw [List.getD_eq_getElem?_getD (l := y.take K), List.getElem?_take_of_lt h, ← List.getD_eq_getElem?_getD]
/-- all numbers below n, each once -/
structure Perm (n : Nat) (y : List (List D)) : Prop where
  len : y.length = n
  one : OneI y
  rng : ∀ a : Int, 0 ≤ a → a < n → 0 ≤ nf y a ∧ nf y a < n
  sur : ∀ v : Int, 0 ≤ v → v < n → ∃ a : Int, 0 ≤ a ∧ a < n ∧ nf y a = v
/-- sorted up to i, behind it as at first -/
structure Srt (n : Nat) (p : Int → Int) (y : List (List D)) (i : Int) : Prop where
  pm : Perm n y
  ord : ∀ a b : Int, 0 ≤ a → a < b → b < i → b < n → Ord p (nf y a) (nf y b)
  low : ∀ a : Int, 0 ≤ a → a < i → a < n → nf y a < i
  high : ∀ a : Int, i ≤ a → 0 ≤ a → a < n → nf y a = a
structure Ins (n : Nat) (p : Int → Int) (y : List (List D)) (i j : Int) : Prop where
  pm : Perm n y
  j0 : 0 ≤ j
  ji : j ≤ i
  at_ : nf y j = i
  ord : ∀ a b : Int, 0 ≤ a → a < b → b ≤ i → a ≠ j → b ≠ j → Ord p (nf y a) (nf y b)
  low : ∀ a : Int, 0 ≤ a → a ≤ i → a ≠ j → nf y a < i
  high : ∀ a : Int, i < a → a < n → nf y a = a
  les : ∀ b : Int, j < b → b ≤ i → p (nf y b) < p i
theorem Srt.ins {n : Nat} {p : Int → Int} {y : List (List D)} {i : Int} (h : Srt n p y i) (i0 : 0 ≤ i) (i1 : i < n) : Ins n p y i i :=
  ⟨h.pm, i0, Int.le_refl _, h.high i (Int.le_refl _) i0 i1, fun a b a0 ab bi an bn => h.ord a b a0 ab (by omega) (by omega), fun a a0 a1 an => h.low a a0 (by omega) (by omega), fun a a0 a1 => h.high a (by omega) (by omega) a1, fun b b0 b1 => by omega⟩
theorem Ins.srt {n : Nat} {p : Int → Int} {y : List (List D)} {i j : Int} (h : Ins n p y i j) (i1 : i < n) (stop : 0 < j → p i ≤ p (nf y (j - 1))) : Srt n p y (i + 1) := by
  refine ⟨h.pm, fun a b a0 ab bi bn => ?_, fun a a0 a1 a2 => ?_, fun a a0 _ a1 => h.high a (by omega) a1⟩
  · by_cases qb : b = j
    · subst qb
      have s := stop (by omega)
      have la := h.low a a0 (by omega) (by omega)
      rw [h.at_]
      by_cases qa : a = b - 1
      · subst qa
        unfold Sh.Ord
        omega
      · have o := h.ord a (b - 1) a0 (by omega) (by omega) (by omega) (by omega)
        unfold Sh.Ord at o ⊢
        omega
    · by_cases qa : a = j
      · subst qa
        rw [h.at_]
        exact .inl (h.les b (by omega) (by omega))
      · exact h.ord a b a0 ab (by omega) qa qb
  · by_cases q : a = j
    · subst q; rw [h.at_]; omega
    · have := h.low a a0 (by omega) q; omega
theorem Ins.step {n : Nat} {p : Int → Int} {y w : List (List D)} {i j : Int} (h : Ins n p y i j) (i1 : i < n) (jp : 0 < j) (lt : p (nf y (j - 1)) < p i) (w1 : OneI w) (wl : w.length = n)
    (hw : ∀ a : Int, 0 ≤ a → nf w a = if a = j - 1 then i else if a = j then nf y (j - 1) else nf y a) : Ins n p w i (j - 1) := by
  have ji := h.ji
  have e : ∀ a : Int, 0 ≤ a → a ≠ j - 1 → a ≠ j → nf w a = nf y a := fun a a0 q1 q2 => by rw [hw a a0, if_neg q1, if_neg q2]
  have ej : nf w j = nf y (j - 1) := by rw [hw j (by omega), if_neg (by omega), if_pos rfl]
  have ej1 : nf w (j - 1) = i := by rw [hw (j - 1) (by omega), if_pos rfl]
  refine ⟨⟨wl, w1, fun a a0 a1 => ?_, fun v v0 v1 => ?_⟩, by omega, by omega, ej1, fun a b a0 ab bi an bn => ?_, fun a a0 a1 an => ?_, fun a a0 a1 => ?_, fun b b0 b1 => ?_⟩
  · by_cases q1 : a = j - 1
    · subst q1; rw [ej1]; omega
    · by_cases q2 : a = j
      · subst q2; rw [ej]; exact h.pm.rng (a - 1) (by omega) (by omega)
      · rw [e a a0 q1 q2]; exact h.pm.rng a a0 a1
  · obtain ⟨a, a0, a1, ha⟩ := h.pm.sur v v0 v1
    by_cases q1 : a = j - 1
    · subst q1; exact ⟨j, by omega, by omega, by rw [ej]; exact ha⟩
    · by_cases q2 : a = j
      · subst q2; exact ⟨a - 1, by omega, by omega, by rw [ej1, ← ha, h.at_]⟩
      · exact ⟨a, a0, a1, by rw [e a a0 q1 q2]; exact ha⟩
  · by_cases q2 : b = j
    · subst q2
      rw [ej, e a a0 an (by omega)]
      exact h.ord a (b - 1) a0 (by omega) (by omega) (by omega) (by omega)
    · by_cases q1 : a = j
      · subst q1
        rw [ej, e b (by omega) bn q2]
        exact h.ord (a - 1) b (by omega) (by omega) bi (by omega) (by omega)
      · rw [e a a0 an q1, e b (by omega) bn q2]
        exact h.ord a b a0 ab bi q1 q2
  · by_cases q : a = j
    · subst q; rw [ej]; exact h.low (a - 1) (by omega) (by omega) (by omega)
    · rw [e a a0 an q]; exact h.low a a0 a1 q
  · rw [e a (by omega) (by omega) (by omega)]; exact h.high a a0 a1
  · by_cases q : b = j
    · subst q; rw [ej]; exact lt
    · rw [e b (by omega) (by omega) q]; exact h.les b (by omega) b1
theorem low20 {n : Nat} (h : n ≤ 8) : ¬ (20 : Int) < min (n : Int) 9223372036854775807 := by omega
def bsM : Models := Models.on baChk_K.f (baChk_T.run noM 30) noM
theorem symM_ok : ConOk Try.prog symM_K (bsM symM_K.f) := fun w G args ds pb outs _ _ _ h => by cases h
theorem split_gen {t : Int} {l : List (List D)} (h : bck t l = 0) (h0 : 1 ≤ l.length) : ∃ o, baSplit_T.run bsM 30 [.i t, .l l] = some o ∧ ∃ z, o = [.l z, .i 0] ∧ OneI z ∧ z.length = l.length ∧ Split l.length (nf l) t (nf z) := by
  obtain ⟨h8, ⟨t0, t1⟩, hv⟩ := bck_zero h
  have hw := rsum_rng hv l.length (Nat.le_refl _)
  have rn : (min (l.length : Int) 9223372036854775807).toNat = l.length := by omega
  refine run_to ?_
  unfold baSplit_T
  refine To.viaK (by (try simp (disch := omega) only [X.den, X.dens, X.denss, D.int_i, D.boo_b, D.str_s, D.rows_l, List.getD_cons_zero, List.getD_cons_succ, List.cons_append, List.nil_append, List.append_nil, List.length_cons, List.length_nil, decide_eq_true_eq, decide_eq_false_iff_not, Bool.not_eq_true', Bool.not_eq_false', Bool.and_eq_true, Bool.and_eq_false_iff, Bool.true_eq_false, Bool.false_eq_true, Bool.not_true, Bool.not_false, eq_self, D.len_l, wr64, not_true_eq_false, not_false_eq_true]); exact bchk_gen) ?_
  rintro _ ρ2 rfl eρ
  refine ⟨rfl, ?_⟩
  simp only [List.cons_append, List.nil_append] at eρ
  subst eρ
  refine To.yes (by simp only [X.den, X.dens, X.denss, D.int_i, D.boo_b, D.str_s, D.rows_l, List.getD_cons_zero, List.getD_cons_succ, List.cons_append, List.nil_append, List.append_nil, List.length_cons, List.length_nil, decide_eq_true_eq, decide_eq_false_iff_not, Bool.not_eq_true', Bool.not_eq_false', Bool.and_eq_true, Bool.and_eq_false_iff, Bool.true_eq_false, Bool.false_eq_true, Bool.not_true, Bool.not_false, eq_self]; exact h) ?_
  refine To.loopK (fun m o => ∃ k : Nat, o = [.i (sumf (nf l) k), .i k] ∧ k + m = l.length) (fun o => o = [.i (sumf (nf l) l.length)]) l.length (by omega) ?_ ?_ ?_
  · exact ⟨0, rfl, by omega⟩
  · rintro m o ρ2 ⟨k, rfl, hk⟩ eρ
    simp only [List.cons_append, List.nil_append] at eρ
    subst eρ
    refine To.ite (fun c => ?_) (fun c => ?_) <;> simp only [X.den, X.dens, X.denss, D.int_i, D.boo_b, D.str_s, D.rows_l, List.getD_cons_zero, List.getD_cons_succ, List.cons_append, List.nil_append, List.append_nil, List.length_cons, List.length_nil, decide_eq_true_eq, decide_eq_false_iff_not, Bool.not_eq_true', Bool.not_eq_false', Bool.and_eq_true, Bool.and_eq_false_iff, Bool.true_eq_false, Bool.false_eq_true, Bool.not_true, Bool.not_false, eq_self, D.len_l] at c
    · refine To.need (by simp only [X.den, X.dens, X.denss, D.int_i, D.boo_b, D.str_s, D.rows_l, List.getD_cons_zero, List.getD_cons_succ, List.cons_append, List.nil_append, List.append_nil, List.length_cons, List.length_nil, decide_eq_true_eq, decide_eq_false_iff_not, Bool.not_eq_true', Bool.not_eq_false', Bool.and_eq_true, Bool.and_eq_false_iff, Bool.true_eq_false, Bool.false_eq_true, Bool.not_true, Bool.not_false, eq_self, D.len_l]; omega) ?_
      have s1 := rsum_rng hv k (by omega)
      have s2 := rsum_rng hv (k + 1) (by omega)
      simp only [sumf] at s2
      refine To.ret (.inl ⟨rfl, m - 1, by omega, k + 1, ?_, by omega⟩)
      simp (disch := omega) only [X.den, X.dens, X.denss, D.int_i, D.boo_b, D.str_s, D.rows_l, List.getD_cons_zero, List.getD_cons_succ, List.cons_append, List.nil_append, List.append_nil, List.length_cons, List.length_nil, wr64, nf_def, nat_suc, sumf]
    · obtain rfl : k = l.length := by omega
      exact To.ret (.inr ⟨rfl, by simp only [X.den, X.dens, X.denss, D.int_i, D.boo_b, D.str_s, D.rows_l, List.getD_cons_zero, List.getD_cons_succ, List.cons_append, List.nil_append, List.append_nil, List.length_cons, List.length_nil]⟩)
  rintro o ρ2 rfl eρ
  simp only [List.cons_append, List.nil_append] at eρ
  subst eρ
  refine ⟨rfl, ?_⟩
  refine To.need (by simp only [X.den, X.dens, X.denss, D.int_i, D.boo_b, D.str_s, D.rows_l, List.getD_cons_zero, List.getD_cons_succ, List.cons_append, List.nil_append, List.append_nil, List.length_cons, List.length_nil, decide_eq_true_eq, decide_eq_false_iff_not, Bool.not_eq_true', Bool.not_eq_false', Bool.and_eq_true, Bool.and_eq_false_iff, Bool.true_eq_false, Bool.false_eq_true, Bool.not_true, Bool.not_false, eq_self, D.len_l]; omega) ?_
  refine To.loopK (fun m o => ∃ (x y : List (List D)) (k : Nat), o = [.l x, .l y, .i k] ∧ k + m = l.length ∧ x.length = l.length ∧ y.length = l.length ∧ OneI x ∧ OneI y ∧ ∀ i : Int, 0 ≤ i → i < k → nf x i = qF t l i ∧ nf y i = i)
    (fun o => ∃ x y : List (List D), o = [.l x, .l y] ∧ x.length = l.length ∧ y.length = l.length ∧ OneI x ∧ OneI y ∧ ∀ i : Int, 0 ≤ i → i < l.length → nf x i = qF t l i ∧ nf y i = i) l.length (by omega) ?_ ?_ ?_
  · refine ⟨List.replicate l.length [.i 0], List.replicate l.length [.i 0], 0, ?_, by omega, List.length_replicate, List.length_replicate, rep_oneI, rep_oneI, by intro i; omega⟩
    simp only [X.den, X.dens, X.denss, D.int_i, D.boo_b, D.str_s, D.rows_l, List.getD_cons_zero, List.getD_cons_succ, List.cons_append, List.nil_append, List.append_nil, List.length_cons, List.length_nil, D.len_l, rn]
    rfl
  · rintro m o ρ2 ⟨x, y, k, rfl, hk, hx, hy, x1, y1, hi⟩ eρ
    simp only [List.cons_append, List.nil_append] at eρ
    subst eρ
    refine To.ite (fun c => ?_) (fun c => ?_) <;> simp only [X.den, X.dens, X.denss, D.int_i, D.boo_b, D.str_s, D.rows_l, List.getD_cons_zero, List.getD_cons_succ, List.cons_append, List.nil_append, List.append_nil, List.length_cons, List.length_nil, decide_eq_true_eq, decide_eq_false_iff_not, Bool.not_eq_true', Bool.not_eq_false', Bool.and_eq_true, Bool.and_eq_false_iff, Bool.true_eq_false, Bool.false_eq_true, Bool.not_true, Bool.not_false, eq_self, D.len_l] at c
    · have ok := hv k (by omega) (by omega)
      have q := qr_rng t0 t1 ok (by omega)
      have p := prod_rng t0 t1 ok.1 ok.2
      refine To.need (by simp only [X.den, X.dens, X.denss, D.int_i, D.boo_b, D.str_s, D.rows_l, List.getD_cons_zero, List.getD_cons_succ, List.cons_append, List.nil_append, List.append_nil, List.length_cons, List.length_nil, decide_eq_true_eq, decide_eq_false_iff_not, Bool.not_eq_true', Bool.not_eq_false', Bool.and_eq_true, Bool.and_eq_false_iff, Bool.true_eq_false, Bool.false_eq_true, Bool.not_true, Bool.not_false, eq_self, D.len_l]; omega) ?_
      refine To.need (by simp only [X.den, X.dens, X.denss, D.int_i, D.boo_b, D.str_s, D.rows_l, List.getD_cons_zero, List.getD_cons_succ, List.cons_append, List.nil_append, List.append_nil, List.length_cons, List.length_nil, decide_eq_true_eq, decide_eq_false_iff_not, Bool.not_eq_true', Bool.not_eq_false', Bool.and_eq_true, Bool.and_eq_false_iff, Bool.true_eq_false, Bool.false_eq_true, Bool.not_true, Bool.not_false, eq_self]; omega) ?_
      refine To.need (by simp only [X.den, X.dens, X.denss, D.int_i, D.boo_b, D.str_s, D.rows_l, List.getD_cons_zero, List.getD_cons_succ, List.cons_append, List.nil_append, List.append_nil, List.length_cons, List.length_nil, decide_eq_true_eq, decide_eq_false_iff_not, Bool.not_eq_true', Bool.not_eq_false', Bool.and_eq_true, Bool.and_eq_false_iff, Bool.true_eq_false, Bool.false_eq_true, Bool.not_true, Bool.not_false, eq_self, D.len_l]; omega) ?_
      refine To.need (by simp only [X.den, X.dens, X.denss, D.int_i, D.boo_b, D.str_s, D.rows_l, List.getD_cons_zero, List.getD_cons_succ, List.cons_append, List.nil_append, List.append_nil, List.length_cons, List.length_nil, decide_eq_true_eq, decide_eq_false_iff_not, Bool.not_eq_true', Bool.not_eq_false', Bool.and_eq_true, Bool.and_eq_false_iff, Bool.true_eq_false, Bool.false_eq_true, Bool.not_true, Bool.not_false, eq_self, D.len_l]; omega) ?_
      refine To.ret (.inl ⟨rfl, m - 1, by omega, put1 x k (qF t l k), put1 y k k, k + 1, ?_, by omega, by rw [put1_len]; exact hx, by rw [put1_len]; exact hy, put1_one x1 (by omega) (by omega), put1_one y1 (by omega) (by omega), fun i i0 i1 => ?_⟩)
      · simp (disch := omega) only [X.den, X.dens, X.denss, D.int_i, D.boo_b, D.str_s, D.rows_l, List.getD_cons_zero, List.getD_cons_succ, List.cons_append, List.nil_append, List.append_nil, List.length_cons, List.length_nil, wr64, nf_def, nat_suc, q.2.2.1, put1_def]
      · rw [put1_nf x1 (by omega) (by omega) i0, put1_nf y1 (by omega) (by omega) i0]
        split
        · rename_i e; rw [e]; exact ⟨rfl, rfl⟩
        · exact hi i i0 (by omega)
    · obtain rfl : k = l.length := by omega
      exact To.ret (.inr ⟨rfl, x, y, by simp only [X.den, X.dens, X.denss, D.int_i, D.boo_b, D.str_s, D.rows_l, List.getD_cons_zero, List.getD_cons_succ, List.cons_append, List.nil_append, List.append_nil, List.length_cons, List.length_nil], hx, hy, x1, y1, hi⟩)
  rintro o ρ2 ⟨x, y0, rfl, hx, hy0, x1, y01, hxy⟩ eρ
  simp only [List.cons_append, List.nil_append] at eρ
  subst eρ
  refine ⟨rfl, ?_⟩
  have srt0 : Srt l.length (rF t l) y0 1 := by
    refine ⟨⟨hy0, y01, fun a a0 a1 => ?_, fun v v0 v1 => ⟨v, v0, v1, (hxy v v0 v1).2⟩⟩, fun a b a0 ab b1 _ => by omega, fun a a0 a1 a2 => ?_, fun a _ a0 a1 => (hxy a a0 a1).2⟩
    · rw [(hxy a a0 a1).2]; omega
    · rw [(hxy a a0 a2).2]; exact a1
  refine To.loopK (fun m o => o = [.l y0, .i 0, .i 20]) (fun o => o = [.l y0, .i 0, .i 20]) 1 (by omega) ?_ ?_ ?_
  · simp only [X.den, X.dens, X.denss, D.int_i, D.boo_b, D.str_s, D.rows_l, List.getD_cons_zero, List.getD_cons_succ, List.cons_append, List.nil_append, List.append_nil, List.length_cons, List.length_nil]
  · rintro m o ρ2 rfl eρ
    simp only [List.cons_append, List.nil_append] at eρ
    subst eρ
    refine To.yes (by simp only [X.den, X.dens, X.denss, D.int_i, D.boo_b, D.str_s, D.rows_l, List.getD_cons_zero, List.getD_cons_succ, List.cons_append, List.nil_append, List.append_nil, List.length_cons, List.length_nil, decide_eq_true_eq, decide_eq_false_iff_not, Bool.not_eq_true', Bool.not_eq_false', Bool.and_eq_true, Bool.and_eq_false_iff, Bool.true_eq_false, Bool.false_eq_true, Bool.not_true, Bool.not_false, eq_self, D.len_l]; omega) (To.ret (.inr ⟨rfl, by simp only [X.den, X.dens, X.denss, D.int_i, D.boo_b, D.str_s, D.rows_l, List.getD_cons_zero, List.getD_cons_succ, List.cons_append, List.nil_append, List.append_nil, List.length_cons, List.length_nil]⟩))
  rintro o ρ2 rfl eρ
  simp only [List.cons_append, List.nil_append] at eρ
  subst eρ
  refine ⟨rfl, ?_⟩
  refine To.loopK (fun m o => ∃ (y : List (List D)) (i : Int), o = [.l y, .i i] ∧ 1 ≤ i ∧ i ≤ 20 ∧ (l.length : Int) - i ≤ m ∧ Srt l.length (rF t l) y i) (fun o => ∃ y : List (List D), o = [.l y] ∧ Srt l.length (rF t l) y l.length) l.length (by omega) ?_ ?_ ?_
  · exact ⟨y0, 1, by simp only [X.den, X.dens, X.denss, D.int_i, D.boo_b, D.str_s, D.rows_l, List.getD_cons_zero, List.getD_cons_succ, List.cons_append, List.nil_append, List.append_nil, List.length_cons, List.length_nil]; rfl, by omega, by omega, by omega, srt0⟩
  · rintro m o ρ2 ⟨y, i, rfl, i1, i20, hm, hs⟩ eρ
    simp only [List.cons_append, List.nil_append] at eρ
    subst eρ
    refine To.ite (fun c => ?_) (fun c => ?_) <;> simp only [X.den, X.dens, X.denss, D.int_i, D.boo_b, D.str_s, D.rows_l, List.getD_cons_zero, List.getD_cons_succ, List.cons_append, List.nil_append, List.append_nil, List.length_cons, List.length_nil, decide_eq_true_eq, decide_eq_false_iff_not, Bool.not_eq_true', Bool.not_eq_false', Bool.and_eq_true, Bool.and_eq_false_iff, Bool.true_eq_false, Bool.false_eq_true, Bool.not_true, Bool.not_false, eq_self, D.len_l, hy0] at c
    · have iN : i < l.length := by omega
      refine To.loopK (fun m o => ∃ (y : List (List D)) (j : Int), o = [.l y, .i j] ∧ j ≤ m ∧ Ins l.length (rF t l) y i j) (fun o => ∃ (y : List (List D)) (rest : List D), o = .l y :: rest ∧ rest.length = 5 ∧ Srt l.length (rF t l) y (i + 1)) l.length (by omega) ?_ ?_ ?_
      · exact ⟨y, i, by simp only [X.den, X.dens, X.denss, D.int_i, D.boo_b, D.str_s, D.rows_l, List.getD_cons_zero, List.getD_cons_succ, List.cons_append, List.nil_append, List.append_nil, List.length_cons, List.length_nil], by omega, hs.ins (by omega) iN⟩
      · rintro m2 o ρ2 ⟨y, j, rfl, jm, hi⟩ eρ
        simp only [List.cons_append, List.nil_append] at eρ
        subst eρ
        have j0 := hi.j0
        have ji := hi.ji
        have yl := hi.pm.len
        refine To.joinK (fun o => ∃ b, o = [.b b] ∧ (b = true ↔ (0 < j ∧ rF t l (nf y (j - 1)) < rF t l i))) ?_ ?_
        · refine To.ite (fun c => ?_) (fun c => ?_) <;> simp only [X.den, X.dens, X.denss, D.int_i, D.boo_b, D.str_s, D.rows_l, List.getD_cons_zero, List.getD_cons_succ, List.cons_append, List.nil_append, List.append_nil, List.length_cons, List.length_nil, decide_eq_true_eq, decide_eq_false_iff_not, Bool.not_eq_true', Bool.not_eq_false', Bool.and_eq_true, Bool.and_eq_false_iff, Bool.true_eq_false, Bool.false_eq_true, Bool.not_true, Bool.not_false, eq_self] at c
          · have r1 := hi.pm.rng (j - 1) (by omega) (by omega)
            have r2 := hi.pm.rng j j0 (by omega)
            have q1 := qr_rng t0 t1 (hv _ r1.1 r1.2) (by omega)
            have q2 := qr_rng t0 t1 (hv _ r2.1 r2.2) (by omega)
            have k1 := hv _ r1.1 r1.2
            have k2 := hv _ r2.1 r2.2
            have p1 := prod_rng t0 t1 k1.1 k1.2
            have p2 := prod_rng t0 t1 k2.1 k2.2
            refine To.need (by simp only [X.den, X.dens, X.denss, D.int_i, D.boo_b, D.str_s, D.rows_l, List.getD_cons_zero, List.getD_cons_succ, List.cons_append, List.nil_append, List.append_nil, List.length_cons, List.length_nil, decide_eq_true_eq, decide_eq_false_iff_not, Bool.not_eq_true', Bool.not_eq_false', Bool.and_eq_true, Bool.and_eq_false_iff, Bool.true_eq_false, Bool.false_eq_true, Bool.not_true, Bool.not_false, eq_self, D.len_l]; omega) ?_
            refine To.need (by simp (disch := omega) only [X.den, X.dens, X.denss, D.int_i, D.boo_b, D.str_s, D.rows_l, List.getD_cons_zero, List.getD_cons_succ, List.cons_append, List.nil_append, List.append_nil, List.length_cons, List.length_nil, decide_eq_true_eq, decide_eq_false_iff_not, Bool.not_eq_true', Bool.not_eq_false', Bool.and_eq_true, Bool.and_eq_false_iff, Bool.true_eq_false, Bool.false_eq_true, Bool.not_true, Bool.not_false, eq_self, D.len_l, wr64]; omega) ?_
            refine To.need (by simp (disch := omega) only [X.den, X.dens, X.denss, D.int_i, D.boo_b, D.str_s, D.rows_l, List.getD_cons_zero, List.getD_cons_succ, List.cons_append, List.nil_append, List.append_nil, List.length_cons, List.length_nil, decide_eq_true_eq, decide_eq_false_iff_not, Bool.not_eq_true', Bool.not_eq_false', Bool.and_eq_true, Bool.and_eq_false_iff, Bool.true_eq_false, Bool.false_eq_true, Bool.not_true, Bool.not_false, eq_self, D.len_l, wr64, nf_def]; omega) ?_
            refine To.need (by simp only [X.den, X.dens, X.denss, D.int_i, D.boo_b, D.str_s, D.rows_l, List.getD_cons_zero, List.getD_cons_succ, List.cons_append, List.nil_append, List.append_nil, List.length_cons, List.length_nil, decide_eq_true_eq, decide_eq_false_iff_not, Bool.not_eq_true', Bool.not_eq_false', Bool.and_eq_true, Bool.and_eq_false_iff, Bool.true_eq_false, Bool.false_eq_true, Bool.not_true, Bool.not_false, eq_self]; omega) ?_
            refine To.need (by simp (disch := omega) only [X.den, X.dens, X.denss, D.int_i, D.boo_b, D.str_s, D.rows_l, List.getD_cons_zero, List.getD_cons_succ, List.cons_append, List.nil_append, List.append_nil, List.length_cons, List.length_nil, decide_eq_true_eq, decide_eq_false_iff_not, Bool.not_eq_true', Bool.not_eq_false', Bool.and_eq_true, Bool.and_eq_false_iff, Bool.true_eq_false, Bool.false_eq_true, Bool.not_true, Bool.not_false, eq_self, D.len_l, wr64, nf_def]; omega) ?_
            refine To.joinK (fun o => ∃ z : Int, o = [.i z] ∧ (z < 0 ↔ rF t l (nf y (j - 1)) < rF t l (nf y j))) ?_ ?_
            · refine To.ite (fun c => ?_) (fun c => ?_) <;> simp (disch := omega) only [X.den, X.dens, X.denss, D.int_i, D.boo_b, D.str_s, D.rows_l, List.getD_cons_zero, List.getD_cons_succ, List.cons_append, List.nil_append, List.append_nil, List.length_cons, List.length_nil, decide_eq_true_eq, decide_eq_false_iff_not, Bool.not_eq_true', Bool.not_eq_false', Bool.and_eq_true, Bool.and_eq_false_iff, Bool.true_eq_false, Bool.false_eq_true, Bool.not_true, Bool.not_false, eq_self, wr64, nf_def, q1.2.2.2, q2.2.2.2] at c
              · exact To.ret ⟨rfl, -1, by simp only [X.den, X.dens, X.denss, D.int_i, D.boo_b, D.str_s, D.rows_l, List.getD_cons_zero, List.getD_cons_succ, List.cons_append, List.nil_append, List.append_nil, List.length_cons, List.length_nil], by omega⟩
              · refine To.ite (fun c => ?_) (fun c => ?_)
                · exact To.ret ⟨rfl, 1, by simp only [X.den, X.dens, X.denss, D.int_i, D.boo_b, D.str_s, D.rows_l, List.getD_cons_zero, List.getD_cons_succ, List.cons_append, List.nil_append, List.append_nil, List.length_cons, List.length_nil], by omega⟩
                · exact To.ret ⟨rfl, 0, by simp only [X.den, X.dens, X.denss, D.int_i, D.boo_b, D.str_s, D.rows_l, List.getD_cons_zero, List.getD_cons_succ, List.cons_append, List.nil_append, List.append_nil, List.length_cons, List.length_nil], by omega⟩
            rintro o ρ2 ⟨z, rfl, hz⟩ eρ
            simp only [List.cons_append, List.nil_append] at eρ
            subst eρ
            refine To.ret ⟨rfl, decide (z < 0), by simp only [X.den, X.dens, X.denss, D.int_i, D.boo_b, D.str_s, D.rows_l, List.getD_cons_zero, List.getD_cons_succ, List.cons_append, List.nil_append, List.append_nil, List.length_cons, List.length_nil], ?_⟩
            rw [decide_eq_true_eq, hz, hi.at_]
            exact ⟨fun q => ⟨c, q⟩, fun q => q.2⟩
          · exact To.ret ⟨rfl, false, by simp only [X.den, X.dens, X.denss, D.int_i, D.boo_b, D.str_s, D.rows_l, List.getD_cons_zero, List.getD_cons_succ, List.cons_append, List.nil_append, List.append_nil, List.length_cons, List.length_nil], by constructor; (intro q; cases q); (intro q; exact absurd q.1 c)⟩
        rintro o ρ2 ⟨b, rfl, hb⟩ eρ
        simp only [List.cons_append, List.nil_append] at eρ
        subst eρ
        refine To.ite (fun c3 => ?_) (fun c3 => ?_) <;> simp only [X.den, X.dens, X.denss, D.int_i, D.boo_b, D.str_s, D.rows_l, List.getD_cons_zero, List.getD_cons_succ, List.cons_append, List.nil_append, List.append_nil, List.length_cons, List.length_nil] at c3
        · obtain ⟨jp, lt⟩ := hb.1 c3
          refine To.need (by simp (disch := omega) only [X.den, X.dens, X.denss, D.int_i, D.boo_b, D.str_s, D.rows_l, List.getD_cons_zero, List.getD_cons_succ, List.cons_append, List.nil_append, List.append_nil, List.length_cons, List.length_nil, decide_eq_true_eq, decide_eq_false_iff_not, Bool.not_eq_true', Bool.not_eq_false', Bool.and_eq_true, Bool.and_eq_false_iff, Bool.true_eq_false, Bool.false_eq_true, Bool.not_true, Bool.not_false, eq_self, D.len_l, wr64]; omega) ?_
          refine To.need (by simp only [X.den, X.dens, X.denss, D.int_i, D.boo_b, D.str_s, D.rows_l, List.getD_cons_zero, List.getD_cons_succ, List.cons_append, List.nil_append, List.append_nil, List.length_cons, List.length_nil, decide_eq_true_eq, decide_eq_false_iff_not, Bool.not_eq_true', Bool.not_eq_false', Bool.and_eq_true, Bool.and_eq_false_iff, Bool.true_eq_false, Bool.false_eq_true, Bool.not_true, Bool.not_false, eq_self, D.len_l]; omega) ?_
          have c1 := nf_cell hi.pm.one (k := j - 1) (by omega) (by omega)
          have c2 := nf_cell hi.pm.one (k := j) (by omega) (by omega)
          have w1 : OneI (put1 y j (nf y (j - 1))) := put1_one hi.pm.one j0 (by omega)
          have wl : (put1 y j (nf y (j - 1))).length = l.length := by rw [put1_len]; exact yl
          refine To.ret (.inl ⟨rfl, m2 - 1, by omega, put1 (put1 y j (nf y (j - 1))) (j - 1) (nf y j), j - 1, ?_, by omega, hi.step iN jp lt (put1_one w1 (by omega) (by omega)) (by rw [put1_len, wl]) fun a a0 => ?_⟩)
          · simp (disch := omega) only [X.den, X.dens, X.denss, D.int_i, D.boo_b, D.str_s, D.rows_l, List.getD_cons_zero, List.getD_cons_succ, List.cons_append, List.nil_append, List.append_nil, List.length_cons, List.length_nil, wr64, c1, c2, put1_def]
          · rw [put1_nf w1 (by omega) (by omega) a0, put1_nf hi.pm.one j0 (by omega) a0, hi.at_]
        · have stop : 0 < j → rF t l i ≤ rF t l (nf y (j - 1)) := fun q => Int.not_lt.1 fun k => by rw [hb.2 ⟨q, k⟩] at c3; cases c3
          exact To.ret (.inr ⟨rfl, y, _, by simp only [X.den, X.dens, X.denss, D.int_i, D.boo_b, D.str_s, D.rows_l, List.getD_cons_zero, List.getD_cons_succ, List.cons_append, List.nil_append, List.append_nil, List.length_cons, List.length_nil]; rfl, rfl, hi.srt iN stop⟩)
      · rintro o ρ2 ⟨y', rest, rfl, hr, hs'⟩ eρ
        simp only [List.cons_append, List.nil_append] at eρ
        subst eρ
        refine ⟨by simp only [List.length_cons, hr], To.ret (.inl ⟨rfl, m - 1, by omega, y', i + 1, ?_, by omega, by omega, by omega, hs'⟩)⟩
        simp (disch := omega) only [X.den, X.dens, X.denss, D.int_i, D.boo_b, D.str_s, D.rows_l, List.getD_cons_zero, List.getD_cons_succ, List.cons_append, List.nil_append, List.append_nil, List.length_cons, List.length_nil, wr64]
    · exact To.ret (.inr ⟨rfl, y, by simp only [X.den, X.dens, X.denss, D.int_i, D.boo_b, D.str_s, D.rows_l, List.getD_cons_zero, List.getD_cons_succ, List.cons_append, List.nil_append, List.append_nil, List.length_cons, List.length_nil], ⟨hs.pm, fun a b a0 ab b1 b2 => hs.ord a b a0 ab (by omega) b2, fun a a0 a1 a2 => (hs.pm.rng a a0 a2).2, fun a a0 _ a1 => by omega⟩⟩)
  rintro o ρ2 ⟨y, rfl, hs⟩ eρ
  simp only [List.cons_append, List.nil_append] at eρ
  subst eρ
  refine ⟨rfl, ?_⟩
  have yl := hs.pm.len
  refine To.loopK (fun m o => o = []) (fun o => o = []) 1 (by omega) ?_ ?_ ?_
  · rfl
  · rintro m o ρ2 rfl eρ
    simp only [List.append_nil] at eρ
    subst eρ
    refine To.no (by simp only [X.den, X.dens, X.denss, D.int_i, D.boo_b, D.str_s, D.rows_l, List.getD_cons_zero, List.getD_cons_succ, List.cons_append, List.nil_append, List.append_nil, List.length_cons, List.length_nil, decide_eq_true_eq, decide_eq_false_iff_not, Bool.not_eq_true', Bool.not_eq_false', Bool.and_eq_true, Bool.and_eq_false_iff, Bool.true_eq_false, Bool.false_eq_true, Bool.not_true, Bool.not_false, eq_self, D.len_l]; omega) (To.ret (.inr ⟨rfl, rfl⟩))
  rintro o ρ2 rfl eρ
  simp only [List.append_nil] at eρ
  subst eρ
  refine ⟨rfl, ?_⟩
  have sq : ∀ k : Nat, k ≤ l.length → sumf (nf x) k = sumf (qF t l) k := fun k hk => sumf_congr fun i i0 i1 => (hxy i i0 (by omega)).1
  have sb : ∀ k : Nat, k ≤ l.length → 0 * (k : Int) ≤ sumf (qF t l) k ∧ sumf (qF t l) k ≤ 40000000000 * k := fun k hk => sumf_bound fun i a b => (qr_rng t0 t1 (hv i a (by omega)) (by omega)).1
  refine To.loopK (fun m o => ∃ k : Nat, o = [.i (sumf (nf x) k), .i k] ∧ k + m = l.length) (fun o => o = [.i (sumf (qF t l) l.length)]) l.length (by omega) ?_ ?_ ?_
  · exact ⟨0, rfl, by omega⟩
  · rintro m o ρ2 ⟨k, rfl, hk⟩ eρ
    simp only [List.cons_append, List.nil_append] at eρ
    subst eρ
    refine To.ite (fun c => ?_) (fun c => ?_) <;> simp only [X.den, X.dens, X.denss, D.int_i, D.boo_b, D.str_s, D.rows_l, List.getD_cons_zero, List.getD_cons_succ, List.cons_append, List.nil_append, List.append_nil, List.length_cons, List.length_nil, decide_eq_true_eq, decide_eq_false_iff_not, Bool.not_eq_true', Bool.not_eq_false', Bool.and_eq_true, Bool.and_eq_false_iff, Bool.true_eq_false, Bool.false_eq_true, Bool.not_true, Bool.not_false, eq_self, D.len_l] at c
    · refine To.need (by simp only [X.den, X.dens, X.denss, D.int_i, D.boo_b, D.str_s, D.rows_l, List.getD_cons_zero, List.getD_cons_succ, List.cons_append, List.nil_append, List.append_nil, List.length_cons, List.length_nil, decide_eq_true_eq, decide_eq_false_iff_not, Bool.not_eq_true', Bool.not_eq_false', Bool.and_eq_true, Bool.and_eq_false_iff, Bool.true_eq_false, Bool.false_eq_true, Bool.not_true, Bool.not_false, eq_self, D.len_l]; omega) ?_
      have s2 := sb (k + 1) (by omega)
      rw [← sq (k + 1) (by omega)] at s2
      simp only [sumf] at s2
      refine To.ret (.inl ⟨rfl, m - 1, by omega, k + 1, ?_, by omega⟩)
      simp (disch := omega) only [X.den, X.dens, X.denss, D.int_i, D.boo_b, D.str_s, D.rows_l, List.getD_cons_zero, List.getD_cons_succ, List.cons_append, List.nil_append, List.append_nil, List.length_cons, List.length_nil, wr64, nf_def, nat_suc, sumf]
    · obtain rfl : k = l.length := by omega
      exact To.ret (.inr ⟨rfl, by simp only [X.den, X.dens, X.denss, D.int_i, D.boo_b, D.str_s, D.rows_l, List.getD_cons_zero, List.getD_cons_succ, List.cons_append, List.nil_append, List.append_nil, List.length_cons, List.length_nil]; rw [sq _ (Nat.le_refl _)]⟩)
  rintro o ρ2 rfl eρ
  simp only [List.cons_append, List.nil_append] at eρ
  subst eρ
  refine ⟨rfl, ?_⟩
  have lf : 0 ≤ t - sumf (qF t l) l.length ∧ t - sumf (qF t l) l.length ≤ l.length := left_rng (n := l.length) (r := nf l) (t := t) (by omega)
  obtain ⟨K, hK⟩ : ∃ K : Nat, t - sumf (qF t l) l.length = K := ⟨(t - sumf (qF t l) l.length).toNat, by omega⟩
  have wK : IntKind.i64.wrap (t - sumf (qF t l) l.length) = K := by rw [wr64 (by omega) (by omega), hK]
  refine To.need (by simp only [X.den, X.dens, X.denss, D.int_i, D.boo_b, D.str_s, D.rows_l, List.getD_cons_zero, List.getD_cons_succ, List.cons_append, List.nil_append, List.append_nil, List.length_cons, List.length_nil, decide_eq_true_eq, decide_eq_false_iff_not, Bool.not_eq_true', Bool.not_eq_false', Bool.and_eq_true, Bool.and_eq_false_iff, Bool.true_eq_false, Bool.false_eq_true, Bool.not_true, Bool.not_false, eq_self, D.len_l, wK]; omega) ?_
  have tl : (y.take K).length = K := by rw [List.length_take]; omega
  refine To.loopK (fun m o => ∃ (z : List (List D)) (k : Nat), o = [.l z, .i k] ∧ k + m = K ∧ z.length = l.length ∧ OneI z ∧ sumf (nf z) l.length = sumf (qF t l) l.length + k ∧ (∀ i : Int, 0 ≤ i → i < l.length → (nf z i = qF t l i + 1 ∧ ∃ a : Int, 0 ≤ a ∧ a < k ∧ nf y a = i) ∨ (nf z i = qF t l i ∧ ∀ a : Int, 0 ≤ a → a < k → nf y a ≠ i)))
    (fun o => ∃ z : List (List D), o = [.l z] ∧ OneI z ∧ z.length = l.length ∧ Split l.length (nf l) t (nf z)) K (by omega) ?_ ?_ ?_
  · exact ⟨x, 0, rfl, by omega, hx, x1, by rw [sq _ (Nat.le_refl _)]; simp, fun i i0 i1 => .inr ⟨(hxy i i0 i1).1, fun a a0 a1 => by omega⟩⟩
  · rintro m o ρ2 ⟨z, k, rfl, hk, hz, z1, zs, zi⟩ eρ
    simp only [List.cons_append, List.nil_append] at eρ
    subst eρ
    refine To.ite (fun c => ?_) (fun c => ?_) <;> simp only [X.den, X.dens, X.denss, D.int_i, D.boo_b, D.str_s, D.rows_l, List.getD_cons_zero, List.getD_cons_succ, List.cons_append, List.nil_append, List.append_nil, List.length_cons, List.length_nil, decide_eq_true_eq, decide_eq_false_iff_not, Bool.not_eq_true', Bool.not_eq_false', Bool.and_eq_true, Bool.and_eq_false_iff, Bool.true_eq_false, Bool.false_eq_true, Bool.not_true, Bool.not_false, eq_self, D.len_l, wK, Int.toNat_natCast, tl] at c
    · have kK : k < K := by omega
      have rk := hs.pm.rng k (by omega) (by omega)
      have ck : (D.l (y.take K)).cell k 0 = .i (nf y k) := by rw [cell_take kK]; exact nf_cell hs.pm.one (by omega) (by omega)
      refine To.need (by simp only [X.den, X.dens, X.denss, D.int_i, D.boo_b, D.str_s, D.rows_l, List.getD_cons_zero, List.getD_cons_succ, List.cons_append, List.nil_append, List.append_nil, List.length_cons, List.length_nil, decide_eq_true_eq, decide_eq_false_iff_not, Bool.not_eq_true', Bool.not_eq_false', Bool.and_eq_true, Bool.and_eq_false_iff, Bool.true_eq_false, Bool.false_eq_true, Bool.not_true, Bool.not_false, eq_self, D.len_l, wK, Int.toNat_natCast, tl]; omega) ?_
      refine To.need (by simp only [X.den, X.dens, X.denss, D.int_i, D.boo_b, D.str_s, D.rows_l, List.getD_cons_zero, List.getD_cons_succ, List.cons_append, List.nil_append, List.append_nil, List.length_cons, List.length_nil, decide_eq_true_eq, decide_eq_false_iff_not, Bool.not_eq_true', Bool.not_eq_false', Bool.and_eq_true, Bool.and_eq_false_iff, Bool.true_eq_false, Bool.false_eq_true, Bool.not_true, Bool.not_false, eq_self, D.len_l, wK, Int.toNat_natCast, ck]; omega) ?_
      have zk : nf z (nf y k) = qF t l (nf y k) := by
        rcases zi (nf y k) rk.1 rk.2 with ⟨_, a, a0, a1, ha⟩ | ⟨q, _⟩
        · have := hs.ord a k a0 a1 (by omega) (by omega)
          rw [ha] at this
          exact absurd this Ord.irrefl
        · exact q
      have qk := qr_rng t0 t1 (hv _ rk.1 rk.2) (by omega)
      have pc : ∀ i : Int, 0 ≤ i → nf (put1 z (nf y k) (qF t l (nf y k) + 1)) i = if i = nf y k then qF t l (nf y k) + 1 else nf z i := fun i i0 => put1_nf z1 rk.1 (by omega) i0
      refine To.ret (.inl ⟨rfl, m - 1, by omega, put1 z (nf y k) (qF t l (nf y k) + 1), k + 1, ?_, by omega, by rw [put1_len]; exact hz, put1_one z1 rk.1 (by omega), ?_, fun i i0 i1 => ?_⟩)
      · simp (disch := omega) only [X.den, X.dens, X.denss, D.int_i, D.boo_b, D.str_s, D.rows_l, List.getD_cons_zero, List.getD_cons_succ, List.cons_append, List.nil_append, List.append_nil, List.length_cons, List.length_nil, wK, Int.toNat_natCast, ck, nf_def, zk, wr64, put1_def, nat_suc]
      · have := sumf_one (n := l.length) (f := nf z) (g := nf (put1 z (nf y k) (qF t l (nf y k) + 1))) (k := nf y k) (d := 1) rk.1 rk.2 (by rw [pc _ rk.1, if_pos rfl, zk]) fun i i0 i1 ne => by rw [pc i i0, if_neg ne]
        omega
      · rw [pc i i0]
        by_cases q : i = nf y k
        · rw [if_pos q]
          exact .inl ⟨by rw [q], k, by omega, by omega, q.symm⟩
        · rw [if_neg q]
          rcases zi i i0 i1 with ⟨e, a, a0, a1, ha⟩ | ⟨e, hn⟩
          · exact .inl ⟨e, a, a0, by omega, ha⟩
          · refine .inr ⟨e, fun a a0 a1 => ?_⟩
            by_cases q2 : a = k
            · subst q2; exact fun x => q x.symm
            · exact hn a a0 (by omega)
    · obtain rfl : k = K := by omega
      refine To.ret (.inr ⟨rfl, z, by simp only [X.den, X.dens, X.denss, D.int_i, D.boo_b, D.str_s, D.rows_l, List.getD_cons_zero, List.getD_cons_succ, List.cons_append, List.nil_append, List.append_nil, List.length_cons, List.length_nil], z1, hz, ⟨fun i i0 i1 => ?_, by omega, fun i j i0 i1 j0 j1 hi hj => ?_⟩⟩)
      · rcases zi i i0 i1 with ⟨e, _⟩ | ⟨e, _⟩
        · exact .inr e
        · exact .inl e
      · have hi : nf z i = qF t l i + 1 := hi
        have hj : nf z j = qF t l j := hj
        rcases zi i i0 i1 with ⟨e, a, a0, a1, ha⟩ | ⟨e, _⟩
        · rcases zi j j0 j1 with ⟨e', _⟩ | ⟨e', hn⟩
          · omega
          · obtain ⟨b, b0, b1, hb⟩ := hs.pm.sur j j0 j1
            have bk : ¬ b < k := fun q => hn b b0 q hb
            have := hs.ord a b a0 (by omega) b1 b1
            rw [ha, hb] at this
            exact this
        · omega
  · rintro o ρ2 ⟨z, rfl, z1, hz, hsp⟩ eρ
    simp only [List.cons_append, List.nil_append] at eρ
    subst eρ
    exact ⟨rfl, To.ret ⟨z, by simp only [X.den, X.dens, X.denss, D.int_i, D.boo_b, D.str_s, D.rows_l, List.getD_cons_zero, List.getD_cons_succ, List.cons_append, List.nil_append, List.append_nil, List.length_cons, List.length_nil], z1, hz, hsp⟩⟩
theorem baSplit_ok : ConOk Try.prog baSplit_K (baSplit_T.run bsM 30) := con_run follows (one_con (baChk_ok.to _) (one_con (symM_ok.to _) no_cons)) baSplit_t rfl 30
end Go.Proofs.Ytlhnhidoljfnnaa
