/- WeatherMirror: the same factors everywhere make the same load from everywhere; opposite factors the opposite load, up to one. -/
import Derived.Test.YtcogndnencabhaaMirT
set_option linter.unusedVariables false
set_option linter.unusedSimpArgs false
namespace Go.Proofs.Ytcogndnencabhaa
open Go.RowKit Fx
theorem facV_const {d : D} {n a : Int} (h : ∀ i : Nat, i < 12 → d.cell i 0 = .i n) (h0 : 0 ≤ a) (h1 : a < 3600) : facV d a = n := by
  have f : ∀ i : Int, 0 ≤ i → i < 12 → fac d i = n := fun i i0 i1 => by
    obtain ⟨k, rfl⟩ := Int.eq_ofNat_of_zero_le i0
    unfold fac
    rw [h k (by omega)]
    rfl
  unfold facV
  rw [f _ (by omega) (by omega), f _ (by omega) (by omega), ← Int.add_mul, show 300 - a % 300 + a % 300 = 300 by omega, hdv_mul' (by decide)]
theorem facV_at' {d : D} {i : Int} (h0 : 0 ≤ i) : facV d (300 * i) = fac d i := by
  unfold facV
  rw [show 300 * i % 300 = 0 by omega, show 300 * i / 300 = i by omega, Int.zero_mul, Int.add_zero, Int.sub_zero, hdv_mul' (by decide)]
def Neg (d e : D) : Prop := e.rows.length = 12 ∧ ∀ i : Nat, i < 12 → e.cell i 0 = .i (-(fac d i))
def NegR (d : D) (r : List (List D)) (k : Nat) : Prop := r.length = k ∧ ∀ i : Nat, i < k → (D.l r).cell i 0 = .i (-(fac d i))
theorem NegR.next {d : D} {r : List (List D)} {k : Nat} (h : NegR d r k) {x : Int} (hx : x = -(fac d k)) : NegR d (r ++ [[.i x]]) (k + 1) := by
  obtain ⟨h1, h2⟩ := h
  refine ⟨by simp [h1], fun i hi => ?_⟩
  by_cases e : i = k
  · subst e
    simp only [D.cell, D.rows_l, Int.toNat_natCast, List.getD_eq_getElem?_getD]
    rw [List.getElem?_append_right (by omega), h1, Nat.sub_self, hx]
    rfl
  · have := h2 i (by omega)
    simp only [D.cell, D.rows_l, Int.toNat_natCast, List.getD_eq_getElem?_getD] at this ⊢
    rw [List.getElem?_append_left (by omega)]
    exact this
theorem neg_ok {d e : D} (hd : FacOk d) (h : Neg d e) : FacOk e := ⟨h.1, fun i hi => by
  have := fac_rng hd (i := i) (by omega) (by omega)
  rw [h.2 i hi]
  simp only [D.int_i]
  omega⟩
theorem neg_sum {d e : D} (h : Neg d e) {t v : Int} (t0 : 0 ≤ t) (t1 : t < 12) : ldV d (300 * t) v + ldV e (300 * t) v = 0 ∨ ldV d (300 * t) v + ldV e (300 * t) v = 1 := by
  have fe : fac e t = -(fac d t) := by
    obtain ⟨k, rfl⟩ := Int.eq_ofNat_of_zero_le t0
    show (e.cell k 0).int = _
    rw [h.2 k (by omega)]
    rfl
  unfold ldV
  rw [facV_at' t0, facV_at' t0, fe, Int.neg_mul, Int.neg_mul]
  generalize fac d t * v * v = x
  unfold hdv
  omega
noncomputable def mirM : Models := Models.on srcN_K.f (srcN_T.run noM 0) (Models.on srcList_K.f (srcList_T.run srcM 20) (Models.on srcFlow_K.f (srcFlow_T.run srcM 0) (Models.on wLoad_K.f (wLoad_T.run wlM 0) (Models.on sane22_K.f (fun _ => some [.b true]) noM))))
theorem WeatherMirror_ok : ConOk Try.prog wMirror_K fun ds => match ds with | [.l _, .i _] => some [.b true] | _ => none :=
  con_of follows (M := mirM) (one_con (srcN_ok.to _) (one_con (srcList_ok.to _) (one_con (srcFlow_ok.to _) (one_con (wLoad_ok.to _) (one_con (sane22_ok.to _) no_cons))))) wMirror_t fun ds outs hl h => by
    split at h
    · rename_i rows f
      injection h with h
      subst h
      refine ⟨fun i l h k => by simp [wMirror_K] at k, 13, ?_⟩
      unfold wMirror_T
      refine To.ite (fun c => ?_) (fun c => ?_) <;> simp only [X.den, X.dens, X.denss, D.int_i, D.boo_b, D.str_s, D.rows_l, List.getD_cons_zero, List.getD_cons_succ, List.cons_append, List.nil_append, List.append_nil, List.length_cons, List.length_nil, decide_eq_true_eq, decide_eq_false_iff_not, Bool.not_eq_true', Bool.not_eq_false', Bool.and_eq_true, Bool.and_eq_false_iff, Bool.true_eq_false, Bool.false_eq_true, Bool.not_true, Bool.not_false, eq_self, D.len_l] at c
      · exact To.call (l := [.b true]) rfl rfl (To.ret (by simp only [X.den, X.dens, X.denss, D.int_i, D.boo_b, D.str_s, D.rows_l, List.getD_cons_zero, List.getD_cons_succ, List.cons_append, List.nil_append, List.append_nil, List.length_cons, List.length_nil]))
      refine To.need (by simp only [X.den, X.dens, X.denss, D.int_i, D.boo_b, D.str_s, D.rows_l, List.getD_cons_zero, List.getD_cons_succ, List.cons_append, List.nil_append, List.append_nil, List.length_cons, List.length_nil, decide_eq_true_eq, decide_eq_false_iff_not, Bool.not_eq_true', Bool.not_eq_false', Bool.and_eq_true, Bool.and_eq_false_iff, Bool.true_eq_false, Bool.false_eq_true, Bool.not_true, Bool.not_false, eq_self, D.len_l]; omega) ?_
      obtain ⟨k0, k1, _, _⟩ := mod_rng f 2001 (by decide)
      generalize hn : (f.tmod 2001 + 2001).tmod 2001 - 1000 = n
      have n0 : -1000 ≤ n ∧ n ≤ 1000 := by omega
      refine To.loop (fun m l => ∃ (d : D) (k : Nat), l = [d, .i k] ∧ d.rows.length = 12 ∧ (∀ row ∈ d.rows, row.length = 1) ∧ (∀ i : Nat, i < k → d.cell i 0 = .i n) ∧ m + k = 12) (fun l => ∃ d : D, l = [d] ∧ d.rows.length = 12 ∧ ∀ i : Nat, i < 12 → d.cell i 0 = .i n) 12 (by decide) ?_ ?_ ?_
      · exact ⟨_, 0, by simp only [X.den, X.dens, X.denss, D.int_i, D.boo_b, D.str_s, D.rows_l, List.getD_cons_zero, List.getD_cons_succ, List.cons_append, List.nil_append, List.append_nil, List.length_cons, List.length_nil]; rfl, rfl, by simp [D.rows], fun i hi => by omega, rfl⟩
      · rintro m l ⟨d, k, rfl, hlen, hone, hc, hk⟩
        simp only [List.cons_append, List.nil_append]
        refine To.ite (fun c => ?_) (fun c => ?_) <;> simp only [X.den, X.dens, X.denss, D.int_i, D.boo_b, D.str_s, D.rows_l, List.getD_cons_zero, List.getD_cons_succ, List.cons_append, List.nil_append, List.append_nil, List.length_cons, List.length_nil, decide_eq_true_eq, decide_eq_false_iff_not, Bool.not_eq_true', Bool.not_eq_false', Bool.and_eq_true, Bool.and_eq_false_iff, Bool.true_eq_false, Bool.false_eq_true, Bool.not_true, Bool.not_false, eq_self] at c
        · refine To.need (by simp only [X.den, X.dens, X.denss, D.int_i, D.boo_b, D.str_s, D.rows_l, List.getD_cons_zero, List.getD_cons_succ, List.cons_append, List.nil_append, List.append_nil, List.length_cons, List.length_nil, decide_eq_true_eq, decide_eq_false_iff_not, Bool.not_eq_true', Bool.not_eq_false', Bool.and_eq_true, Bool.and_eq_false_iff, Bool.true_eq_false, Bool.false_eq_true, Bool.not_true, Bool.not_false, eq_self, D.len]; omega) ?_
          refine To.ret (.inl ⟨rfl, m - 1, by omega, _, k + 1, by simp only [X.den, X.dens, X.denss, D.int_i, D.boo_b, D.str_s, D.rows_l, List.getD_cons_zero, List.getD_cons_succ, List.cons_append, List.nil_append, List.append_nil, List.length_cons, List.length_nil, hn]; rfl, by rw [put_rows, List.length_set]; exact hlen, ?_, ?_, by omega⟩)
          · intro row hr
            rw [put_rows] at hr
            rcases List.mem_or_eq_of_mem_set hr with hr | rfl
            · exact hone row hr
            · rw [List.length_set]
              have hkl : (k : Int).toNat < d.rows.length := by omega
              rw [List.getD_eq_getElem?_getD, List.getElem?_eq_getElem hkl, Option.getD_some]
              exact hone _ (List.getElem_mem hkl)
          · intro i hi
            by_cases e : i = k
            · subst e
              have hkl : (i : Int).toNat < d.rows.length := by omega
              have h1 : (d.rows.getD (i : Int).toNat []).length = 1 := by
                rw [List.getD_eq_getElem?_getD, List.getElem?_eq_getElem hkl, Option.getD_some]
                exact hone _ (List.getElem_mem hkl)
              obtain ⟨x, hx⟩ := len1 h1
              unfold D.cell
              rw [put_rows, List.getD_eq_getElem?_getD, List.getD_eq_getElem?_getD, List.getElem?_set_self hkl, Option.getD_some, hx]
              rfl
            · have := hc i (by omega)
              unfold D.cell at this ⊢
              rw [put_rows, List.getD_eq_getElem?_getD (l := d.rows.set _ _), List.getElem?_set_ne (by omega), ← List.getD_eq_getElem?_getD]
              exact this
        · exact To.ret (.inr ⟨rfl, d, by simp only [X.den, X.dens, X.denss, D.int_i, D.boo_b, D.str_s, D.rows_l, List.getD_cons_zero, List.getD_cons_succ, List.cons_append, List.nil_append, List.append_nil, List.length_cons, List.length_nil], hlen, fun i hi => hc i (by omega)⟩)
      rintro l ⟨d, rfl, hlen, hc⟩
      refine ⟨rfl, ?_⟩
      simp only [List.cons_append, List.nil_append]
      have hd : FacOk d := ⟨hlen, fun i hi => by rw [hc i hi]; simp only [D.int_i]; omega⟩
      refine To.via (srcFlow_to (src0 c)) ?_
      rintro l ⟨fr, v, at1, rfl, o, h⟩
      refine ⟨rfl, ?_⟩
      simp only [List.cons_append, List.nil_append]
      refine To.via (srcN_to h (by decide) (by decide)) ?_
      rintro l ⟨a, at2, rfl, a0, a1, h⟩
      refine ⟨rfl, ?_⟩
      simp only [List.cons_append, List.nil_append]
      unfold FlOk at o
      have q1 := wLoad_eq hd hd hd o.1 o.2.1 o.2.2.1 o.2.2.2 a0 a1
      have q2 := wLoad_eq hd hd hd o.1 o.2.1 o.2.2.1 o.2.2.2 (show (0 : Int) ≤ 0 by decide) (by decide)
      have cst : ∀ x : Int, 0 ≤ x → x < 3600 → ldV d x v = hdv (n * v * v) 1000000 := fun x x0 x1 => by unfold ldV; rw [facV_const hc x0 x1]
      rw [cst _ (by omega) (by omega)] at q1 q2
      refine To.call (l := _) q1 rfl ?_
      simp only [List.cons_append, List.nil_append]
      refine To.call (l := _) q2 rfl ?_
      simp only [List.cons_append, List.nil_append]
      refine To.yes (by simp only [X.den, X.dens, X.denss, D.int_i, D.boo_b, D.str_s, D.rows_l, List.getD_cons_zero, List.getD_cons_succ, List.cons_append, List.nil_append, List.append_nil, List.length_cons, List.length_nil, decide_eq_true_eq, decide_eq_false_iff_not, Bool.not_eq_true', Bool.not_eq_false', Bool.and_eq_true, Bool.and_eq_false_iff, Bool.true_eq_false, Bool.false_eq_true, Bool.not_true, Bool.not_false, eq_self]; simp) ?_
      refine To.via (srcList_to h) ?_
      rintro l ⟨d0, at3, rfl, g0, h⟩
      refine ⟨rfl, ?_⟩
      simp only [List.cons_append, List.nil_append]
      refine To.via (srcList_to h) ?_
      rintro l ⟨d1, at4, rfl, g1, h⟩
      refine ⟨rfl, ?_⟩
      simp only [List.cons_append, List.nil_append]
      refine To.via (srcList_to h) ?_
      rintro l ⟨d2, at5, rfl, g2, h⟩
      refine ⟨rfl, ?_⟩
      simp only [List.cons_append, List.nil_append]
      have l0 : d0.len = 12 := by have := g0.1; unfold D.len; omega
      have l1 : d1.len = 12 := by have := g1.1; unfold D.len; omega
      have l2 : d2.len = 12 := by have := g2.1; unfold D.len; omega
      refine To.loop (fun m l => ∃ (r0 r1 r2 : List (List D)) (k : Nat), l = [.l r0, .l r1, .l r2, .i k] ∧ NegR d0 r0 k ∧ NegR d1 r1 k ∧ NegR d2 r2 k ∧ m + k = 12) (fun l => ∃ e0 e1 e2 : D, l = [e0, e1, e2] ∧ Neg d0 e0 ∧ Neg d1 e1 ∧ Neg d2 e2) 12 (by decide) ?_ ?_ ?_
      · exact ⟨[], [], [], 0, by simp only [X.den, X.dens, X.denss, D.int_i, D.boo_b, D.str_s, D.rows_l, List.getD_cons_zero, List.getD_cons_succ, List.cons_append, List.nil_append, List.append_nil, List.length_cons, List.length_nil]; rfl, ⟨rfl, fun i hi => by omega⟩, ⟨rfl, fun i hi => by omega⟩, ⟨rfl, fun i hi => by omega⟩, rfl⟩
      · rintro m l ⟨r0, r1, r2, k, rfl, s0, s1, s2, hk⟩
        simp only [List.cons_append, List.nil_append]
        have z0 := s0.1
        have z1 := s1.1
        have z2 := s2.1
        refine To.ite (fun c => ?_) (fun c => ?_) <;> simp only [X.den, X.dens, X.denss, D.int_i, D.boo_b, D.str_s, D.rows_l, List.getD_cons_zero, List.getD_cons_succ, List.cons_append, List.nil_append, List.append_nil, List.length_cons, List.length_nil, decide_eq_true_eq, decide_eq_false_iff_not, Bool.not_eq_true', Bool.not_eq_false', Bool.and_eq_true, Bool.and_eq_false_iff, Bool.true_eq_false, Bool.false_eq_true, Bool.not_true, Bool.not_false, eq_self, l0] at c
        · have b0 := fac_rng g0 (i := k) (by omega) (by omega)
          have b1 := fac_rng g1 (i := k) (by omega) (by omega)
          have b2 := fac_rng g2 (i := k) (by omega) (by omega)
          refine To.need (by simp only [X.den, X.dens, X.denss, D.int_i, D.boo_b, D.str_s, D.rows_l, List.getD_cons_zero, List.getD_cons_succ, List.cons_append, List.nil_append, List.append_nil, List.length_cons, List.length_nil, decide_eq_true_eq, decide_eq_false_iff_not, Bool.not_eq_true', Bool.not_eq_false', Bool.and_eq_true, Bool.and_eq_false_iff, Bool.true_eq_false, Bool.false_eq_true, Bool.not_true, Bool.not_false, eq_self, l0]; omega) ?_
          refine To.need (by simp only [X.den, X.dens, X.denss, D.int_i, D.boo_b, D.str_s, D.rows_l, List.getD_cons_zero, List.getD_cons_succ, List.cons_append, List.nil_append, List.append_nil, List.length_cons, List.length_nil, decide_eq_true_eq, decide_eq_false_iff_not, Bool.not_eq_true', Bool.not_eq_false', Bool.and_eq_true, Bool.and_eq_false_iff, Bool.true_eq_false, Bool.false_eq_true, Bool.not_true, Bool.not_false, eq_self, D.len_l]; omega) ?_
          refine To.need (by simp only [X.den, X.dens, X.denss, D.int_i, D.boo_b, D.str_s, D.rows_l, List.getD_cons_zero, List.getD_cons_succ, List.cons_append, List.nil_append, List.append_nil, List.length_cons, List.length_nil, decide_eq_true_eq, decide_eq_false_iff_not, Bool.not_eq_true', Bool.not_eq_false', Bool.and_eq_true, Bool.and_eq_false_iff, Bool.true_eq_false, Bool.false_eq_true, Bool.not_true, Bool.not_false, eq_self, l1]; omega) ?_
          refine To.need (by simp only [X.den, X.dens, X.denss, D.int_i, D.boo_b, D.str_s, D.rows_l, List.getD_cons_zero, List.getD_cons_succ, List.cons_append, List.nil_append, List.append_nil, List.length_cons, List.length_nil, decide_eq_true_eq, decide_eq_false_iff_not, Bool.not_eq_true', Bool.not_eq_false', Bool.and_eq_true, Bool.and_eq_false_iff, Bool.true_eq_false, Bool.false_eq_true, Bool.not_true, Bool.not_false, eq_self, D.len_l]; omega) ?_
          refine To.need (by simp only [X.den, X.dens, X.denss, D.int_i, D.boo_b, D.str_s, D.rows_l, List.getD_cons_zero, List.getD_cons_succ, List.cons_append, List.nil_append, List.append_nil, List.length_cons, List.length_nil, decide_eq_true_eq, decide_eq_false_iff_not, Bool.not_eq_true', Bool.not_eq_false', Bool.and_eq_true, Bool.and_eq_false_iff, Bool.true_eq_false, Bool.false_eq_true, Bool.not_true, Bool.not_false, eq_self, l2]; omega) ?_
          refine To.need (by simp only [X.den, X.dens, X.denss, D.int_i, D.boo_b, D.str_s, D.rows_l, List.getD_cons_zero, List.getD_cons_succ, List.cons_append, List.nil_append, List.append_nil, List.length_cons, List.length_nil, decide_eq_true_eq, decide_eq_false_iff_not, Bool.not_eq_true', Bool.not_eq_false', Bool.and_eq_true, Bool.and_eq_false_iff, Bool.true_eq_false, Bool.false_eq_true, Bool.not_true, Bool.not_false, eq_self, D.len_l]; omega) ?_
          refine To.ret (.inl ⟨rfl, m - 1, by omega, _, _, _, k + 1, ?_, s0.next (x := -(fac d0 k)) rfl, s1.next (x := -(fac d1 k)) rfl, s2.next (x := -(fac d2 k)) rfl, by omega⟩)
          simp only [X.den, X.dens, X.denss, D.int_i, D.boo_b, D.str_s, D.rows_l, List.getD_cons_zero, List.getD_cons_succ, List.cons_append, List.nil_append, List.append_nil, List.length_cons, List.length_nil]
          have x0 : (d0.cell k 0).int = fac d0 k := rfl
          have x1 : (d1.cell k 0).int = fac d1 k := rfl
          have x2 : (d2.cell k 0).int = fac d2 k := rfl
          rw [x0, x1, x2, wr64 (z := 0 - fac d0 k) (by omega) (by omega), wr64 (z := 0 - fac d1 k) (by omega) (by omega), wr64 (z := 0 - fac d2 k) (by omega) (by omega), wr64 (z := (k : Int) + 1) (by omega) (by omega), Int.zero_sub, Int.zero_sub, Int.zero_sub]
          simp
        · obtain rfl : k = 12 := by omega
          exact To.ret (.inr ⟨rfl, .l r0, .l r1, .l r2, by simp only [X.den, X.dens, X.denss, D.int_i, D.boo_b, D.str_s, D.rows_l, List.getD_cons_zero, List.getD_cons_succ, List.cons_append, List.nil_append, List.append_nil, List.length_cons, List.length_nil], ⟨z0, s0.2⟩, ⟨z1, s1.2⟩, ⟨z2, s2.2⟩⟩)
      rintro l ⟨e0, e1, e2, rfl, s0, s1, s2⟩
      refine ⟨rfl, ?_⟩
      simp only [List.cons_append, List.nil_append]
      refine To.via (srcN_to h (by decide) (by decide)) ?_
      rintro l ⟨j, at6, rfl, j0, j1, h⟩
      refine ⟨rfl, ?_⟩
      simp only [List.cons_append, List.nil_append]
      have w1 : IntKind.i64.wrap (fr.tdiv 300) = fr / 300 := by rw [Int.tdiv_eq_ediv_of_nonneg o.1]; exact wr64 (by omega) (by omega)
      have w2 : IntKind.i64.wrap (fr / 300 * 300) = fr / 300 * 300 := wr64 (by omega) (by omega)
      have w3 : IntKind.i64.wrap (300 * j) = 300 * j := wr64 (by omega) (by omega)
      have et : (fr / 300 * 300 - 300 * j) % 3600 = 300 * ((fr / 300 - j) % 12) := by omega
      have q3 := wLoad_eq (fr := fr / 300 * 300) (hd := 300 * j) g0 g1 g2 (by omega) (by omega) o.2.2.1 o.2.2.2 (by omega) (by omega)
      have q4 := wLoad_eq (fr := fr / 300 * 300) (hd := 300 * j) (neg_ok g0 s0) (neg_ok g1 s1) (neg_ok g2 s2) (by omega) (by omega) o.2.2.1 o.2.2.2 (by omega) (by omega)
      rw [et] at q3 q4
      have y0 := neg_sum s0 (t := (fr / 300 - j) % 12) (v := v) (by omega) (by omega)
      have y1 := neg_sum s1 (t := (fr / 300 - j) % 12) (v := v) (by omega) (by omega)
      have y2 := neg_sum s2 (t := (fr / 300 - j) % 12) (v := v) (by omega) (by omega)
      refine To.call (l := _) (by simp only [X.den, X.dens, X.denss, D.int_i, D.boo_b, D.str_s, D.rows_l, List.getD_cons_zero, List.getD_cons_succ, List.cons_append, List.nil_append, List.append_nil, List.length_cons, List.length_nil, w1, w2, w3]; exact q3) rfl ?_
      simp only [List.cons_append, List.nil_append]
      refine To.call (l := _) (by simp only [X.den, X.dens, X.denss, D.int_i, D.boo_b, D.str_s, D.rows_l, List.getD_cons_zero, List.getD_cons_succ, List.cons_append, List.nil_append, List.append_nil, List.length_cons, List.length_nil, w1, w2, w3]; exact q4) rfl ?_
      simp only [List.cons_append, List.nil_append]
      clear q1 q2 q3 q4
      generalize ldV d0 (300 * ((fr / 300 - j) % 12)) v = p0 at *
      generalize ldV d1 (300 * ((fr / 300 - j) % 12)) v = p1 at *
      generalize ldV d2 (300 * ((fr / 300 - j) % 12)) v = p2 at *
      generalize ldV e0 (300 * ((fr / 300 - j) % 12)) v = u0 at *
      generalize ldV e1 (300 * ((fr / 300 - j) % 12)) v = u1 at *
      generalize ldV e2 (300 * ((fr / 300 - j) % 12)) v = u2 at *
      have W : ∀ x : Int, x = 0 ∨ x = 1 → IntKind.i64.wrap x = x := fun x hx => wr64 (by omega) (by omega)
      refine To.loop (fun m l => ∃ k : Nat, l = [.i k] ∧ m + k = 3) (fun l => l = [.i 1]) 3 (by decide) ⟨0, rfl, rfl⟩ ?_ ?_
      · rintro m l ⟨k, rfl, hk⟩
        simp only [List.cons_append, List.nil_append]
        refine To.ite (fun c => ?_) (fun c => ?_) <;> simp only [X.den, X.dens, X.denss, D.int_i, D.boo_b, D.str_s, D.rows_l, List.getD_cons_zero, List.getD_cons_succ, List.cons_append, List.nil_append, List.append_nil, List.length_cons, List.length_nil, decide_eq_true_eq, decide_eq_false_iff_not, Bool.not_eq_true', Bool.not_eq_false', Bool.and_eq_true, Bool.and_eq_false_iff, Bool.true_eq_false, Bool.false_eq_true, Bool.not_true, Bool.not_false, eq_self] at c
        · refine To.join (fun l => ∃ s, l = [.i s, .i s] ∧ (s = 0 ∨ s = 1)) ?_ ?_
          · refine To.ite (fun c => ?_) (fun c => ?_)
            · exact To.ret ⟨rfl, p0 + u0, by simp only [X.den, X.dens, X.denss, D.int_i, D.boo_b, D.str_s, D.rows_l, List.getD_cons_zero, List.getD_cons_succ, List.cons_append, List.nil_append, List.append_nil, List.length_cons, List.length_nil, W _ y0], y0⟩
            · refine To.ite (fun c => ?_) (fun c => ?_)
              · exact To.ret ⟨rfl, p1 + u1, by simp only [X.den, X.dens, X.denss, D.int_i, D.boo_b, D.str_s, D.rows_l, List.getD_cons_zero, List.getD_cons_succ, List.cons_append, List.nil_append, List.append_nil, List.length_cons, List.length_nil, W _ y1], y1⟩
              · exact To.ret ⟨rfl, p2 + u2, by simp only [X.den, X.dens, X.denss, D.int_i, D.boo_b, D.str_s, D.rows_l, List.getD_cons_zero, List.getD_cons_succ, List.cons_append, List.nil_append, List.append_nil, List.length_cons, List.length_nil, W _ y2], y2⟩
          rintro l ⟨s, rfl, hs⟩
          simp only [List.cons_append, List.nil_append]
          refine To.join (fun l => l = [.b false]) (To.no (by simp only [X.den, X.dens, X.denss, D.int_i, D.boo_b, D.str_s, D.rows_l, List.getD_cons_zero, List.getD_cons_succ, List.cons_append, List.nil_append, List.append_nil, List.length_cons, List.length_nil, decide_eq_true_eq, decide_eq_false_iff_not, Bool.not_eq_true', Bool.not_eq_false', Bool.and_eq_true, Bool.and_eq_false_iff, Bool.true_eq_false, Bool.false_eq_true, Bool.not_true, Bool.not_false, eq_self]; omega) (To.ret ⟨rfl, by simp only [X.den, X.dens, X.denss, D.int_i, D.boo_b, D.str_s, D.rows_l, List.getD_cons_zero, List.getD_cons_succ, List.cons_append, List.nil_append, List.append_nil, List.length_cons, List.length_nil]; rw [decide_eq_false (by omega)]⟩)) ?_
          rintro l rfl
          simp only [List.cons_append, List.nil_append]
          exact To.no rfl (To.ret (.inl ⟨rfl, m - 1, by omega, k + 1, by simp only [X.den, X.dens, X.denss, D.int_i, D.boo_b, D.str_s, D.rows_l, List.getD_cons_zero, List.getD_cons_succ, List.cons_append, List.nil_append, List.append_nil, List.length_cons, List.length_nil]; simp, by omega⟩))
        · exact To.ret (.inr ⟨rfl, by simp only [X.den, X.dens, X.denss, D.int_i, D.boo_b, D.str_s, D.rows_l, List.getD_cons_zero, List.getD_cons_succ, List.cons_append, List.nil_append, List.append_nil, List.length_cons, List.length_nil]⟩)
      rintro l rfl
      refine ⟨rfl, ?_⟩
      simp only [List.cons_append, List.nil_append]
      refine To.no rfl (To.call (l := [.b true]) rfl rfl (To.ret ?_))
      simp only [X.den, X.dens, X.denss, D.int_i, D.boo_b, D.str_s, D.rows_l, List.getD_cons_zero, List.getD_cons_succ, List.cons_append, List.nil_append, List.append_nil, List.length_cons, List.length_nil]
    · cases h
theorem WeatherMirror_walk {w : World} (v : Value) (zs : List Int) (h : IntsIn w w.heap.size v .i64 zs) (hz : ∀ z ∈ zs, (Lit.int .i64 z).wf = true) (a : Int) (ha : (Lit.int .i64 a).wf = true) : Calls Try.prog 7 #[v, .int .i64 a] w fun e w' => e = .returned (.bool true) ∧ Below w.heap.size w w' :=
  con_law WeatherMirror_ok rfl (fun G hG => args_ints h hG (args_int (by trivial))) (by simp [wMirror_K]) (ds := [numD zs, .i a]) rfl
end Go.Proofs.Ytcogndnencabhaa
