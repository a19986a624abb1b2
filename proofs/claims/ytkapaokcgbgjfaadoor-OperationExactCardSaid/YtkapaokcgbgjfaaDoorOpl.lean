/- What the source gives for an operation. -/
import Derived.Test.YtkapaokcgbgjfaaDoorOpm
set_option linter.unusedVariables false
set_option linter.unusedSimpArgs false
namespace Go.Proofs.YtkapaokcgbgjfaaDoor
open Go.RowKit Fx
theorem name_ok {r : Int} (h0 : 0 ≤ r) (h1 : r < 3) : ∃ b, (D.l [[.s ⟨#[100, 114, 105, 108, 108]⟩], [.s ⟨#[100, 105, 118, 101]⟩], [.s ⟨#[97, 45, 49]⟩]]).cell r 0 = .s b ∧ b.size ≤ 5 ∧ wordP b := by
  have w1 : wordP ⟨#[100, 114, 105, 108, 108]⟩ := ⟨by decide, by decide, by decide, fun i h0 h1 => by
    have h1 : i < 5 := h1
    rcases (by omega : i = 0 ∨ i = 1 ∨ i = 2 ∨ i = 3 ∨ i = 4) with rfl | rfl | rfl | rfl | rfl <;> (unfold okP; decide)⟩
  have w2 : wordP ⟨#[100, 105, 118, 101]⟩ := ⟨by decide, by decide, by decide, fun i h0 h1 => by
    have h1 : i < 4 := h1
    rcases (by omega : i = 0 ∨ i = 1 ∨ i = 2 ∨ i = 3) with rfl | rfl | rfl | rfl <;> (unfold okP; decide)⟩
  have w3 : wordP ⟨#[97, 45, 49]⟩ := ⟨by decide, by decide, by decide, fun i h0 h1 => by
    have h1 : i < 3 := h1
    rcases (by omega : i = 0 ∨ i = 1 ∨ i = 2) with rfl | rfl | rfl <;> (unfold okP; decide)⟩
  exact three (p := fun r => ∃ b, (D.l [[.s ⟨#[100, 114, 105, 108, 108]⟩], [.s ⟨#[100, 105, 118, 101]⟩], [.s ⟨#[97, 45, 49]⟩]]).cell r 0 = .s b ∧ b.size ≤ 5 ∧ wordP b) h0 h1 ⟨_, rfl, by decide, w1⟩ ⟨_, rfl, by decide, w2⟩ ⟨_, rfl, by decide, w3⟩
def OpOk (b : ByteArray) (k x y ye re dr : Int) : Prop := b.size ≤ 1000 ∧ chkV b k x y ye re dr = 0 ∧ 1 ≤ k ∧ k ≤ 3
theorem srcOp_to {rows : List (List D)} {at_ : Int} (h : SrcOk rows at_) :
    ∃ l, srcOp_T.run srcM 0 [.l rows, .i at_] = some l ∧ ∃ b k x y ye re dr at', l = [.s b, .i k, .i x, .i y, .i ye, .i re, .i dr, .l rows, .i at'] ∧ OpOk b k x y ye re dr ∧ SrcOk rows at' := by
  refine run_to ?_
  unfold srcOp_T
  refine To.viaK (by (try simp (disch := omega) only [X.den, X.dens, X.denss, D.int_i, D.boo_b, D.str_s, D.rows_l, List.getD_cons_zero, List.getD_cons_succ, List.cons_append, List.nil_append, List.append_nil, List.length_cons, List.length_nil, decide_eq_true_eq, decide_eq_false_iff_not, Bool.not_eq_true', Bool.not_eq_false', Bool.and_eq_true, Bool.and_eq_false_iff, Bool.true_eq_false, Bool.false_eq_true, Bool.not_true, Bool.not_false, eq_self, D.len_l, wr64, not_true_eq_false, not_false_eq_true]); exact srcN_to h (by omega) (by omega)) ?_
  rintro _ ρ2 ⟨r0, t0, rfl, a0, b0, h0⟩ eρ
  refine ⟨rfl, ?_⟩
  simp only [List.cons_append, List.nil_append] at eρ
  subst eρ
  refine To.need (by simp only [X.den, X.dens, X.denss, D.int_i, D.boo_b, D.str_s, D.rows_l, List.getD_cons_zero, List.getD_cons_succ, List.cons_append, List.nil_append, List.append_nil, List.length_cons, List.length_nil, decide_eq_true_eq, decide_eq_false_iff_not, Bool.not_eq_true', Bool.not_eq_false', Bool.and_eq_true, Bool.and_eq_false_iff, Bool.true_eq_false, Bool.false_eq_true, Bool.not_true, Bool.not_false, eq_self]; omega) ?_
  obtain ⟨nm, en, ns, nw⟩ := name_ok a0 b0
  refine To.viaK (by (try simp (disch := omega) only [X.den, X.dens, X.denss, D.int_i, D.boo_b, D.str_s, D.rows_l, List.getD_cons_zero, List.getD_cons_succ, List.cons_append, List.nil_append, List.append_nil, List.length_cons, List.length_nil, decide_eq_true_eq, decide_eq_false_iff_not, Bool.not_eq_true', Bool.not_eq_false', Bool.and_eq_true, Bool.and_eq_false_iff, Bool.true_eq_false, Bool.false_eq_true, Bool.not_true, Bool.not_false, eq_self, D.len_l, wr64, not_true_eq_false, not_false_eq_true]); exact srcN_to h0 (by omega) (by omega)) ?_
  rintro _ ρ2 ⟨r1, t1, rfl, a1, b1, h1⟩ eρ
  refine ⟨rfl, ?_⟩
  simp only [List.cons_append, List.nil_append] at eρ
  subst eρ
  refine To.viaK (by (try simp (disch := omega) only [X.den, X.dens, X.denss, D.int_i, D.boo_b, D.str_s, D.rows_l, List.getD_cons_zero, List.getD_cons_succ, List.cons_append, List.nil_append, List.append_nil, List.length_cons, List.length_nil, decide_eq_true_eq, decide_eq_false_iff_not, Bool.not_eq_true', Bool.not_eq_false', Bool.and_eq_true, Bool.and_eq_false_iff, Bool.true_eq_false, Bool.false_eq_true, Bool.not_true, Bool.not_false, eq_self, D.len_l, wr64, not_true_eq_false, not_false_eq_true]); exact srcN_to h1 (by omega) (by omega)) ?_
  rintro _ ρ2 ⟨r2, t2, rfl, a2, b2, h2⟩ eρ
  refine ⟨rfl, ?_⟩
  simp only [List.cons_append, List.nil_append] at eρ
  subst eρ
  refine To.need (by simp only [X.den, X.dens, X.denss, D.int_i, D.boo_b, D.str_s, D.rows_l, List.getD_cons_zero, List.getD_cons_succ, List.cons_append, List.nil_append, List.append_nil, List.length_cons, List.length_nil, decide_eq_true_eq, decide_eq_false_iff_not, Bool.not_eq_true', Bool.not_eq_false', Bool.and_eq_true, Bool.and_eq_false_iff, Bool.true_eq_false, Bool.false_eq_true, Bool.not_true, Bool.not_false, eq_self]; omega) ?_
  obtain ⟨ye, e2, c2⟩ := four (p := fun r => ∃ g : Int, (D.l [[.i 0], [.i 300], [.i 500], [.i 2000]]).cell r 0 = .i g ∧ 0 ≤ g ∧ g ≤ 2000) a2 b2 ⟨0, rfl, by decide⟩ ⟨300, rfl, by decide⟩ ⟨500, rfl, by decide⟩ ⟨2000, rfl, by decide⟩
  refine To.viaK (by (try simp (disch := omega) only [X.den, X.dens, X.denss, D.int_i, D.boo_b, D.str_s, D.rows_l, List.getD_cons_zero, List.getD_cons_succ, List.cons_append, List.nil_append, List.append_nil, List.length_cons, List.length_nil, decide_eq_true_eq, decide_eq_false_iff_not, Bool.not_eq_true', Bool.not_eq_false', Bool.and_eq_true, Bool.and_eq_false_iff, Bool.true_eq_false, Bool.false_eq_true, Bool.not_true, Bool.not_false, eq_self, D.len_l, wr64, not_true_eq_false, not_false_eq_true]); exact srcN_to h2 (by omega) (by omega)) ?_
  rintro _ ρ2 ⟨r3, t3, rfl, a3, b3, h3⟩ eρ
  refine ⟨rfl, ?_⟩
  simp only [List.cons_append, List.nil_append] at eρ
  subst eρ
  refine To.need (by simp only [X.den, X.dens, X.denss, D.int_i, D.boo_b, D.str_s, D.rows_l, List.getD_cons_zero, List.getD_cons_succ, List.cons_append, List.nil_append, List.append_nil, List.length_cons, List.length_nil, decide_eq_true_eq, decide_eq_false_iff_not, Bool.not_eq_true', Bool.not_eq_false', Bool.and_eq_true, Bool.and_eq_false_iff, Bool.true_eq_false, Bool.false_eq_true, Bool.not_true, Bool.not_false, eq_self]; omega) ?_
  obtain ⟨x, e3, c3⟩ := three (p := fun r => ∃ g : Int, (D.l [[.i 0], [.i 0], [.i 200]]).cell r 0 = .i g ∧ 0 ≤ g ∧ g ≤ 200) a3 b3 ⟨0, rfl, by decide⟩ ⟨0, rfl, by decide⟩ ⟨200, rfl, by decide⟩
  refine To.viaK (by (try simp (disch := omega) only [X.den, X.dens, X.denss, D.int_i, D.boo_b, D.str_s, D.rows_l, List.getD_cons_zero, List.getD_cons_succ, List.cons_append, List.nil_append, List.append_nil, List.length_cons, List.length_nil, decide_eq_true_eq, decide_eq_false_iff_not, Bool.not_eq_true', Bool.not_eq_false', Bool.and_eq_true, Bool.and_eq_false_iff, Bool.true_eq_false, Bool.false_eq_true, Bool.not_true, Bool.not_false, eq_self, D.len_l, wr64, not_true_eq_false, not_false_eq_true]); exact srcN_to h3 (by omega) (by omega)) ?_
  rintro _ ρ2 ⟨r4, t4, rfl, a4, b4, h4⟩ eρ
  refine ⟨rfl, ?_⟩
  simp only [List.cons_append, List.nil_append] at eρ
  subst eρ
  refine To.need (by simp only [X.den, X.dens, X.denss, D.int_i, D.boo_b, D.str_s, D.rows_l, List.getD_cons_zero, List.getD_cons_succ, List.cons_append, List.nil_append, List.append_nil, List.length_cons, List.length_nil, decide_eq_true_eq, decide_eq_false_iff_not, Bool.not_eq_true', Bool.not_eq_false', Bool.and_eq_true, Bool.and_eq_false_iff, Bool.true_eq_false, Bool.false_eq_true, Bool.not_true, Bool.not_false, eq_self]; omega) ?_
  obtain ⟨y, e4, c4⟩ := three (p := fun r => ∃ g : Int, (D.l [[.i 0], [.i 0], [.i (-100)]]).cell r 0 = .i g ∧ -100 ≤ g ∧ g ≤ 0) a4 b4 ⟨0, rfl, by decide⟩ ⟨0, rfl, by decide⟩ ⟨-100, rfl, by decide⟩
  refine To.viaK (by (try simp (disch := omega) only [X.den, X.dens, X.denss, D.int_i, D.boo_b, D.str_s, D.rows_l, List.getD_cons_zero, List.getD_cons_succ, List.cons_append, List.nil_append, List.append_nil, List.length_cons, List.length_nil, decide_eq_true_eq, decide_eq_false_iff_not, Bool.not_eq_true', Bool.not_eq_false', Bool.and_eq_true, Bool.and_eq_false_iff, Bool.true_eq_false, Bool.false_eq_true, Bool.not_true, Bool.not_false, eq_self, D.len_l, wr64, not_true_eq_false, not_false_eq_true]); exact srcN_to h4 (by omega) (by omega)) ?_
  rintro _ ρ2 ⟨r5, t5, rfl, a5, b5, h5⟩ eρ
  refine ⟨rfl, ?_⟩
  simp only [List.cons_append, List.nil_append] at eρ
  subst eρ
  refine To.need (by simp only [X.den, X.dens, X.denss, D.int_i, D.boo_b, D.str_s, D.rows_l, List.getD_cons_zero, List.getD_cons_succ, List.cons_append, List.nil_append, List.append_nil, List.length_cons, List.length_nil, decide_eq_true_eq, decide_eq_false_iff_not, Bool.not_eq_true', Bool.not_eq_false', Bool.and_eq_true, Bool.and_eq_false_iff, Bool.true_eq_false, Bool.false_eq_true, Bool.not_true, Bool.not_false, eq_self]; omega) ?_
  obtain ⟨rd, e5, c5⟩ := three (p := fun r => ∃ g : Int, (D.l [[.i 0], [.i 500], [.i 3000]]).cell r 0 = .i g ∧ 0 ≤ g ∧ g ≤ 3000) a5 b5 ⟨0, rfl, by decide⟩ ⟨500, rfl, by decide⟩ ⟨3000, rfl, by decide⟩
  refine To.viaK (by (try simp (disch := omega) only [X.den, X.dens, X.denss, D.int_i, D.boo_b, D.str_s, D.rows_l, List.getD_cons_zero, List.getD_cons_succ, List.cons_append, List.nil_append, List.append_nil, List.length_cons, List.length_nil, decide_eq_true_eq, decide_eq_false_iff_not, Bool.not_eq_true', Bool.not_eq_false', Bool.and_eq_true, Bool.and_eq_false_iff, Bool.true_eq_false, Bool.false_eq_true, Bool.not_true, Bool.not_false, eq_self, D.len_l, wr64, not_true_eq_false, not_false_eq_true]); exact srcN_to h5 (by omega) (by omega)) ?_
  rintro _ ρ2 ⟨r6, t6, rfl, a6, b6, h6⟩ eρ
  refine ⟨rfl, ?_⟩
  simp only [List.cons_append, List.nil_append] at eρ
  subst eρ
  refine To.need (by simp only [X.den, X.dens, X.denss, D.int_i, D.boo_b, D.str_s, D.rows_l, List.getD_cons_zero, List.getD_cons_succ, List.cons_append, List.nil_append, List.append_nil, List.length_cons, List.length_nil, decide_eq_true_eq, decide_eq_false_iff_not, Bool.not_eq_true', Bool.not_eq_false', Bool.and_eq_true, Bool.and_eq_false_iff, Bool.true_eq_false, Bool.false_eq_true, Bool.not_true, Bool.not_false, eq_self]; omega) ?_
  obtain ⟨dr, e6, c6⟩ := four (p := fun r => ∃ g : Int, (D.l [[.i 0], [.i 10], [.i 50], [.i 1000]]).cell r 0 = .i g ∧ 0 ≤ g ∧ g ≤ 1000) a6 b6 ⟨0, rfl, by decide⟩ ⟨10, rfl, by decide⟩ ⟨50, rfl, by decide⟩ ⟨1000, rfl, by decide⟩
  refine To.ret ?_
  simp (disch := omega) only [X.den, X.dens, X.denss, D.int_i, D.boo_b, D.str_s, D.rows_l, List.getD_cons_zero, List.getD_cons_succ, List.cons_append, List.nil_append, List.append_nil, List.length_cons, List.length_nil, en, e2, e3, e4, e5, e6, wr64]
  refine ⟨_, _, _, _, _, _, _, _, rfl, ⟨by omega, ?_, by omega, by omega⟩, h6⟩
  unfold chkV
  rw [if_pos ⟨wordB_yes nw, by omega, by omega⟩, if_pos (by omega)]
theorem srcOp_ok : ConOk Tryd.prog srcOp_K (srcOp_T.run srcM 0) := con_run follows (one_con (srcN_ok.to _) no_cons) srcOp_t rfl 0
/-- what is known of a valid one -/
theorem next_v {b : ByteArray} {k x y ye re dr s l z : Int} {d : Bool} (h : OpOk b k x y ye re dr) (hs : 0 ≤ s ∧ s ≤ 5) (hl : 1 ≤ l ∧ l ≤ 3) (hz : 1 ≤ z ∧ z ≤ 3) : ∃ o, opNext_T.run nxM 0 [.s b, .i k, .i x, .i y, .i ye, .i re, .i dr, .i s, .i l, .i z, .b d] = some o ∧ o = [.i (nextV k s l z d), .i 0] := by
  obtain ⟨o, h1, rfl⟩ := next_to (b := b) (k := k) (x := x) (y := y) (ye := ye) (re := re) (dr := dr) (s := s) (l := l) (z := z) (d := d) h.1
  have e := ckV_zero.2 (⟨h.2.1, hs, hl, hz⟩ : chkV b k x y ye re dr = 0 ∧ (0 ≤ s ∧ s ≤ 5) ∧ (1 ≤ l ∧ l ≤ 3) ∧ 1 ≤ z ∧ z ≤ 3)
  exact ⟨_, h1, by rw [e, if_pos rfl]⟩
theorem ask_v {b : ByteArray} {k x y ye re dr s l z r : Int} (h : OpOk b k x y ye re dr) (hs : 0 ≤ s ∧ s ≤ 5) (hl : 1 ≤ l ∧ l ≤ 3) (hz : 1 ≤ z ∧ z ≤ 3) (hr : 0 ≤ r ∧ r ≤ 4) : ∃ o, opAsk_T.run akM 10 [.s b, .i k, .i x, .i y, .i ye, .i re, .i dr, .i s, .i l, .i z, .i r] = some o ∧ o = [.i (askV k s l z r), .i (askE k s l z r)] := by
  obtain ⟨o, h1, rfl⟩ := ask_to (b := b) (k := k) (x := x) (y := y) (ye := ye) (re := re) (dr := dr) (s := s) (l := l) (z := z) (r := r) h.1
  have e := ckV_zero.2 (⟨h.2.1, hs, hl, hz⟩ : chkV b k x y ye re dr = 0 ∧ (0 ≤ s ∧ s ≤ 5) ∧ (1 ≤ l ∧ l ≤ 3) ∧ 1 ≤ z ∧ z ≤ 3)
  exact ⟨_, h1, by rw [e, if_pos ⟨rfl, hr⟩, if_pos rfl, if_pos hr]⟩
theorem fit_v {b : ByteArray} {k x y ye re dr l z : Int} (h : OpOk b k x y ye re dr) (hl : 1 ≤ l ∧ l ≤ 3) (hz : 1 ≤ z ∧ z ≤ 3) : ∃ o, opFit_T.run ckM1 0 [.s b, .i k, .i x, .i y, .i ye, .i re, .i dr, .i l, .i z] = some o ∧ o = [.b (decide (k ≤ l ∧ z = 1))] := by
  obtain ⟨o, h1, rfl⟩ := fit_to (b := b) (k := k) (x := x) (y := y) (ye := ye) (re := re) (dr := dr) (l := l) (z := z) h.1
  refine ⟨_, h1, ?_⟩
  congr 2
  rw [decide_eq_decide]
  exact ⟨fun q => q.2.2.2, fun q => ⟨h.2.1, hl, hz, q⟩⟩
theorem sane30_v : sane30_T.run ckM1 0 [] = some [.b true] := by
  have hw : wordP ⟨#[100, 114, 105, 108, 108]⟩ := by
    obtain ⟨b, e, _, h⟩ := name_ok (r := 0) (by decide) (by decide)
    have e' : D.s ⟨#[100, 114, 105, 108, 108]⟩ = .s b := e
    injection e' with e'
    rw [e']; exact h
  have hk : chkV ⟨#[100, 114, 105, 108, 108]⟩ 3 0 0 0 0 0 = 0 := by
    unfold chkV
    rw [if_pos ⟨wordB_yes hw, by omega, by omega⟩, if_pos (by omega)]
  have hc : ∃ o, opCheck_T.run ckM 0 [.s ⟨#[100, 114, 105, 108, 108]⟩, .i 3, .i 0, .i 0, .i 0, .i 0, .i 0] = some o ∧ o = [.i 0] := by
    obtain ⟨o, h1, rfl⟩ := chk_to (b := ⟨#[100, 114, 105, 108, 108]⟩) (k := 3) (x := 0) (y := 0) (ye := 0) (re := 0) (dr := 0) (by decide)
    exact ⟨_, h1, by rw [hk]⟩
  obtain ⟨l, h1, h2⟩ := run_to (M := ckM1) (N := 0) (t := sane30_T) (ds := []) (R := fun l => l = [.b true]) (by
    unfold sane30_T
    repeat' (first
      | (refine To.viaK hc ?_
         rintro _ ρ2 rfl eρ
         refine ⟨rfl, ?_⟩
         simp only [List.cons_append, List.nil_append] at eρ
         subst eρ)
      | (refine To.subK (fun K hK => ?_))
      | (refine To.yes rfl ?_)
      | (refine To.no rfl ?_)
      | (refine To.ret ⟨rfl, ?_⟩; refine hK _ _ rfl ?_; clear hK; clear K))
    exact To.ret rfl)
  rw [h1, h2]
theorem sane30_ok : ConOk Tryd.prog sane30_K (fun _ => some [.b true]) := con_of follows (one_con (opCheck_ok.to _) no_cons) sane30_t fun ds outs hl h => by
  injection h with h
  subst h
  match ds, hl with
  | [], _ =>
    refine ⟨fun i l h e => by simp [sane30_K] at e, 0, ?_⟩
    have h := sane30_v
    simp only [T.run, Option.map_eq_some_iff] at h
    obtain ⟨⟨xs, ρ'⟩, h1, h2⟩ := h
    exact ⟨xs, ρ', h1, h2⟩
theorem src_take30 {rows : List (List D)} : SrcOk (rows.take (min (min (rows.length : Int) 9223372036854775807) 600).toNat) 0 := ⟨by omega, by omega, by rw [List.length_take]; omega⟩
end Go.Proofs.YtkapaokcgbgjfaaDoor
