/- Status in full: what the program's functions and the reference's give. -/
import Derived.Test.YtdkamfkpmplaoaaSt8T
set_option linter.unusedVariables false
set_option linter.unusedSimpArgs false
namespace Go.Proofs.Ytdkamfkpmplaoaa
open Go.RowKit Fx
theorem len5 {l : List D} (h : l.length = 5) : ∃ a b c d e, l = [a, b, c, d, e] := by
  match l, h with
  | [a, b, c, d, e], _ => exact ⟨a, b, c, d, e, rfl⟩
theorem len8 {l : List D} (h : l.length = 8) : ∃ a b c d e f g i, l = [a, b, c, d, e, f, g, i] := by
  match l, h with
  | [a, b, c, d, e, f, g, i], _ => exact ⟨a, b, c, d, e, f, g, i, rfl⟩
def saneR : List D → Option (List D) := fun ds => if ds = [] then some [.b true] else none
theorem sane28_run : sane28_T.run noM 0 [] = some [.b true] := by kernel_rfl
theorem sane28_ok : ConOk Try.prog sane28_K saneR := con_of follows (M := noM) no_cons sane28_t fun ds outs hl h => by
  match ds, hl with
  | [], _ =>
    have h : some [D.b true] = some outs := h
    injection h with h
    subst h
    refine ⟨fun i l h e => by simp [sane28_K] at e, 0, ?_⟩
    have h := sane28_run
    simp only [T.run, Option.map_eq_some_iff] at h
    obtain ⟨⟨xs, ρ'⟩, h1, h2⟩ := h
    exact ⟨xs, ρ', h1, h2⟩
def VdS (lv bt t : Int) : Prop := (1 ≤ lv ∧ lv ≤ 3) ∧ -1 ≤ bt ∧ bt ≤ t ∧ (lv = 3 → bt = -1)
instance (lv bt t : Int) : Decidable (VdS lv bt t) := by unfold VdS; infer_instance
def vdS (lv bt t : Int) : Bool := decide (VdS lv bt t)
def nxT (lv bt t j d : Int) : Int × Int × Int :=
  if VdS lv bt t ∧ 1 ≤ j ∧ j ≤ 3 then (if (0 ≤ t ∧ t ≤ 2147483648) ∧ 0 ≤ d ∧ d ≤ 600 then (if j ≤ lv then (j, -1, 0) else if t - (if bt = -1 then t else bt) < d then (lv, (if bt = -1 then t else bt), 0) else (lv + 1, (if j = lv + 1 then -1 else t), 0)) else (0, 0, 1)) else (0, 0, 64)
def FL5 (f : Int → Int → Int → Int → Int → Int × Int × Int) : List D → Option (List D) := fun ds => match ds with
  | [.i a, .i b, .i c, .i d, .i e] => some [.i (f a b c d e).1, .i (f a b c d e).2.1, .i (f a b c d e).2.2]
  | _ => none
theorem nx_to {f : Int → Int → Int → Int → Int → Int × Int × Int} {a b c d e : Int} : ∃ l, FL5 f [.i a, .i b, .i c, .i d, .i e] = some l ∧ l = [.i (f a b c d e).1, .i (f a b c d e).2.1, .i (f a b c d e).2.2] := ⟨_, rfl, rfl⟩
def enS (lv bt n : Int) : Bool := !decide (lv < n)
def jdV (h s : Bool) (st n : Int) : Int := if h = true ∧ st = 1 then (if s = true ∧ 2 ≤ n then 3 else 2) else 1
def jdM : List D → Option (List D) := fun ds => some [.i (jdV (ds.getD 0 (.i 0)).boo (ds.getD 1 (.i 0)).boo (ia ds 6) (ia ds 7))]
theorem pvS_ok : ConOk Try.prog pvS_K (B3 vdS) := con_tot follows (M := noM) no_cons pvS_t rfl 0 fun ds outs hl h => by
  obtain ⟨a, b, g, rfl⟩ := len3 hl
  injection h with h
  subst h
  simp only [ia, List.getD_cons_zero, List.getD_cons_succ, vdS]
  unfold pvS_T
  by_cases hv : VdS a.int b.int g.int
  · rw [decide_eq_true hv]
    unfold VdS at hv
    (repeat' (first
        
        | (refine To.subK (fun K hK => ?_))
        | (refine To.need (by simp (disch := omega) only [X.den, X.dens, X.denss, D.int_i, D.boo_b, D.str_s, D.rows_l, List.getD_cons_zero, List.getD_cons_succ, List.cons_append, List.nil_append, List.append_nil, List.length_cons, List.length_nil, decide_eq_true_eq, decide_eq_false_iff_not, Bool.not_eq_true', Bool.not_eq_false', Bool.and_eq_true, Bool.and_eq_false_iff, Bool.true_eq_false, Bool.false_eq_true, Bool.not_true, Bool.not_false, eq_self, D.len_l, wr64, not_true_eq_false, not_false_eq_true] <;> omega) ?_)
        | (refine To.ite (fun c => ?_) (fun c => ?_) <;> ((try simp (disch := omega) only [X.den, X.dens, X.denss, D.int_i, D.boo_b, D.str_s, D.rows_l, List.getD_cons_zero, List.getD_cons_succ, List.cons_append, List.nil_append, List.append_nil, List.length_cons, List.length_nil, decide_eq_true_eq, decide_eq_false_iff_not, Bool.not_eq_true', Bool.not_eq_false', Bool.and_eq_true, Bool.and_eq_false_iff, Bool.true_eq_false, Bool.false_eq_true, Bool.not_true, Bool.not_false, eq_self, D.len_l, wr64, not_true_eq_false, not_false_eq_true] at c) <;> (try (exfalso; omega))))
        | (refine To.ret ⟨rfl, ?_⟩; (try simp (disch := omega) only [X.den, X.dens, X.denss, D.int_i, D.boo_b, D.str_s, D.rows_l, List.getD_cons_zero, List.getD_cons_succ, List.cons_append, List.nil_append, List.append_nil, List.length_cons, List.length_nil, decide_eq_true_eq, decide_eq_false_iff_not, Bool.not_eq_true', Bool.not_eq_false', Bool.and_eq_true, Bool.and_eq_false_iff, Bool.true_eq_false, Bool.false_eq_true, Bool.not_true, Bool.not_false, eq_self, D.len_l, wr64, not_true_eq_false, not_false_eq_true]); refine hK _ _ (by simp only [List.cons_append, List.nil_append]; first | done | rfl) ?_; clear hK; clear K)))
    all_goals (refine To.ret ?_; simp only [X.den, X.dens, X.denss, D.int_i, D.boo_b, D.str_s, D.rows_l, List.getD_cons_zero, List.getD_cons_succ, List.cons_append, List.nil_append, List.append_nil, List.length_cons, List.length_nil]; first | done | (congr 2; simp only [decide_eq_true_eq]; omega))
  · rw [decide_eq_false hv]
    unfold VdS at hv
    (repeat' (first
        
        | (refine To.subK (fun K hK => ?_))
        | (refine To.need (by simp (disch := omega) only [X.den, X.dens, X.denss, D.int_i, D.boo_b, D.str_s, D.rows_l, List.getD_cons_zero, List.getD_cons_succ, List.cons_append, List.nil_append, List.append_nil, List.length_cons, List.length_nil, decide_eq_true_eq, decide_eq_false_iff_not, Bool.not_eq_true', Bool.not_eq_false', Bool.and_eq_true, Bool.and_eq_false_iff, Bool.true_eq_false, Bool.false_eq_true, Bool.not_true, Bool.not_false, eq_self, D.len_l, wr64, not_true_eq_false, not_false_eq_true] <;> omega) ?_)
        | (refine To.ite (fun c => ?_) (fun c => ?_) <;> ((try simp (disch := omega) only [X.den, X.dens, X.denss, D.int_i, D.boo_b, D.str_s, D.rows_l, List.getD_cons_zero, List.getD_cons_succ, List.cons_append, List.nil_append, List.append_nil, List.length_cons, List.length_nil, decide_eq_true_eq, decide_eq_false_iff_not, Bool.not_eq_true', Bool.not_eq_false', Bool.and_eq_true, Bool.and_eq_false_iff, Bool.true_eq_false, Bool.false_eq_true, Bool.not_true, Bool.not_false, eq_self, D.len_l, wr64, not_true_eq_false, not_false_eq_true] at c) <;> (try (exfalso; omega))))
        | (refine To.ret ⟨rfl, ?_⟩; (try simp (disch := omega) only [X.den, X.dens, X.denss, D.int_i, D.boo_b, D.str_s, D.rows_l, List.getD_cons_zero, List.getD_cons_succ, List.cons_append, List.nil_append, List.append_nil, List.length_cons, List.length_nil, decide_eq_true_eq, decide_eq_false_iff_not, Bool.not_eq_true', Bool.not_eq_false', Bool.and_eq_true, Bool.and_eq_false_iff, Bool.true_eq_false, Bool.false_eq_true, Bool.not_true, Bool.not_false, eq_self, D.len_l, wr64, not_true_eq_false, not_false_eq_true]); refine hK _ _ (by simp only [List.cons_append, List.nil_append]; first | done | rfl) ?_; clear hK; clear K)))
    all_goals (refine To.ret ?_; simp only [X.den, X.dens, X.denss, D.int_i, D.boo_b, D.str_s, D.rows_l, List.getD_cons_zero, List.getD_cons_succ, List.cons_append, List.nil_append, List.append_nil, List.length_cons, List.length_nil]; first | done | (congr 2; simp only [decide_eq_false_iff_not]; omega))
def pvM : Models := Models.on pvS_K.f (B3 vdS) noM
theorem pnS_ok : ConOk Try.prog pnS_K (FL5 nxT) := con_tot follows (M := pvM) (one_con (pvS_ok.to _) no_cons) pnS_t rfl 0 fun ds outs hl h => by
  unfold FL5 at h
  split at h
  case h_2 => cases h
  rename_i a b g d e
  injection h with h
  subst h
  unfold pnS_T nxT
  by_cases hv : VdS a b g
  · simp only [hv, true_and]
    have hv' := hv
    unfold VdS at hv'
    (repeat' (first
        | (refine To.callX rfl (fun ρ2 eρ => ⟨rfl, ?_⟩); simp (disch := omega) only [X.den, X.dens, X.denss, D.int_i, D.boo_b, D.str_s, D.rows_l, List.getD_cons_zero, List.getD_cons_succ, List.cons_append, List.nil_append, List.append_nil, List.length_cons, List.length_nil, decide_eq_true_eq, decide_eq_false_iff_not, Bool.not_eq_true', Bool.not_eq_false', Bool.and_eq_true, Bool.and_eq_false_iff, Bool.true_eq_false, Bool.false_eq_true, Bool.not_true, Bool.not_false, eq_self, D.len_l, wr64, not_true_eq_false, not_false_eq_true, ia, vdS, hv, decide_true] at eρ; subst eρ)
        | (refine To.subK (fun K hK => ?_))
        | (refine To.need (by simp (disch := omega) only [X.den, X.dens, X.denss, D.int_i, D.boo_b, D.str_s, D.rows_l, List.getD_cons_zero, List.getD_cons_succ, List.cons_append, List.nil_append, List.append_nil, List.length_cons, List.length_nil, decide_eq_true_eq, decide_eq_false_iff_not, Bool.not_eq_true', Bool.not_eq_false', Bool.and_eq_true, Bool.and_eq_false_iff, Bool.true_eq_false, Bool.false_eq_true, Bool.not_true, Bool.not_false, eq_self, D.len_l, wr64, not_true_eq_false, not_false_eq_true, ia, vdS, hv, decide_true] <;> omega) ?_)
        | (refine To.ite (fun c => ?_) (fun c => ?_) <;> ((try simp (disch := omega) only [X.den, X.dens, X.denss, D.int_i, D.boo_b, D.str_s, D.rows_l, List.getD_cons_zero, List.getD_cons_succ, List.cons_append, List.nil_append, List.append_nil, List.length_cons, List.length_nil, decide_eq_true_eq, decide_eq_false_iff_not, Bool.not_eq_true', Bool.not_eq_false', Bool.and_eq_true, Bool.and_eq_false_iff, Bool.true_eq_false, Bool.false_eq_true, Bool.not_true, Bool.not_false, eq_self, D.len_l, wr64, not_true_eq_false, not_false_eq_true, ia, vdS, hv, decide_true] at c) <;> (try (exfalso; omega))))
        | (refine To.ret ⟨rfl, ?_⟩; (try simp (disch := omega) only [X.den, X.dens, X.denss, D.int_i, D.boo_b, D.str_s, D.rows_l, List.getD_cons_zero, List.getD_cons_succ, List.cons_append, List.nil_append, List.append_nil, List.length_cons, List.length_nil, decide_eq_true_eq, decide_eq_false_iff_not, Bool.not_eq_true', Bool.not_eq_false', Bool.and_eq_true, Bool.and_eq_false_iff, Bool.true_eq_false, Bool.false_eq_true, Bool.not_true, Bool.not_false, eq_self, D.len_l, wr64, not_true_eq_false, not_false_eq_true, ia, vdS, hv, decide_true]); refine hK _ _ (by simp only [List.cons_append, List.nil_append]; first | done | rfl) ?_; clear hK; clear K)))
    all_goals
      refine To.ret ?_
      simp (disch := omega) only [X.den, X.dens, X.denss, D.int_i, D.boo_b, D.str_s, D.rows_l, List.getD_cons_zero, List.getD_cons_succ, List.cons_append, List.nil_append, List.append_nil, List.length_cons, List.length_nil, wr64]
      simp only [List.cons.injEq, D.i.injEq, and_true]
      refine ⟨?_, ?_, ?_⟩ <;> ((repeat' split) <;> first | rfl | omega | (simp only; (repeat' split) <;> omega))
  · simp only [hv, false_and, if_false]
    (repeat' (first
        | (refine To.callX rfl (fun ρ2 eρ => ⟨rfl, ?_⟩); simp (disch := omega) only [X.den, X.dens, X.denss, D.int_i, D.boo_b, D.str_s, D.rows_l, List.getD_cons_zero, List.getD_cons_succ, List.cons_append, List.nil_append, List.append_nil, List.length_cons, List.length_nil, decide_eq_true_eq, decide_eq_false_iff_not, Bool.not_eq_true', Bool.not_eq_false', Bool.and_eq_true, Bool.and_eq_false_iff, Bool.true_eq_false, Bool.false_eq_true, Bool.not_true, Bool.not_false, eq_self, D.len_l, wr64, not_true_eq_false, not_false_eq_true, ia, vdS, hv, decide_false] at eρ; subst eρ)
        | (refine To.subK (fun K hK => ?_))
        | (refine To.need (by simp (disch := omega) only [X.den, X.dens, X.denss, D.int_i, D.boo_b, D.str_s, D.rows_l, List.getD_cons_zero, List.getD_cons_succ, List.cons_append, List.nil_append, List.append_nil, List.length_cons, List.length_nil, decide_eq_true_eq, decide_eq_false_iff_not, Bool.not_eq_true', Bool.not_eq_false', Bool.and_eq_true, Bool.and_eq_false_iff, Bool.true_eq_false, Bool.false_eq_true, Bool.not_true, Bool.not_false, eq_self, D.len_l, wr64, not_true_eq_false, not_false_eq_true, ia, vdS, hv, decide_false] <;> omega) ?_)
        | (refine To.ite (fun c => ?_) (fun c => ?_) <;> ((try simp (disch := omega) only [X.den, X.dens, X.denss, D.int_i, D.boo_b, D.str_s, D.rows_l, List.getD_cons_zero, List.getD_cons_succ, List.cons_append, List.nil_append, List.append_nil, List.length_cons, List.length_nil, decide_eq_true_eq, decide_eq_false_iff_not, Bool.not_eq_true', Bool.not_eq_false', Bool.and_eq_true, Bool.and_eq_false_iff, Bool.true_eq_false, Bool.false_eq_true, Bool.not_true, Bool.not_false, eq_self, D.len_l, wr64, not_true_eq_false, not_false_eq_true, ia, vdS, hv, decide_false] at c) <;> (try (exfalso; omega))))
        | (refine To.ret ⟨rfl, ?_⟩; (try simp (disch := omega) only [X.den, X.dens, X.denss, D.int_i, D.boo_b, D.str_s, D.rows_l, List.getD_cons_zero, List.getD_cons_succ, List.cons_append, List.nil_append, List.append_nil, List.length_cons, List.length_nil, decide_eq_true_eq, decide_eq_false_iff_not, Bool.not_eq_true', Bool.not_eq_false', Bool.and_eq_true, Bool.and_eq_false_iff, Bool.true_eq_false, Bool.false_eq_true, Bool.not_true, Bool.not_false, eq_self, D.len_l, wr64, not_true_eq_false, not_false_eq_true, ia, vdS, hv, decide_false]); refine hK _ _ (by simp only [List.cons_append, List.nil_append]; first | done | rfl) ?_; clear hK; clear K)))
    all_goals (refine To.ret ?_; simp only [X.den, X.dens, X.denss, D.int_i, D.boo_b, D.str_s, D.rows_l, List.getD_cons_zero, List.getD_cons_succ, List.cons_append, List.nil_append, List.append_nil, List.length_cons, List.length_nil])
theorem peS_ok : ConOk Try.prog peS_K (B3 enS) := con_tot follows (M := noM) no_cons peS_t rfl 0 fun ds outs hl h => by
  obtain ⟨a, b, g, rfl⟩ := len3 hl
  injection h with h
  subst h
  unfold peS_T
  exact To.ret rfl
theorem pjS_ok : ConOk Try.prog pjS_K jdM := con_tot follows (M := noM) no_cons pjS_t rfl 0 fun ds outs hl h => by
  obtain ⟨a, b, g, d, e, f, i, j, rfl⟩ := len8 hl
  injection h with h
  subst h
  simp only [ia, List.getD_cons_zero, List.getD_cons_succ, jdV]
  unfold pjS_T
  cases ha : a.boo <;> cases hb : b.boo
  all_goals
    (repeat' (first
        
        | (refine To.subK (fun K hK => ?_))
        | (refine To.need (by simp (disch := omega) only [X.den, X.dens, X.denss, D.int_i, D.boo_b, D.str_s, D.rows_l, List.getD_cons_zero, List.getD_cons_succ, List.cons_append, List.nil_append, List.append_nil, List.length_cons, List.length_nil, decide_eq_true_eq, decide_eq_false_iff_not, Bool.not_eq_true', Bool.not_eq_false', Bool.and_eq_true, Bool.and_eq_false_iff, Bool.true_eq_false, Bool.false_eq_true, Bool.not_true, Bool.not_false, eq_self, D.len_l, wr64, not_true_eq_false, not_false_eq_true, ha, hb] <;> omega) ?_)
        | (refine To.ite (fun c => ?_) (fun c => ?_) <;> ((try simp (disch := omega) only [X.den, X.dens, X.denss, D.int_i, D.boo_b, D.str_s, D.rows_l, List.getD_cons_zero, List.getD_cons_succ, List.cons_append, List.nil_append, List.append_nil, List.length_cons, List.length_nil, decide_eq_true_eq, decide_eq_false_iff_not, Bool.not_eq_true', Bool.not_eq_false', Bool.and_eq_true, Bool.and_eq_false_iff, Bool.true_eq_false, Bool.false_eq_true, Bool.not_true, Bool.not_false, eq_self, D.len_l, wr64, not_true_eq_false, not_false_eq_true, ha, hb] at c) <;> (try (exfalso; omega))))
        | (refine To.ret ⟨rfl, ?_⟩; (try simp (disch := omega) only [X.den, X.dens, X.denss, D.int_i, D.boo_b, D.str_s, D.rows_l, List.getD_cons_zero, List.getD_cons_succ, List.cons_append, List.nil_append, List.append_nil, List.length_cons, List.length_nil, decide_eq_true_eq, decide_eq_false_iff_not, Bool.not_eq_true', Bool.not_eq_false', Bool.and_eq_true, Bool.and_eq_false_iff, Bool.true_eq_false, Bool.false_eq_true, Bool.not_true, Bool.not_false, eq_self, D.len_l, wr64, not_true_eq_false, not_false_eq_true, ha, hb]); refine hK _ _ (by simp only [List.cons_append, List.nil_append]; first | done | rfl) ?_; clear hK; clear K)))
    all_goals
      refine To.ret ?_
      simp only [X.den, X.dens, X.denss, D.int_i, D.boo_b, D.str_s, D.rows_l, List.getD_cons_zero, List.getD_cons_succ, List.cons_append, List.nil_append, List.append_nil, List.length_cons, List.length_nil, eq_self, true_and, false_and, Bool.false_eq_true, if_false]
      first
        | done
        | ((repeat' split) <;> first | rfl | (exfalso; omega))
theorem rvS_ok : ConOk Try.prog rvS_K (B3 vdS) := con_tot follows (M := noM) no_cons rvS_t rfl 0 fun ds outs hl h => by
  obtain ⟨a, b, g, rfl⟩ := len3 hl
  injection h with h
  subst h
  simp only [ia, List.getD_cons_zero, List.getD_cons_succ, vdS]
  unfold rvS_T
  by_cases hv : VdS a.int b.int g.int
  · rw [decide_eq_true hv]
    unfold VdS at hv
    (repeat' (first
        
        | (refine To.subK (fun K hK => ?_))
        | (refine To.need (by simp (disch := omega) only [X.den, X.dens, X.denss, D.int_i, D.boo_b, D.str_s, D.rows_l, List.getD_cons_zero, List.getD_cons_succ, List.cons_append, List.nil_append, List.append_nil, List.length_cons, List.length_nil, decide_eq_true_eq, decide_eq_false_iff_not, Bool.not_eq_true', Bool.not_eq_false', Bool.and_eq_true, Bool.and_eq_false_iff, Bool.true_eq_false, Bool.false_eq_true, Bool.not_true, Bool.not_false, eq_self, D.len_l, wr64, not_true_eq_false, not_false_eq_true] <;> omega) ?_)
        | (refine To.ite (fun c => ?_) (fun c => ?_) <;> ((try simp (disch := omega) only [X.den, X.dens, X.denss, D.int_i, D.boo_b, D.str_s, D.rows_l, List.getD_cons_zero, List.getD_cons_succ, List.cons_append, List.nil_append, List.append_nil, List.length_cons, List.length_nil, decide_eq_true_eq, decide_eq_false_iff_not, Bool.not_eq_true', Bool.not_eq_false', Bool.and_eq_true, Bool.and_eq_false_iff, Bool.true_eq_false, Bool.false_eq_true, Bool.not_true, Bool.not_false, eq_self, D.len_l, wr64, not_true_eq_false, not_false_eq_true] at c) <;> (try (exfalso; omega))))
        | (refine To.ret ⟨rfl, ?_⟩; (try simp (disch := omega) only [X.den, X.dens, X.denss, D.int_i, D.boo_b, D.str_s, D.rows_l, List.getD_cons_zero, List.getD_cons_succ, List.cons_append, List.nil_append, List.append_nil, List.length_cons, List.length_nil, decide_eq_true_eq, decide_eq_false_iff_not, Bool.not_eq_true', Bool.not_eq_false', Bool.and_eq_true, Bool.and_eq_false_iff, Bool.true_eq_false, Bool.false_eq_true, Bool.not_true, Bool.not_false, eq_self, D.len_l, wr64, not_true_eq_false, not_false_eq_true]); refine hK _ _ (by simp only [List.cons_append, List.nil_append]; first | done | rfl) ?_; clear hK; clear K)))
    all_goals (refine To.ret ?_; simp only [X.den, X.dens, X.denss, D.int_i, D.boo_b, D.str_s, D.rows_l, List.getD_cons_zero, List.getD_cons_succ, List.cons_append, List.nil_append, List.append_nil, List.length_cons, List.length_nil]; first | done | (congr 2; simp only [decide_eq_true_eq]; omega))
  · rw [decide_eq_false hv]
    unfold VdS at hv
    (repeat' (first
        
        | (refine To.subK (fun K hK => ?_))
        | (refine To.need (by simp (disch := omega) only [X.den, X.dens, X.denss, D.int_i, D.boo_b, D.str_s, D.rows_l, List.getD_cons_zero, List.getD_cons_succ, List.cons_append, List.nil_append, List.append_nil, List.length_cons, List.length_nil, decide_eq_true_eq, decide_eq_false_iff_not, Bool.not_eq_true', Bool.not_eq_false', Bool.and_eq_true, Bool.and_eq_false_iff, Bool.true_eq_false, Bool.false_eq_true, Bool.not_true, Bool.not_false, eq_self, D.len_l, wr64, not_true_eq_false, not_false_eq_true] <;> omega) ?_)
        | (refine To.ite (fun c => ?_) (fun c => ?_) <;> ((try simp (disch := omega) only [X.den, X.dens, X.denss, D.int_i, D.boo_b, D.str_s, D.rows_l, List.getD_cons_zero, List.getD_cons_succ, List.cons_append, List.nil_append, List.append_nil, List.length_cons, List.length_nil, decide_eq_true_eq, decide_eq_false_iff_not, Bool.not_eq_true', Bool.not_eq_false', Bool.and_eq_true, Bool.and_eq_false_iff, Bool.true_eq_false, Bool.false_eq_true, Bool.not_true, Bool.not_false, eq_self, D.len_l, wr64, not_true_eq_false, not_false_eq_true] at c) <;> (try (exfalso; omega))))
        | (refine To.ret ⟨rfl, ?_⟩; (try simp (disch := omega) only [X.den, X.dens, X.denss, D.int_i, D.boo_b, D.str_s, D.rows_l, List.getD_cons_zero, List.getD_cons_succ, List.cons_append, List.nil_append, List.append_nil, List.length_cons, List.length_nil, decide_eq_true_eq, decide_eq_false_iff_not, Bool.not_eq_true', Bool.not_eq_false', Bool.and_eq_true, Bool.and_eq_false_iff, Bool.true_eq_false, Bool.false_eq_true, Bool.not_true, Bool.not_false, eq_self, D.len_l, wr64, not_true_eq_false, not_false_eq_true]); refine hK _ _ (by simp only [List.cons_append, List.nil_append]; first | done | rfl) ?_; clear hK; clear K)))
    all_goals (refine To.ret ?_; simp only [X.den, X.dens, X.denss, D.int_i, D.boo_b, D.str_s, D.rows_l, List.getD_cons_zero, List.getD_cons_succ, List.cons_append, List.nil_append, List.append_nil, List.length_cons, List.length_nil]; first | done | (congr 2; simp only [decide_eq_false_iff_not]; omega))
def rvM : Models := Models.on rvS_K.f (B3 vdS) noM
theorem rnS_ok : ConOk Try.prog rnS_K (FL5 nxT) := con_tot follows (M := rvM) (one_con (rvS_ok.to _) no_cons) rnS_t rfl 0 fun ds outs hl h => by
  unfold FL5 at h
  split at h
  case h_2 => cases h
  rename_i a b g d e
  injection h with h
  subst h
  unfold rnS_T nxT
  by_cases hv : VdS a b g
  · simp only [hv, true_and]
    have hv' := hv
    unfold VdS at hv'
    (repeat' (first
        | (refine To.callX rfl (fun ρ2 eρ => ⟨rfl, ?_⟩); simp (disch := omega) only [X.den, X.dens, X.denss, D.int_i, D.boo_b, D.str_s, D.rows_l, List.getD_cons_zero, List.getD_cons_succ, List.cons_append, List.nil_append, List.append_nil, List.length_cons, List.length_nil, decide_eq_true_eq, decide_eq_false_iff_not, Bool.not_eq_true', Bool.not_eq_false', Bool.and_eq_true, Bool.and_eq_false_iff, Bool.true_eq_false, Bool.false_eq_true, Bool.not_true, Bool.not_false, eq_self, D.len_l, wr64, not_true_eq_false, not_false_eq_true, ia, vdS, hv, decide_true] at eρ; subst eρ)
        | (refine To.subK (fun K hK => ?_))
        | (refine To.need (by simp (disch := omega) only [X.den, X.dens, X.denss, D.int_i, D.boo_b, D.str_s, D.rows_l, List.getD_cons_zero, List.getD_cons_succ, List.cons_append, List.nil_append, List.append_nil, List.length_cons, List.length_nil, decide_eq_true_eq, decide_eq_false_iff_not, Bool.not_eq_true', Bool.not_eq_false', Bool.and_eq_true, Bool.and_eq_false_iff, Bool.true_eq_false, Bool.false_eq_true, Bool.not_true, Bool.not_false, eq_self, D.len_l, wr64, not_true_eq_false, not_false_eq_true, ia, vdS, hv, decide_true] <;> omega) ?_)
        | (refine To.ite (fun c => ?_) (fun c => ?_) <;> ((try simp (disch := omega) only [X.den, X.dens, X.denss, D.int_i, D.boo_b, D.str_s, D.rows_l, List.getD_cons_zero, List.getD_cons_succ, List.cons_append, List.nil_append, List.append_nil, List.length_cons, List.length_nil, decide_eq_true_eq, decide_eq_false_iff_not, Bool.not_eq_true', Bool.not_eq_false', Bool.and_eq_true, Bool.and_eq_false_iff, Bool.true_eq_false, Bool.false_eq_true, Bool.not_true, Bool.not_false, eq_self, D.len_l, wr64, not_true_eq_false, not_false_eq_true, ia, vdS, hv, decide_true] at c) <;> (try (exfalso; omega))))
        | (refine To.ret ⟨rfl, ?_⟩; (try simp (disch := omega) only [X.den, X.dens, X.denss, D.int_i, D.boo_b, D.str_s, D.rows_l, List.getD_cons_zero, List.getD_cons_succ, List.cons_append, List.nil_append, List.append_nil, List.length_cons, List.length_nil, decide_eq_true_eq, decide_eq_false_iff_not, Bool.not_eq_true', Bool.not_eq_false', Bool.and_eq_true, Bool.and_eq_false_iff, Bool.true_eq_false, Bool.false_eq_true, Bool.not_true, Bool.not_false, eq_self, D.len_l, wr64, not_true_eq_false, not_false_eq_true, ia, vdS, hv, decide_true]); refine hK _ _ (by simp only [List.cons_append, List.nil_append]; first | done | rfl) ?_; clear hK; clear K)))
    all_goals
      refine To.ret ?_
      simp (disch := omega) only [X.den, X.dens, X.denss, D.int_i, D.boo_b, D.str_s, D.rows_l, List.getD_cons_zero, List.getD_cons_succ, List.cons_append, List.nil_append, List.append_nil, List.length_cons, List.length_nil, wr64]
      simp only [List.cons.injEq, D.i.injEq, and_true]
      refine ⟨?_, ?_, ?_⟩ <;> ((repeat' split) <;> first | rfl | omega | (simp only; (repeat' split) <;> omega))
  · simp only [hv, false_and, if_false]
    (repeat' (first
        | (refine To.callX rfl (fun ρ2 eρ => ⟨rfl, ?_⟩); simp (disch := omega) only [X.den, X.dens, X.denss, D.int_i, D.boo_b, D.str_s, D.rows_l, List.getD_cons_zero, List.getD_cons_succ, List.cons_append, List.nil_append, List.append_nil, List.length_cons, List.length_nil, decide_eq_true_eq, decide_eq_false_iff_not, Bool.not_eq_true', Bool.not_eq_false', Bool.and_eq_true, Bool.and_eq_false_iff, Bool.true_eq_false, Bool.false_eq_true, Bool.not_true, Bool.not_false, eq_self, D.len_l, wr64, not_true_eq_false, not_false_eq_true, ia, vdS, hv, decide_false] at eρ; subst eρ)
        | (refine To.subK (fun K hK => ?_))
        | (refine To.need (by simp (disch := omega) only [X.den, X.dens, X.denss, D.int_i, D.boo_b, D.str_s, D.rows_l, List.getD_cons_zero, List.getD_cons_succ, List.cons_append, List.nil_append, List.append_nil, List.length_cons, List.length_nil, decide_eq_true_eq, decide_eq_false_iff_not, Bool.not_eq_true', Bool.not_eq_false', Bool.and_eq_true, Bool.and_eq_false_iff, Bool.true_eq_false, Bool.false_eq_true, Bool.not_true, Bool.not_false, eq_self, D.len_l, wr64, not_true_eq_false, not_false_eq_true, ia, vdS, hv, decide_false] <;> omega) ?_)
        | (refine To.ite (fun c => ?_) (fun c => ?_) <;> ((try simp (disch := omega) only [X.den, X.dens, X.denss, D.int_i, D.boo_b, D.str_s, D.rows_l, List.getD_cons_zero, List.getD_cons_succ, List.cons_append, List.nil_append, List.append_nil, List.length_cons, List.length_nil, decide_eq_true_eq, decide_eq_false_iff_not, Bool.not_eq_true', Bool.not_eq_false', Bool.and_eq_true, Bool.and_eq_false_iff, Bool.true_eq_false, Bool.false_eq_true, Bool.not_true, Bool.not_false, eq_self, D.len_l, wr64, not_true_eq_false, not_false_eq_true, ia, vdS, hv, decide_false] at c) <;> (try (exfalso; omega))))
        | (refine To.ret ⟨rfl, ?_⟩; (try simp (disch := omega) only [X.den, X.dens, X.denss, D.int_i, D.boo_b, D.str_s, D.rows_l, List.getD_cons_zero, List.getD_cons_succ, List.cons_append, List.nil_append, List.append_nil, List.length_cons, List.length_nil, decide_eq_true_eq, decide_eq_false_iff_not, Bool.not_eq_true', Bool.not_eq_false', Bool.and_eq_true, Bool.and_eq_false_iff, Bool.true_eq_false, Bool.false_eq_true, Bool.not_true, Bool.not_false, eq_self, D.len_l, wr64, not_true_eq_false, not_false_eq_true, ia, vdS, hv, decide_false]); refine hK _ _ (by simp only [List.cons_append, List.nil_append]; first | done | rfl) ?_; clear hK; clear K)))
    all_goals (refine To.ret ?_; simp only [X.den, X.dens, X.denss, D.int_i, D.boo_b, D.str_s, D.rows_l, List.getD_cons_zero, List.getD_cons_succ, List.cons_append, List.nil_append, List.append_nil, List.length_cons, List.length_nil])
theorem reS_ok : ConOk Try.prog reS_K (B3 enS) := con_tot follows (M := noM) no_cons reS_t rfl 0 fun ds outs hl h => by
  obtain ⟨a, b, g, rfl⟩ := len3 hl
  injection h with h
  subst h
  unfold reS_T
  exact To.ret rfl
theorem rjS_ok : ConOk Try.prog rjS_K jdM := con_tot follows (M := noM) no_cons rjS_t rfl 0 fun ds outs hl h => by
  obtain ⟨a, b, g, d, e, f, i, j, rfl⟩ := len8 hl
  injection h with h
  subst h
  simp only [ia, List.getD_cons_zero, List.getD_cons_succ, jdV]
  unfold rjS_T
  cases ha : a.boo <;> cases hb : b.boo
  all_goals
    (repeat' (first
        
        | (refine To.subK (fun K hK => ?_))
        | (refine To.need (by simp (disch := omega) only [X.den, X.dens, X.denss, D.int_i, D.boo_b, D.str_s, D.rows_l, List.getD_cons_zero, List.getD_cons_succ, List.cons_append, List.nil_append, List.append_nil, List.length_cons, List.length_nil, decide_eq_true_eq, decide_eq_false_iff_not, Bool.not_eq_true', Bool.not_eq_false', Bool.and_eq_true, Bool.and_eq_false_iff, Bool.true_eq_false, Bool.false_eq_true, Bool.not_true, Bool.not_false, eq_self, D.len_l, wr64, not_true_eq_false, not_false_eq_true, ha, hb] <;> omega) ?_)
        | (refine To.ite (fun c => ?_) (fun c => ?_) <;> ((try simp (disch := omega) only [X.den, X.dens, X.denss, D.int_i, D.boo_b, D.str_s, D.rows_l, List.getD_cons_zero, List.getD_cons_succ, List.cons_append, List.nil_append, List.append_nil, List.length_cons, List.length_nil, decide_eq_true_eq, decide_eq_false_iff_not, Bool.not_eq_true', Bool.not_eq_false', Bool.and_eq_true, Bool.and_eq_false_iff, Bool.true_eq_false, Bool.false_eq_true, Bool.not_true, Bool.not_false, eq_self, D.len_l, wr64, not_true_eq_false, not_false_eq_true, ha, hb] at c) <;> (try (exfalso; omega))))
        | (refine To.ret ⟨rfl, ?_⟩; (try simp (disch := omega) only [X.den, X.dens, X.denss, D.int_i, D.boo_b, D.str_s, D.rows_l, List.getD_cons_zero, List.getD_cons_succ, List.cons_append, List.nil_append, List.append_nil, List.length_cons, List.length_nil, decide_eq_true_eq, decide_eq_false_iff_not, Bool.not_eq_true', Bool.not_eq_false', Bool.and_eq_true, Bool.and_eq_false_iff, Bool.true_eq_false, Bool.false_eq_true, Bool.not_true, Bool.not_false, eq_self, D.len_l, wr64, not_true_eq_false, not_false_eq_true, ha, hb]); refine hK _ _ (by simp only [List.cons_append, List.nil_append]; first | done | rfl) ?_; clear hK; clear K)))
    all_goals
      refine To.ret ?_
      simp only [X.den, X.dens, X.denss, D.int_i, D.boo_b, D.str_s, D.rows_l, List.getD_cons_zero, List.getD_cons_succ, List.cons_append, List.nil_append, List.append_nil, List.length_cons, List.length_nil, eq_self, true_and, false_and, Bool.false_eq_true, if_false]
      first
        | done
        | ((repeat' split) <;> first | rfl | (exfalso; omega))
/-- the levels, and the error -/
def stG (d : Int) : Int → Int → Int → List Int → List Int × Int
  | t, lv, bt, z :: zs => if (nxT lv bt t z d).2.2 = 0 then ((nxT lv bt t z d).1 :: (stG d (t + 1) (nxT lv bt t z d).1 (nxT lv bt t z d).2.1 zs).1, (stG d (t + 1) (nxT lv bt t z d).1 (nxT lv bt t z d).2.1 zs).2) else ([], (nxT lv bt t z d).2.2)
  | _, _, _, [] => ([], 0)
def stOut (d : Int) (zs : List Int) : List Int × Int := if 400 < zs.length then ([], 2) else if (stG d 0 1 (-1) zs).2 = 0 then ((stG d 0 1 (-1) zs).1, 0) else ([], (stG d 0 1 (-1) zs).2)
theorem stG_len {d : Int} : ∀ {zs : List Int} {t lv bt : Int}, (stG d t lv bt zs).1.length ≤ zs.length
  | [], t, lv, bt => by simp [stG]
  | z :: zs, t, lv, bt => by
    unfold stG
    split
    · simp only [List.length_cons]; have := stG_len (d := d) (zs := zs) (t := t + 1) (lv := (nxT lv bt t z d).1) (bt := (nxT lv bt t z d).2.1); omega
    · simp
theorem stOut_len {d : Int} {zs : List Int} (h : zs.length ≤ 1000) : (stOut d zs).1.length ≤ 1000 := by
  have := stG_len (d := d) (zs := zs) (t := 0) (lv := 1) (bt := -1)
  unfold stOut
  split
  · simp
  · split
    · show (stG d 0 1 (-1) zs).1.length ≤ 1000; omega
    · simp
theorem stG_next {d t lv bt : Int} {zs : List Int} {i : Nat} (h1 : i < zs.length) : stG d t lv bt (zs.drop i) =
    if (nxT lv bt t (zs.getD i 0) d).2.2 = 0 then ((nxT lv bt t (zs.getD i 0) d).1 :: (stG d (t + 1) (nxT lv bt t (zs.getD i 0) d).1 (nxT lv bt t (zs.getD i 0) d).2.1 (zs.drop (i + 1))).1, (stG d (t + 1) (nxT lv bt t (zs.getD i 0) d).1 (nxT lv bt t (zs.getD i 0) d).2.1 (zs.drop (i + 1))).2) else ([], (nxT lv bt t (zs.getD i 0) d).2.2) := by
  rw [List.drop_eq_getElem_cons h1]
  simp only [stG, List.getD_eq_getElem?_getD, List.getElem?_eq_getElem h1, Option.getD_some]
theorem stG_nil {d t lv bt : Int} {zs : List Int} {i : Nat} (h : zs.length ≤ i) : stG d t lv bt (zs.drop i) = ([], 0) := by
  rw [List.drop_eq_nil_of_le h]
  simp [stG]
theorem set_rep {done : List Int} {n : Nat} {v : Int} (h : 0 < n) : (done ++ List.replicate n 0).set done.length v = (done ++ [v]) ++ List.replicate (n - 1) 0 := by
  obtain ⟨m, rfl⟩ := Nat.exists_eq_succ_of_ne_zero (Nat.pos_iff_ne_zero.1 h)
  rw [List.set_append_right _ _ (Nat.le_refl _), Nat.sub_self, List.replicate_succ, List.set_cons_zero]
  simp
def prM : Models := Models.on pnS_K.f (FL5 nxT) noM
theorem prS_ok : ConOk Try.prog prS_K (prS_T.run prM 2000) := con_run follows (one_con (pnS_ok.to _) no_cons) prS_t rfl 2000
theorem prun_full {d : Int} {zs : List Int} (hm : zs.length ≤ 1000) :
    ∃ o, prS_T.run prM 2000 [.l (nums zs), .i d] = some o ∧ o = [.l (nums (stOut d zs).1), .i (stOut d zs).2] := by
  refine run_to ?_
  unfold prS_T
  (repeat' (first
      
      | (refine To.subK (fun K hK => ?_))
      | (refine To.need (by simp (disch := omega) only [X.den, X.dens, X.denss, D.int_i, D.boo_b, D.str_s, D.rows_l, List.getD_cons_zero, List.getD_cons_succ, List.cons_append, List.nil_append, List.append_nil, List.length_cons, List.length_nil, decide_eq_true_eq, decide_eq_false_iff_not, Bool.not_eq_true', Bool.not_eq_false', Bool.and_eq_true, Bool.and_eq_false_iff, Bool.true_eq_false, Bool.false_eq_true, Bool.not_true, Bool.not_false, eq_self, D.len_l, wr64, not_true_eq_false, not_false_eq_true, nums_len] <;> omega) ?_)
      | (refine To.ite (fun c => ?_) (fun c => ?_) <;> ((try simp (disch := omega) only [X.den, X.dens, X.denss, D.int_i, D.boo_b, D.str_s, D.rows_l, List.getD_cons_zero, List.getD_cons_succ, List.cons_append, List.nil_append, List.append_nil, List.length_cons, List.length_nil, decide_eq_true_eq, decide_eq_false_iff_not, Bool.not_eq_true', Bool.not_eq_false', Bool.and_eq_true, Bool.and_eq_false_iff, Bool.true_eq_false, Bool.false_eq_true, Bool.not_true, Bool.not_false, eq_self, D.len_l, wr64, not_true_eq_false, not_false_eq_true, nums_len] at c) <;> (try (exfalso; omega))))
      | (refine To.ret ⟨rfl, ?_⟩; (try simp (disch := omega) only [X.den, X.dens, X.denss, D.int_i, D.boo_b, D.str_s, D.rows_l, List.getD_cons_zero, List.getD_cons_succ, List.cons_append, List.nil_append, List.append_nil, List.length_cons, List.length_nil, decide_eq_true_eq, decide_eq_false_iff_not, Bool.not_eq_true', Bool.not_eq_false', Bool.and_eq_true, Bool.and_eq_false_iff, Bool.true_eq_false, Bool.false_eq_true, Bool.not_true, Bool.not_false, eq_self, D.len_l, wr64, not_true_eq_false, not_false_eq_true, nums_len]); refine hK _ _ (by simp only [List.cons_append, List.nil_append]; first | done | rfl) ?_; clear hK; clear K)))
  all_goals first
    | (refine To.ret ?_; simp only [X.den, X.dens, X.denss, D.int_i, D.boo_b, D.str_s, D.rows_l, List.getD_cons_zero, List.getD_cons_succ, List.cons_append, List.nil_append, List.append_nil, List.length_cons, List.length_nil, stOut]; rw [if_pos (by omega)]; rfl)
    | skip
  all_goals
    refine To.loopK (fun m l => ∃ (i lv bt : Int) (done : List Int), l = [.l (nums (done ++ List.replicate m 0)), .i lv, .i bt, .i i] ∧ i = done.length ∧ i + m = zs.length ∧ (stG d 0 1 (-1) zs).1 = done ++ (stG d i lv bt (zs.drop done.length)).1 ∧ (stG d 0 1 (-1) zs).2 = (stG d i lv bt (zs.drop done.length)).2)
      (fun l => (∃ a b, l = [.i 1, .l (nums (stG d 0 1 (-1) zs).1), a, b, .i 0, .i 0, .i 0] ∧ (stG d 0 1 (-1) zs).2 = 0) ∨ ∃ a b c x y e, l = [.i 0, a, b, c, x, y, .i e] ∧ ¬ e = 0 ∧ (stG d 0 1 (-1) zs).2 = e) zs.length (by omega) ?_ ?_ ?_
    · refine ⟨0, 1, -1, [], ?_, rfl, by omega, by simp, by simp⟩
      simp only [X.den, X.dens, X.denss, D.int_i, D.boo_b, D.str_s, D.rows_l, List.getD_cons_zero, List.getD_cons_succ, List.cons_append, List.nil_append, List.append_nil, List.length_cons, List.length_nil, D.len_l, nums_len]
      rw [show (min (zs.length : Int) 9223372036854775807).toNat = zs.length by omega, nums_rep]
    · rintro m l ρ2 ⟨i, lv, bt, done, rfl, i0, i1, hr, hr2⟩ eρ
      simp only [List.cons_append, List.nil_append] at eρ
      subst eρ
      refine To.ite (fun q => ?_) (fun q => ?_) <;> simp only [X.den, X.dens, X.denss, D.int_i, D.boo_b, D.str_s, D.rows_l, List.getD_cons_zero, List.getD_cons_succ, List.cons_append, List.nil_append, List.append_nil, List.length_cons, List.length_nil, decide_eq_true_eq, decide_eq_false_iff_not, Bool.not_eq_true', Bool.not_eq_false', Bool.and_eq_true, Bool.and_eq_false_iff, Bool.true_eq_false, Bool.false_eq_true, Bool.not_true, Bool.not_false, eq_self, D.len_l, nums_len] at q
      · refine To.need (by simp only [X.den, X.dens, X.denss, D.int_i, D.boo_b, D.str_s, D.rows_l, List.getD_cons_zero, List.getD_cons_succ, List.cons_append, List.nil_append, List.append_nil, List.length_cons, List.length_nil, decide_eq_true_eq, decide_eq_false_iff_not, Bool.not_eq_true', Bool.not_eq_false', Bool.and_eq_true, Bool.and_eq_false_iff, Bool.true_eq_false, Bool.false_eq_true, Bool.not_true, Bool.not_false, eq_self, D.len_l, nums_len]; omega) ?_
        have c1 := nums_cell (xs := zs) (i := i) (by omega) (by omega)
        have en : i.toNat = done.length := by omega
        rw [stG_next (by omega), ← en] at hr hr2
        refine To.viaK (by (try simp (disch := omega) only [X.den, X.dens, X.denss, D.int_i, D.boo_b, D.str_s, D.rows_l, List.getD_cons_zero, List.getD_cons_succ, List.cons_append, List.nil_append, List.append_nil, List.length_cons, List.length_nil, decide_eq_true_eq, decide_eq_false_iff_not, Bool.not_eq_true', Bool.not_eq_false', Bool.and_eq_true, Bool.and_eq_false_iff, Bool.true_eq_false, Bool.false_eq_true, Bool.not_true, Bool.not_false, eq_self, D.len_l, wr64, not_true_eq_false, not_false_eq_true, c1]); exact nx_to) ?_
        rintro _ ρ2 rfl eρ
        refine ⟨rfl, ?_⟩
        simp only [List.cons_append, List.nil_append] at eρ
        subst eρ
        generalize nxT lv bt i (zs.getD i.toNat 0) d = r at hr hr2 ⊢
        obtain ⟨a, b, e⟩ := r
        simp only at hr hr2 ⊢
        refine To.ite (fun q => ?_) (fun q => ?_) <;> simp only [X.den, X.dens, X.denss, D.int_i, D.boo_b, D.str_s, D.rows_l, List.getD_cons_zero, List.getD_cons_succ, List.cons_append, List.nil_append, List.append_nil, List.length_cons, List.length_nil, decide_eq_true_eq, decide_eq_false_iff_not, Bool.not_eq_true', Bool.not_eq_false', Bool.and_eq_true, Bool.and_eq_false_iff, Bool.true_eq_false, Bool.false_eq_true, Bool.not_true, Bool.not_false, eq_self] at q
        · subst q
          simp only [if_true] at hr hr2
          refine To.need (by simp only [X.den, X.dens, X.denss, D.int_i, D.boo_b, D.str_s, D.rows_l, List.getD_cons_zero, List.getD_cons_succ, List.cons_append, List.nil_append, List.append_nil, List.length_cons, List.length_nil, decide_eq_true_eq, decide_eq_false_iff_not, Bool.not_eq_true', Bool.not_eq_false', Bool.and_eq_true, Bool.and_eq_false_iff, Bool.true_eq_false, Bool.false_eq_true, Bool.not_true, Bool.not_false, eq_self, D.len_l, nums_len, List.length_append, List.length_replicate]; omega) ?_
          refine To.ret (.inl ⟨rfl, m - 1, by omega, i + 1, a, b, done ++ [a], ?_, ?_, ?_, ?_, ?_⟩)
          · simp (disch := omega) only [X.den, X.dens, X.denss, D.int_i, D.boo_b, D.str_s, D.rows_l, List.getD_cons_zero, List.getD_cons_succ, List.cons_append, List.nil_append, List.append_nil, List.length_cons, List.length_nil, wr64]
            rw [nums_put (by omega) (by rw [List.length_append, List.length_replicate]; omega), en, set_rep (by omega)]
          · rw [List.length_append, List.length_singleton]; omega
          · omega
          · rw [hr, List.length_append, List.length_singleton, en]
            simp
          · rw [hr2, List.length_append, List.length_singleton, en]
        · simp only [if_neg q] at hr2
          exact To.ret (.inr ⟨rfl, .inr ⟨_, _, _, _, _, e, by simp only [X.den, X.dens, X.denss, D.int_i, D.boo_b, D.str_s, D.rows_l, List.getD_cons_zero, List.getD_cons_succ, List.cons_append, List.nil_append, List.append_nil, List.length_cons, List.length_nil]; rfl, q, hr2⟩⟩)
      · rw [stG_nil (by omega)] at hr hr2
        have em : m = 0 := by omega
        subst em
        refine To.ret (.inr ⟨rfl, .inl ⟨.i lv, .i bt, ?_, hr2⟩⟩)
        rw [hr]
        simp only [X.den, X.dens, X.denss, D.int_i, D.boo_b, D.str_s, D.rows_l, List.getD_cons_zero, List.getD_cons_succ, List.cons_append, List.nil_append, List.append_nil, List.length_cons, List.length_nil, List.replicate_zero]
    · rintro l ρ2 (⟨a, b, rfl, h2⟩ | ⟨a, b, c, x, y, e, rfl, h1, h2⟩) eρ <;> (simp only [List.cons_append, List.nil_append] at eρ; subst eρ)
      · refine ⟨rfl, To.no rfl (To.ret ?_)⟩
        simp only [X.den, X.dens, X.denss, D.int_i, D.boo_b, D.str_s, D.rows_l, List.getD_cons_zero, List.getD_cons_succ, List.cons_append, List.nil_append, List.append_nil, List.length_cons, List.length_nil, stOut]
        rw [if_neg (by omega), if_pos h2]
      · refine ⟨rfl, To.yes rfl (To.ret ?_)⟩
        simp only [X.den, X.dens, X.denss, D.int_i, D.boo_b, D.str_s, D.rows_l, List.getD_cons_zero, List.getD_cons_succ, List.cons_append, List.nil_append, List.append_nil, List.length_cons, List.length_nil, stOut]
        rw [if_neg (by omega), if_neg (by omega), h2]
        rfl
def rrM : Models := Models.on rnS_K.f (FL5 nxT) noM
theorem rrS_ok : ConOk Try.prog rrS_K (rrS_T.run rrM 2000) := con_run follows (one_con (rnS_ok.to _) no_cons) rrS_t rfl 2000
theorem rrun_full {d : Int} {zs : List Int} (hm : zs.length ≤ 1000) :
    ∃ o, rrS_T.run rrM 2000 [.l (nums zs), .i d] = some o ∧ o = [.l (nums (stOut d zs).1), .i (stOut d zs).2] := by
  refine run_to ?_
  unfold rrS_T
  (repeat' (first
      
      | (refine To.subK (fun K hK => ?_))
      | (refine To.need (by simp (disch := omega) only [X.den, X.dens, X.denss, D.int_i, D.boo_b, D.str_s, D.rows_l, List.getD_cons_zero, List.getD_cons_succ, List.cons_append, List.nil_append, List.append_nil, List.length_cons, List.length_nil, decide_eq_true_eq, decide_eq_false_iff_not, Bool.not_eq_true', Bool.not_eq_false', Bool.and_eq_true, Bool.and_eq_false_iff, Bool.true_eq_false, Bool.false_eq_true, Bool.not_true, Bool.not_false, eq_self, D.len_l, wr64, not_true_eq_false, not_false_eq_true, nums_len] <;> omega) ?_)
      | (refine To.ite (fun c => ?_) (fun c => ?_) <;> ((try simp (disch := omega) only [X.den, X.dens, X.denss, D.int_i, D.boo_b, D.str_s, D.rows_l, List.getD_cons_zero, List.getD_cons_succ, List.cons_append, List.nil_append, List.append_nil, List.length_cons, List.length_nil, decide_eq_true_eq, decide_eq_false_iff_not, Bool.not_eq_true', Bool.not_eq_false', Bool.and_eq_true, Bool.and_eq_false_iff, Bool.true_eq_false, Bool.false_eq_true, Bool.not_true, Bool.not_false, eq_self, D.len_l, wr64, not_true_eq_false, not_false_eq_true, nums_len] at c) <;> (try (exfalso; omega))))
      | (refine To.ret ⟨rfl, ?_⟩; (try simp (disch := omega) only [X.den, X.dens, X.denss, D.int_i, D.boo_b, D.str_s, D.rows_l, List.getD_cons_zero, List.getD_cons_succ, List.cons_append, List.nil_append, List.append_nil, List.length_cons, List.length_nil, decide_eq_true_eq, decide_eq_false_iff_not, Bool.not_eq_true', Bool.not_eq_false', Bool.and_eq_true, Bool.and_eq_false_iff, Bool.true_eq_false, Bool.false_eq_true, Bool.not_true, Bool.not_false, eq_self, D.len_l, wr64, not_true_eq_false, not_false_eq_true, nums_len]); refine hK _ _ (by simp only [List.cons_append, List.nil_append]; first | done | rfl) ?_; clear hK; clear K)))
  all_goals first
    | (refine To.ret ?_; simp only [X.den, X.dens, X.denss, D.int_i, D.boo_b, D.str_s, D.rows_l, List.getD_cons_zero, List.getD_cons_succ, List.cons_append, List.nil_append, List.append_nil, List.length_cons, List.length_nil, stOut]; rw [if_pos (by omega)]; rfl)
    | skip
  all_goals
    refine To.loopK (fun m l => ∃ (i lv bt : Int) (done : List Int), l = [.l (nums (done)), .i lv, .i bt, .i i] ∧ i = done.length ∧ i + m = zs.length ∧ (stG d 0 1 (-1) zs).1 = done ++ (stG d i lv bt (zs.drop done.length)).1 ∧ (stG d 0 1 (-1) zs).2 = (stG d i lv bt (zs.drop done.length)).2)
      (fun l => (∃ a b, l = [.i 1, .l (nums (stG d 0 1 (-1) zs).1), a, b, .i 0, .i 0, .i 0] ∧ (stG d 0 1 (-1) zs).2 = 0) ∨ ∃ a b c x y e, l = [.i 0, a, b, c, x, y, .i e] ∧ ¬ e = 0 ∧ (stG d 0 1 (-1) zs).2 = e) zs.length (by omega) ?_ ?_ ?_
    · refine ⟨0, 1, -1, [], ?_, rfl, by omega, by simp, by simp⟩
      simp only [X.den, X.dens, X.denss, D.int_i, D.boo_b, D.str_s, D.rows_l, List.getD_cons_zero, List.getD_cons_succ, List.cons_append, List.nil_append, List.append_nil, List.length_cons, List.length_nil]
      rfl
    · rintro m l ρ2 ⟨i, lv, bt, done, rfl, i0, i1, hr, hr2⟩ eρ
      simp only [List.cons_append, List.nil_append] at eρ
      subst eρ
      refine To.ite (fun q => ?_) (fun q => ?_) <;> simp only [X.den, X.dens, X.denss, D.int_i, D.boo_b, D.str_s, D.rows_l, List.getD_cons_zero, List.getD_cons_succ, List.cons_append, List.nil_append, List.append_nil, List.length_cons, List.length_nil, decide_eq_true_eq, decide_eq_false_iff_not, Bool.not_eq_true', Bool.not_eq_false', Bool.and_eq_true, Bool.and_eq_false_iff, Bool.true_eq_false, Bool.false_eq_true, Bool.not_true, Bool.not_false, eq_self, D.len_l, nums_len] at q
      · refine To.need (by simp only [X.den, X.dens, X.denss, D.int_i, D.boo_b, D.str_s, D.rows_l, List.getD_cons_zero, List.getD_cons_succ, List.cons_append, List.nil_append, List.append_nil, List.length_cons, List.length_nil, decide_eq_true_eq, decide_eq_false_iff_not, Bool.not_eq_true', Bool.not_eq_false', Bool.and_eq_true, Bool.and_eq_false_iff, Bool.true_eq_false, Bool.false_eq_true, Bool.not_true, Bool.not_false, eq_self, D.len_l, nums_len]; omega) ?_
        have c1 := nums_cell (xs := zs) (i := i) (by omega) (by omega)
        have en : i.toNat = done.length := by omega
        rw [stG_next (by omega), ← en] at hr hr2
        refine To.viaK (by (try simp (disch := omega) only [X.den, X.dens, X.denss, D.int_i, D.boo_b, D.str_s, D.rows_l, List.getD_cons_zero, List.getD_cons_succ, List.cons_append, List.nil_append, List.append_nil, List.length_cons, List.length_nil, decide_eq_true_eq, decide_eq_false_iff_not, Bool.not_eq_true', Bool.not_eq_false', Bool.and_eq_true, Bool.and_eq_false_iff, Bool.true_eq_false, Bool.false_eq_true, Bool.not_true, Bool.not_false, eq_self, D.len_l, wr64, not_true_eq_false, not_false_eq_true, c1]); exact nx_to) ?_
        rintro _ ρ2 rfl eρ
        refine ⟨rfl, ?_⟩
        simp only [List.cons_append, List.nil_append] at eρ
        subst eρ
        generalize nxT lv bt i (zs.getD i.toNat 0) d = r at hr hr2 ⊢
        obtain ⟨a, b, e⟩ := r
        simp only at hr hr2 ⊢
        refine To.ite (fun q => ?_) (fun q => ?_) <;> simp only [X.den, X.dens, X.denss, D.int_i, D.boo_b, D.str_s, D.rows_l, List.getD_cons_zero, List.getD_cons_succ, List.cons_append, List.nil_append, List.append_nil, List.length_cons, List.length_nil, decide_eq_true_eq, decide_eq_false_iff_not, Bool.not_eq_true', Bool.not_eq_false', Bool.and_eq_true, Bool.and_eq_false_iff, Bool.true_eq_false, Bool.false_eq_true, Bool.not_true, Bool.not_false, eq_self] at q
        · subst q
          simp only [if_true] at hr hr2
          refine To.need (by simp only [X.den, X.dens, X.denss, D.int_i, D.boo_b, D.str_s, D.rows_l, List.getD_cons_zero, List.getD_cons_succ, List.cons_append, List.nil_append, List.append_nil, List.length_cons, List.length_nil, decide_eq_true_eq, decide_eq_false_iff_not, Bool.not_eq_true', Bool.not_eq_false', Bool.and_eq_true, Bool.and_eq_false_iff, Bool.true_eq_false, Bool.false_eq_true, Bool.not_true, Bool.not_false, eq_self, D.len_l, nums_len, List.length_append, List.length_replicate]; omega) ?_
          refine To.ret (.inl ⟨rfl, m - 1, by omega, i + 1, a, b, done ++ [a], ?_, ?_, ?_, ?_, ?_⟩)
          · simp (disch := omega) only [X.den, X.dens, X.denss, D.int_i, D.boo_b, D.str_s, D.rows_l, List.getD_cons_zero, List.getD_cons_succ, List.cons_append, List.nil_append, List.append_nil, List.length_cons, List.length_nil, wr64]
            rw [nums_one, nums_app]
          · rw [List.length_append, List.length_singleton]; omega
          · omega
          · rw [hr, List.length_append, List.length_singleton, en]
            simp
          · rw [hr2, List.length_append, List.length_singleton, en]
        · simp only [if_neg q] at hr2
          exact To.ret (.inr ⟨rfl, .inr ⟨_, _, _, _, _, e, by simp only [X.den, X.dens, X.denss, D.int_i, D.boo_b, D.str_s, D.rows_l, List.getD_cons_zero, List.getD_cons_succ, List.cons_append, List.nil_append, List.append_nil, List.length_cons, List.length_nil]; rfl, q, hr2⟩⟩)
      · rw [stG_nil (by omega)] at hr hr2
        have em : m = 0 := by omega
        subst em
        refine To.ret (.inr ⟨rfl, .inl ⟨.i lv, .i bt, ?_, hr2⟩⟩)
        rw [hr]
        simp only [X.den, X.dens, X.denss, D.int_i, D.boo_b, D.str_s, D.rows_l, List.getD_cons_zero, List.getD_cons_succ, List.cons_append, List.nil_append, List.append_nil, List.length_cons, List.length_nil, List.replicate_zero]
    · rintro l ρ2 (⟨a, b, rfl, h2⟩ | ⟨a, b, c, x, y, e, rfl, h1, h2⟩) eρ <;> (simp only [List.cons_append, List.nil_append] at eρ; subst eρ)
      · refine ⟨rfl, To.no rfl (To.ret ?_)⟩
        simp only [X.den, X.dens, X.denss, D.int_i, D.boo_b, D.str_s, D.rows_l, List.getD_cons_zero, List.getD_cons_succ, List.cons_append, List.nil_append, List.append_nil, List.length_cons, List.length_nil, stOut]
        rw [if_neg (by omega), if_pos h2]
      · refine ⟨rfl, To.yes rfl (To.ret ?_)⟩
        simp only [X.den, X.dens, X.denss, D.int_i, D.boo_b, D.str_s, D.rows_l, List.getD_cons_zero, List.getD_cons_succ, List.cons_append, List.nil_append, List.append_nil, List.length_cons, List.length_nil, stOut]
        rw [if_neg (by omega), if_neg (by omega), h2]
        rfl
theorem sEst_ok : ConOk Try.prog sEst_K (sEst_T.run srcM 0) := con_run follows (one_con (srcN_ok.to _) no_cons) sEst_t rfl 0
theorem sEst_to {rows : List (List D)} {at_ : Int} {t : D} (h : SrcOk rows at_) : ∃ l, sEst_T.run srcM 0 [.l rows, .i at_, t] = some l ∧ ∃ a b c d e at', l = [a, b, c, d, e, .l rows, .i at'] ∧ SrcOk rows at' := by
  refine run_to ?_
  unfold sEst_T
  refine To.viaK (by (try simp (disch := omega) only [X.den, X.dens, X.denss, D.int_i, D.boo_b, D.str_s, D.rows_l, List.getD_cons_zero, List.getD_cons_succ, List.cons_append, List.nil_append, List.append_nil, List.length_cons, List.length_nil, decide_eq_true_eq, decide_eq_false_iff_not, Bool.not_eq_true', Bool.not_eq_false', Bool.and_eq_true, Bool.and_eq_false_iff, Bool.true_eq_false, Bool.false_eq_true, Bool.not_true, Bool.not_false, eq_self, D.len_l, wr64, not_true_eq_false, not_false_eq_true]); exact srcN_to h (by omega) (by omega)) ?_
  rintro _ ρ2 ⟨r0, t0, rfl, a0, b0, h0⟩ eρ
  refine ⟨rfl, ?_⟩
  simp only [List.cons_append, List.nil_append] at eρ
  subst eρ
  refine To.need (by simp only [X.den, X.dens, X.denss, D.int_i, D.boo_b, D.str_s, D.rows_l, List.getD_cons_zero, List.getD_cons_succ, List.cons_append, List.nil_append, List.append_nil, List.length_cons, List.length_nil, decide_eq_true_eq, decide_eq_false_iff_not, Bool.not_eq_true', Bool.not_eq_false', Bool.and_eq_true, Bool.and_eq_false_iff, Bool.true_eq_false, Bool.false_eq_true, Bool.not_true, Bool.not_false, eq_self]; omega) ?_
  refine To.viaK (by (try simp (disch := omega) only [X.den, X.dens, X.denss, D.int_i, D.boo_b, D.str_s, D.rows_l, List.getD_cons_zero, List.getD_cons_succ, List.cons_append, List.nil_append, List.append_nil, List.length_cons, List.length_nil, decide_eq_true_eq, decide_eq_false_iff_not, Bool.not_eq_true', Bool.not_eq_false', Bool.and_eq_true, Bool.and_eq_false_iff, Bool.true_eq_false, Bool.false_eq_true, Bool.not_true, Bool.not_false, eq_self, D.len_l, wr64, not_true_eq_false, not_false_eq_true]); exact srcN_to h0 (by omega) (by omega)) ?_
  rintro _ ρ2 ⟨r1, t1, rfl, a1, b1, h1⟩ eρ
  refine ⟨rfl, ?_⟩
  simp only [List.cons_append, List.nil_append] at eρ
  subst eρ
  refine To.need (by simp only [X.den, X.dens, X.denss, D.int_i, D.boo_b, D.str_s, D.rows_l, List.getD_cons_zero, List.getD_cons_succ, List.cons_append, List.nil_append, List.append_nil, List.length_cons, List.length_nil, decide_eq_true_eq, decide_eq_false_iff_not, Bool.not_eq_true', Bool.not_eq_false', Bool.and_eq_true, Bool.and_eq_false_iff, Bool.true_eq_false, Bool.false_eq_true, Bool.not_true, Bool.not_false, eq_self]; omega) ?_
  refine To.viaK (by (try simp (disch := omega) only [X.den, X.dens, X.denss, D.int_i, D.boo_b, D.str_s, D.rows_l, List.getD_cons_zero, List.getD_cons_succ, List.cons_append, List.nil_append, List.append_nil, List.length_cons, List.length_nil, decide_eq_true_eq, decide_eq_false_iff_not, Bool.not_eq_true', Bool.not_eq_false', Bool.and_eq_true, Bool.and_eq_false_iff, Bool.true_eq_false, Bool.false_eq_true, Bool.not_true, Bool.not_false, eq_self, D.len_l, wr64, not_true_eq_false, not_false_eq_true]); exact srcN_to h1 (by omega) (by omega)) ?_
  rintro _ ρ2 ⟨r2, t2, rfl, a2, b2, h2⟩ eρ
  refine ⟨rfl, ?_⟩
  simp only [List.cons_append, List.nil_append] at eρ
  subst eρ
  refine To.need (by simp only [X.den, X.dens, X.denss, D.int_i, D.boo_b, D.str_s, D.rows_l, List.getD_cons_zero, List.getD_cons_succ, List.cons_append, List.nil_append, List.append_nil, List.length_cons, List.length_nil, decide_eq_true_eq, decide_eq_false_iff_not, Bool.not_eq_true', Bool.not_eq_false', Bool.and_eq_true, Bool.and_eq_false_iff, Bool.true_eq_false, Bool.false_eq_true, Bool.not_true, Bool.not_false, eq_self]; omega) ?_
  refine To.viaK (by (try simp (disch := omega) only [X.den, X.dens, X.denss, D.int_i, D.boo_b, D.str_s, D.rows_l, List.getD_cons_zero, List.getD_cons_succ, List.cons_append, List.nil_append, List.append_nil, List.length_cons, List.length_nil, decide_eq_true_eq, decide_eq_false_iff_not, Bool.not_eq_true', Bool.not_eq_false', Bool.and_eq_true, Bool.and_eq_false_iff, Bool.true_eq_false, Bool.false_eq_true, Bool.not_true, Bool.not_false, eq_self, D.len_l, wr64, not_true_eq_false, not_false_eq_true]); exact srcN_to h2 (by omega) (by omega)) ?_
  rintro _ ρ2 ⟨r3, t3, rfl, a3, b3, h3⟩ eρ
  refine ⟨rfl, ?_⟩
  simp only [List.cons_append, List.nil_append] at eρ
  subst eρ
  refine To.need (by simp only [X.den, X.dens, X.denss, D.int_i, D.boo_b, D.str_s, D.rows_l, List.getD_cons_zero, List.getD_cons_succ, List.cons_append, List.nil_append, List.append_nil, List.length_cons, List.length_nil, decide_eq_true_eq, decide_eq_false_iff_not, Bool.not_eq_true', Bool.not_eq_false', Bool.and_eq_true, Bool.and_eq_false_iff, Bool.true_eq_false, Bool.false_eq_true, Bool.not_true, Bool.not_false, eq_self]; omega) (To.ret ?_)
  simp only [X.den, X.dens, X.denss, D.int_i, D.boo_b, D.str_s, D.rows_l, List.getD_cons_zero, List.getD_cons_succ, List.cons_append, List.nil_append, List.append_nil, List.length_cons, List.length_nil]
  exact ⟨_, _, _, _, _, _, rfl, h3⟩
theorem levels_ok : ConOk Try.prog levels_K (levels_T.run srcM 100) := con_run follows (one_con (srcN_ok.to _) no_cons) levels_t rfl 100
theorem levels_to {rows : List (List D)} {at_ most : Int} (h : SrcOk rows at_) (hm : 0 ≤ most ∧ most ≤ 50) :
    ∃ l, levels_T.run srcM 100 [.l rows, .i at_, .i most] = some l ∧ ∃ ls at', l = [.l (nums ls), .l rows, .i at'] ∧ ls.length ≤ most ∧ SrcOk rows at' := by
  refine run_to ?_
  unfold levels_T
  refine To.viaK (by (try simp (disch := omega) only [X.den, X.dens, X.denss, D.int_i, D.boo_b, D.str_s, D.rows_l, List.getD_cons_zero, List.getD_cons_succ, List.cons_append, List.nil_append, List.append_nil, List.length_cons, List.length_nil, decide_eq_true_eq, decide_eq_false_iff_not, Bool.not_eq_true', Bool.not_eq_false', Bool.and_eq_true, Bool.and_eq_false_iff, Bool.true_eq_false, Bool.false_eq_true, Bool.not_true, Bool.not_false, eq_self, D.len_l, wr64, not_true_eq_false, not_false_eq_true]); exact srcN_to h (by omega) (by omega)) ?_
  rintro _ ρ2 ⟨n, t0, rfl, a0, b0, h0⟩ eρ
  refine ⟨rfl, ?_⟩
  simp only [List.cons_append, List.nil_append] at eρ
  subst eρ
  refine To.loopK (fun m l => ∃ (ls : List Int) (t : Int), l = [.l (nums ls), .l rows, .i t, .i m] ∧ (ls.length : Int) + m = n ∧ SrcOk rows t) (fun l => ∃ (ls : List Int) (t : Int), l = [.l (nums ls), .l rows, .i t] ∧ (ls.length : Int) = n ∧ SrcOk rows t) n.toNat (by omega) ?_ ?_ ?_
  · refine ⟨[], t0, ?_, by simp only [List.length_nil]; omega, h0⟩
    simp only [X.den, X.dens, X.denss, D.int_i, D.boo_b, D.str_s, D.rows_l, List.getD_cons_zero, List.getD_cons_succ, List.cons_append, List.nil_append, List.append_nil, List.length_cons, List.length_nil]
    rw [show ((n.toNat : Nat) : Int) = n by omega]
    rfl
  · rintro m l ρ2 ⟨ls, t, rfl, e2, h2⟩ eρ
    simp only [List.cons_append, List.nil_append] at eρ
    subst eρ
    refine To.ite (fun c => ?_) (fun c => ?_) <;> simp only [X.den, X.dens, X.denss, D.int_i, D.boo_b, D.str_s, D.rows_l, List.getD_cons_zero, List.getD_cons_succ, List.cons_append, List.nil_append, List.append_nil, List.length_cons, List.length_nil, decide_eq_true_eq, decide_eq_false_iff_not, Bool.not_eq_true', Bool.not_eq_false', Bool.and_eq_true, Bool.and_eq_false_iff, Bool.true_eq_false, Bool.false_eq_true, Bool.not_true, Bool.not_false, eq_self] at c
    · refine To.viaK (by (try simp (disch := omega) only [X.den, X.dens, X.denss, D.int_i, D.boo_b, D.str_s, D.rows_l, List.getD_cons_zero, List.getD_cons_succ, List.cons_append, List.nil_append, List.append_nil, List.length_cons, List.length_nil, decide_eq_true_eq, decide_eq_false_iff_not, Bool.not_eq_true', Bool.not_eq_false', Bool.and_eq_true, Bool.and_eq_false_iff, Bool.true_eq_false, Bool.false_eq_true, Bool.not_true, Bool.not_false, eq_self, D.len_l, wr64, not_true_eq_false, not_false_eq_true]); exact srcN_to h2 (by omega) (by omega)) ?_
      rintro _ ρ2 ⟨j, t4, rfl, a4, b4, h4⟩ eρ
      refine ⟨rfl, ?_⟩
      simp only [List.cons_append, List.nil_append] at eρ
      subst eρ
      refine To.need (by simp only [X.den, X.dens, X.denss, D.int_i, D.boo_b, D.str_s, D.rows_l, List.getD_cons_zero, List.getD_cons_succ, List.cons_append, List.nil_append, List.append_nil, List.length_cons, List.length_nil, decide_eq_true_eq, decide_eq_false_iff_not, Bool.not_eq_true', Bool.not_eq_false', Bool.and_eq_true, Bool.and_eq_false_iff, Bool.true_eq_false, Bool.false_eq_true, Bool.not_true, Bool.not_false, eq_self]; omega) ?_
      refine To.need (by simp only [X.den, X.dens, X.denss, D.int_i, D.boo_b, D.str_s, D.rows_l, List.getD_cons_zero, List.getD_cons_succ, List.cons_append, List.nil_append, List.append_nil, List.length_cons, List.length_nil, decide_eq_true_eq, decide_eq_false_iff_not, Bool.not_eq_true', Bool.not_eq_false', Bool.and_eq_true, Bool.and_eq_false_iff, Bool.true_eq_false, Bool.false_eq_true, Bool.not_true, Bool.not_false, eq_self, D.len_l, nums_len]; omega) ?_
      obtain ⟨z, zm, ez⟩ := pick_cell (zs := [3, 3, 2, 1, 3]) a4 (by simpa using b4)
      simp only [List.map_cons, List.map_nil] at ez
      refine To.ret (.inl ⟨rfl, m - 1, by omega, ls ++ [z], t4, ?_, by simp; omega, h4⟩)
      simp (disch := omega) only [X.den, X.dens, X.denss, D.int_i, D.boo_b, D.str_s, D.rows_l, List.getD_cons_zero, List.getD_cons_succ, List.cons_append, List.nil_append, List.append_nil, List.length_cons, List.length_nil, ez, wr64]
      rw [nums_one, nums_app, show ((m - 1 : Nat) : Int) = m - 1 by omega]
    · exact To.ret (.inr ⟨rfl, ls, t, by simp only [X.den, X.dens, X.denss, D.int_i, D.boo_b, D.str_s, D.rows_l, List.getD_cons_zero, List.getD_cons_succ, List.cons_append, List.nil_append, List.append_nil, List.length_cons, List.length_nil], by omega, h2⟩)
  · rintro l ρ2 ⟨ls, t, rfl, e2, h2⟩ eρ
    simp only [List.cons_append, List.nil_append] at eρ
    subst eρ
    exact ⟨rfl, To.ret (by simp only [X.den, X.dens, X.denss, D.int_i, D.boo_b, D.str_s, D.rows_l, List.getD_cons_zero, List.getD_cons_succ, List.cons_append, List.nil_append, List.append_nil, List.length_cons, List.length_nil]; exact ⟨ls, t, rfl, by omega, h2⟩)⟩
end Go.Proofs.Ytdkamfkpmplaoaa
