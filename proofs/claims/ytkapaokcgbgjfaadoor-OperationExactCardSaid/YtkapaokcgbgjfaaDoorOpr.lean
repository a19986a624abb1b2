/- Runs of an operation. -/
import Derived.Test.YtkapaokcgbgjfaaDoorOpl
import Derived.Test.YtkapaokcgbgjfaaDoorNums
set_option linter.unusedVariables false
set_option linter.unusedSimpArgs false
namespace Go.Proofs.YtkapaokcgbgjfaaDoor
open Go.RowKit Fx
def opRun_H : List Hint := [
  ⟨18014398442389278, 10, [], ⟨[.und, .int .i64 (.V 11), .var 0, .var 1, .ptr 0 0, .und, .und, .und, .con (.slice none 0 0), .int .i64 (.N 0), .var 2, .und, .und, .und, .und, .und, .und, .und, .und, .und, .und, .und, .und, .und, .und, .und, .int .i64 (.len (.V 8)), .int .i64 (.V 12), .und, .und, .und, .und, .und, .und, .und, .und, .und, .und, .und, .und, .und, .und, .und, .und, .und, .und, .und, .und, .und, .und, .und, .und, .und, .und], [.fix [.str (.V 0), .int .i64 (.V 1), .int .i64 (.V 2), .int .i64 (.V 3), .int .i64 (.V 4), .int .i64 (.V 5), .int .i64 (.V 6)] true, .rows [.int .i64] (.V 10) 2], 13, 3, [none, none, none, none, none, none, none, none, none, none, none, none, none], [], [⟨0, [.int .i64], (.V 8)⟩, ⟨1, [.int .i64], (.V 9)⟩]⟩⟩]
def opRun_K : Con := ⟨24, [.val true [.str, .int .i64, .int .i64, .int .i64, .int .i64, .int .i64, .int .i64], .val false [.int .i64], .val false [.sl [.int .i64]], .val false [.sl [.int .i64]]], [.val false [.sl [.int .i64]], .val false [.int .i64]], []⟩
def opRun_T : T (List X) :=
  (.ite (.eq (.len (.V 8)) (.len (.V 9)))
  (.ite (.lt (.N 400) (.len (.V 8)))
   (.ret [(.rows []), (.N 2)])
   (.need (.and (.not (.lt (.len (.V 8)) (.len (.V 8)))) (.not (.lt (.N 17592186044416) (.len (.V 8)))))
    (.loop [(.rep (.len (.V 8)) [(.N 0)]), (.V 7), (.N 0)]
     (.ite (.lt (.V 12) (.len (.V 8)))
      (.need (.and (.not (.lt (.V 12) (.N 0))) (.lt (.V 12) (.len (.V 8))))
       (.need (.and (.not (.lt (.V 12) (.N 0))) (.lt (.V 12) (.len (.V 9))))
        (.call 17 [(.V 0), (.V 1), (.V 2), (.V 3), (.V 4), (.V 5), (.V 6), (.V 11), (.at (.V 8) (.V 12) 0), (.at (.V 9) (.V 12) 0), (.B false)] 2
         (.ite (.eq (.V 14) (.N 0))
          (.need (.and (.not (.lt (.V 12) (.N 0))) (.lt (.V 12) (.len (.V 10))))
           (.ret (true, [(.put (.V 10) (.V 12) 0 (.V 13)), (.V 13), (.wr .i64 (.add (.V 12) (.N 1)))])))
          (.ret (false, [(.N 0), (.V 10), (.V 14)]))))))
      (.ret (false, [(.N 1), (.V 10), (.N 0)]))) 3
     (.ite (.eq (.V 10) (.N 0))
      (.ret [(.rows []), (.V 12)])
      (.ret [(.V 11), (.N 0)])))))
  (.ret [(.rows []), (.N 8)]))
set_option maxRecDepth 100000 in
theorem opRun_t : runS Tryd.prog [opNext_K.to []] [(24, opRun_H)] opRun_K = opRun_T := by kernel_rfl
def zones_H : List Hint := [
  ⟨2147475953, 6, [.t [.int .i64] 6, .t [.int .i64] 7], ⟨[.ptr 0 0, .und, .und, .und, .con (.slice none 0 0), .con (.slice none 0 0), .var 4, .var 5, .int .i64 (.V 10), .und, .und, .und, .und, .und, .und, .und, .und, .und, .und, .und, .und, .und, .und, .und, .und, .und, .und, .und, .und, .und, .und], [.fix [.var 6, .int .i64 (.V 9)] true, .rows [.int .i64] (.V 6) 4, .rows [.int .i64] (.V 7) 5], 11, 7, [none, none, none, none, none, none, none, none, none, none, none], [], [⟨0, [.int .i64], (.V 0)⟩, ⟨1, [.int .i64], (.V 4)⟩, ⟨6, [.int .i64], (.V 8)⟩]⟩⟩]
def zones_K : Con := ⟨23, [.ptr [.sl [.int .i64], .int .i64], .val false [.int .i64]], [.val false [.sl [.int .i64]], .val false [.sl [.int .i64]]], []⟩
def zones_T : T (List X) :=
  (.call 15 [(.V 0), (.V 1), (.wr .i64 (.add (.V 2) (.N 1)))] 3
  (.loop [(.rows []), (.rows []), (.V 4), (.V 5), (.V 3)]
   (.ite (.lt (.N 0) (.V 10))
    (.call 15 [(.V 8), (.V 9), (.N 4)] 3
     (.need (.and (.not (.lt (.V 11) (.N 0))) (.lt (.V 11) (.N 4)))
      (.need (.not (.lt (.N 17592186044416) (.add (.len (.V 6)) (.N 1))))
       (.call 15 [(.V 12), (.V 13), (.N 5)] 3
        (.need (.and (.not (.lt (.V 14) (.N 0))) (.lt (.V 14) (.N 5)))
         (.need (.not (.lt (.N 17592186044416) (.add (.len (.V 7)) (.N 1))))
          (.ret (true, [(.app (.V 6) (.rows [[(.at (.rows [[(.N 3)], [(.N 3)], [(.N 2)], [(.N 1)]]) (.V 11) 0)]])), (.app (.V 7) (.rows [[(.at (.rows [[(.N 1)], [(.N 1)], [(.N 1)], [(.N 2)], [(.N 3)]]) (.V 14) 0)]])), (.V 15), (.V 16), (.wr .i64 (.sub (.V 10) (.N 1)))]))))))))
    (.ret (false, [(.V 6), (.V 7), (.V 8), (.V 9)]))) 4
   (.ret [(.V 6), (.V 7), (.V 8), (.V 9)])))
set_option maxRecDepth 100000 in
theorem zones_t : runS Tryd.prog [srcN_K.to []] [(23, zones_H)] zones_K = zones_T := by kernel_rfl
/-- the states behind Next, and the last one -/
def runL (k : Int) : Int → List Int → List Int → List Int
  | s, l :: ls, z :: zs => nextV k s l z false :: runL k (nextV k s l z false) ls zs
  | _, _, _ => []
def endL (k : Int) : Int → List Int → List Int → Int
  | s, l :: ls, z :: zs => endL k (nextV k s l z false) ls zs
  | s, _, _ => s
theorem runL_len {k : Int} : ∀ {s : Int} {ls zs : List Int}, ls.length = zs.length → (runL k s ls zs).length = ls.length
  | s, [], [], _ => rfl
  | s, l :: ls, z :: zs, h => by simp only [runL, List.length_cons]; rw [runL_len (by simpa using h)]
  | s, [], _ :: _, h => by simp at h
  | s, _ :: _, [], h => by simp at h
theorem runL_split {k : Int} : ∀ {s : Int} {ls zs : List Int} {j : Nat}, runL k s ls zs = runL k s (ls.take j) (zs.take j) ++ runL k (endL k s (ls.take j) (zs.take j)) (ls.drop j) (zs.drop j)
  | s, [], zs, j => by cases j <;> cases zs <;> simp [runL]
  | s, l :: ls, [], j => by cases j <;> simp [runL]
  | s, l :: ls, z :: zs, 0 => by simp [runL, endL]
  | s, l :: ls, z :: zs, j + 1 => by
    simp only [List.take_succ_cons, List.drop_succ_cons, runL, endL, List.cons_append]
    rw [← runL_split (ls := ls) (zs := zs) (j := j)]
theorem endL_last {k : Int} : ∀ {s : Int} {ls zs : List Int} {d : Int}, ls.length = zs.length → 0 < ls.length → (runL k s ls zs).getD (ls.length - 1) d = endL k s ls zs
  | s, [l], [z], d, _, _ => by simp [runL, endL]
  | s, l :: l' :: ls, z :: z' :: zs, d, h, _ => by
    have := endL_last (k := k) (s := nextV k s l z false) (ls := l' :: ls) (zs := z' :: zs) (d := d) (by simpa using h) (by simp)
    simp only [List.length_cons, Nat.add_sub_cancel] at this ⊢
    rw [show endL k s (l :: l' :: ls) (z :: z' :: zs) = endL k (nextV k s l z false) (l' :: ls) (z' :: zs) from rfl, ← this]
    simp [runL]
  | s, [], _, d, _, h => by simp at h
  | s, [l], [], d, h, _ => by simp at h
  | s, [l], _ :: _ :: _, d, h, _ => by simp at h
  | s, _ :: _ :: _, [], d, h, _ => by simp at h
  | s, _ :: _ :: _, [_], d, h, _ => by simp at h
theorem next_rng {k s l z : Int} {d : Bool} (hs : 0 ≤ s ∧ s ≤ 5) : 0 ≤ nextV k s l z d ∧ nextV k s l z d ≤ 5 := by
  unfold nextV
  (repeat' split) <;> omega
theorem runL_next {k s : Int} {ls zs : List Int} {i : Nat} (h1 : i < ls.length) (h2 : i < zs.length) : runL k s (ls.drop i) (zs.drop i) = nextV k s (ls.getD i 0) (zs.getD i 0) false :: runL k (nextV k s (ls.getD i 0) (zs.getD i 0) false) (ls.drop (i + 1)) (zs.drop (i + 1)) := by
  rw [List.drop_eq_getElem_cons h1, List.drop_eq_getElem_cons h2]
  simp only [runL, List.getD_eq_getElem?_getD, List.getElem?_eq_getElem h1, List.getElem?_eq_getElem h2, Option.getD_some]
theorem set_rep {done : List Int} {n : Nat} {v : Int} (h : 0 < n) : (done ++ List.replicate n 0).set done.length v = (done ++ [v]) ++ List.replicate (n - 1) 0 := by
  obtain ⟨m, rfl⟩ := Nat.exists_eq_succ_of_ne_zero (Nat.pos_iff_ne_zero.1 h)
  rw [List.set_append_right _ _ (Nat.le_refl _), Nat.sub_self, List.replicate_succ, List.set_cons_zero]
  simp
noncomputable def rnM : Models := Models.on opNext_K.f (opNext_T.run nxM 0) noM
theorem opRun_ok : ConOk Tryd.prog opRun_K (opRun_T.run rnM 2000) := con_run follows (one_con (opNext_ok.to _) no_cons) opRun_t rfl 2000
/-- numbers between 1 and 3 -/
def Three (xs : List Int) : Prop := ∀ x ∈ xs, 1 ≤ x ∧ x ≤ 3
theorem three_at {xs : List Int} (h : Three xs) {i : Nat} (hi : i < xs.length) : 1 ≤ xs.getD i 0 ∧ xs.getD i 0 ≤ 3 := by
  rw [List.getD_eq_getElem?_getD, List.getElem?_eq_getElem hi, Option.getD_some]
  exact h _ (List.getElem_mem hi)
theorem run_v {b : ByteArray} {k x y ye re dr s : Int} {ls zs : List Int} (h : OpOk b k x y ye re dr) (hs : 0 ≤ s ∧ s ≤ 5) (hn : ls.length = zs.length) (hm : ls.length ≤ 400) (hl : Three ls) (hz : Three zs) :
    ∃ o, opRun_T.run rnM 2000 [.s b, .i k, .i x, .i y, .i ye, .i re, .i dr, .i s, .l (nums ls), .l (nums zs)] = some o ∧ o = [.l (nums (runL k s ls zs)), .i 0] := by
  refine run_to ?_
  unfold opRun_T
  (repeat' (first
      
      | (refine To.subK (fun K hK => ?_))
      | (refine To.need (by simp (disch := omega) only [X.den, X.dens, X.denss, D.int_i, D.boo_b, D.str_s, D.rows_l, List.getD_cons_zero, List.getD_cons_succ, List.cons_append, List.nil_append, List.append_nil, List.length_cons, List.length_nil, decide_eq_true_eq, decide_eq_false_iff_not, Bool.not_eq_true', Bool.not_eq_false', Bool.and_eq_true, Bool.and_eq_false_iff, Bool.true_eq_false, Bool.false_eq_true, Bool.not_true, Bool.not_false, eq_self, D.len_l, wr64, not_true_eq_false, not_false_eq_true, nums_len] <;> omega) ?_)
      | (refine To.ite (fun c => ?_) (fun c => ?_) <;> ((try simp (disch := omega) only [X.den, X.dens, X.denss, D.int_i, D.boo_b, D.str_s, D.rows_l, List.getD_cons_zero, List.getD_cons_succ, List.cons_append, List.nil_append, List.append_nil, List.length_cons, List.length_nil, decide_eq_true_eq, decide_eq_false_iff_not, Bool.not_eq_true', Bool.not_eq_false', Bool.and_eq_true, Bool.and_eq_false_iff, Bool.true_eq_false, Bool.false_eq_true, Bool.not_true, Bool.not_false, eq_self, D.len_l, wr64, not_true_eq_false, not_false_eq_true, nums_len] at c) <;> (try (exfalso; omega))))
      | (refine To.ret ⟨rfl, ?_⟩; (try simp (disch := omega) only [X.den, X.dens, X.denss, D.int_i, D.boo_b, D.str_s, D.rows_l, List.getD_cons_zero, List.getD_cons_succ, List.cons_append, List.nil_append, List.append_nil, List.length_cons, List.length_nil, decide_eq_true_eq, decide_eq_false_iff_not, Bool.not_eq_true', Bool.not_eq_false', Bool.and_eq_true, Bool.and_eq_false_iff, Bool.true_eq_false, Bool.false_eq_true, Bool.not_true, Bool.not_false, eq_self, D.len_l, wr64, not_true_eq_false, not_false_eq_true, nums_len]); refine hK _ _ (by simp only [List.cons_append, List.nil_append]; first | done | rfl) ?_; clear hK; clear K)))
  refine To.loopK (fun m l => ∃ (i c : Int) (done : List Int), l = [.l (nums (done ++ List.replicate m 0)), .i c, .i i] ∧ i = done.length ∧ i + m = ls.length ∧ (0 ≤ c ∧ c ≤ 5) ∧ runL k s ls zs = done ++ runL k c (ls.drop done.length) (zs.drop done.length)) (fun l => l = [.i 1, .l (nums (runL k s ls zs)), .i 0]) ls.length (by omega) ?_ ?_ ?_
  · refine ⟨0, s, [], ?_, rfl, by omega, hs, by simp⟩
    simp only [X.den, X.dens, X.denss, D.int_i, D.boo_b, D.str_s, D.rows_l, List.getD_cons_zero, List.getD_cons_succ, List.cons_append, List.nil_append, List.append_nil, List.length_cons, List.length_nil, D.len_l, nums_len]
    rw [show (min (ls.length : Int) 9223372036854775807).toNat = ls.length by omega, nums_rep]
  · rintro m l ρ2 ⟨i, c, done, rfl, i0, i1, hc, hr⟩ eρ
    simp only [List.cons_append, List.nil_append] at eρ
    subst eρ
    refine To.ite (fun q => ?_) (fun q => ?_) <;> simp only [X.den, X.dens, X.denss, D.int_i, D.boo_b, D.str_s, D.rows_l, List.getD_cons_zero, List.getD_cons_succ, List.cons_append, List.nil_append, List.append_nil, List.length_cons, List.length_nil, decide_eq_true_eq, decide_eq_false_iff_not, Bool.not_eq_true', Bool.not_eq_false', Bool.and_eq_true, Bool.and_eq_false_iff, Bool.true_eq_false, Bool.false_eq_true, Bool.not_true, Bool.not_false, eq_self, D.len_l, nums_len] at q
    · refine To.need (by simp only [X.den, X.dens, X.denss, D.int_i, D.boo_b, D.str_s, D.rows_l, List.getD_cons_zero, List.getD_cons_succ, List.cons_append, List.nil_append, List.append_nil, List.length_cons, List.length_nil, decide_eq_true_eq, decide_eq_false_iff_not, Bool.not_eq_true', Bool.not_eq_false', Bool.and_eq_true, Bool.and_eq_false_iff, Bool.true_eq_false, Bool.false_eq_true, Bool.not_true, Bool.not_false, eq_self, D.len_l, nums_len]; omega) ?_
      refine To.need (by simp only [X.den, X.dens, X.denss, D.int_i, D.boo_b, D.str_s, D.rows_l, List.getD_cons_zero, List.getD_cons_succ, List.cons_append, List.nil_append, List.append_nil, List.length_cons, List.length_nil, decide_eq_true_eq, decide_eq_false_iff_not, Bool.not_eq_true', Bool.not_eq_false', Bool.and_eq_true, Bool.and_eq_false_iff, Bool.true_eq_false, Bool.false_eq_true, Bool.not_true, Bool.not_false, eq_self, D.len_l, nums_len]; omega) ?_
      have c1 := nums_cell (xs := ls) (i := i) (by omega) (by omega)
      have c2 := nums_cell (xs := zs) (i := i) (by omega) (by omega)
      have t1 := three_at hl (i := i.toNat) (by omega)
      have t2 := three_at hz (i := i.toNat) (by omega)
      refine To.viaK (by (try simp (disch := omega) only [X.den, X.dens, X.denss, D.int_i, D.boo_b, D.str_s, D.rows_l, List.getD_cons_zero, List.getD_cons_succ, List.cons_append, List.nil_append, List.append_nil, List.length_cons, List.length_nil, decide_eq_true_eq, decide_eq_false_iff_not, Bool.not_eq_true', Bool.not_eq_false', Bool.and_eq_true, Bool.and_eq_false_iff, Bool.true_eq_false, Bool.false_eq_true, Bool.not_true, Bool.not_false, eq_self, D.len_l, wr64, not_true_eq_false, not_false_eq_true, c1, c2]); exact next_v h hc t1 t2) ?_
      rintro _ ρ2 rfl eρ
      refine ⟨rfl, ?_⟩
      simp only [List.cons_append, List.nil_append] at eρ
      subst eρ
      refine To.yes rfl ?_
      refine To.need (by simp only [X.den, X.dens, X.denss, D.int_i, D.boo_b, D.str_s, D.rows_l, List.getD_cons_zero, List.getD_cons_succ, List.cons_append, List.nil_append, List.append_nil, List.length_cons, List.length_nil, decide_eq_true_eq, decide_eq_false_iff_not, Bool.not_eq_true', Bool.not_eq_false', Bool.and_eq_true, Bool.and_eq_false_iff, Bool.true_eq_false, Bool.false_eq_true, Bool.not_true, Bool.not_false, eq_self, D.len_l, nums_len, List.length_append, List.length_replicate]; omega) ?_
      refine To.ret (.inl ⟨rfl, m - 1, by omega, i + 1, nextV k c (ls.getD i.toNat 0) (zs.getD i.toNat 0) false, done ++ [nextV k c (ls.getD i.toNat 0) (zs.getD i.toNat 0) false], ?_, ?_, ?_, next_rng hc, ?_⟩)
      · simp (disch := omega) only [X.den, X.dens, X.denss, D.int_i, D.boo_b, D.str_s, D.rows_l, List.getD_cons_zero, List.getD_cons_succ, List.cons_append, List.nil_append, List.append_nil, List.length_cons, List.length_nil, wr64]
        rw [nums_put (by omega) (by rw [List.length_append, List.length_replicate]; omega), show i.toNat = done.length by omega, set_rep (by omega)]
      · rw [List.length_append, List.length_singleton]; omega
      · omega
      · rw [hr, show i.toNat = done.length by omega, runL_next (by omega) (by omega), List.length_append, List.length_singleton]
        simp
    · refine To.ret (.inr ⟨rfl, ?_⟩)
      have em : m = 0 := by omega
      subst em
      rw [hr, List.drop_eq_nil_of_le (by omega)]
      simp [X.dens, X.den, runL]
  · rintro l ρ2 rfl eρ
    simp only [List.cons_append, List.nil_append] at eρ
    subst eρ
    exact ⟨rfl, To.no rfl (To.ret (by simp only [X.den, X.dens, X.denss, D.int_i, D.boo_b, D.str_s, D.rows_l, List.getD_cons_zero, List.getD_cons_succ, List.cons_append, List.nil_append, List.append_nil, List.length_cons, List.length_nil]))⟩
theorem zones_ok : ConOk Tryd.prog zones_K (zones_T.run srcM 100) := con_run follows (one_con (srcN_ok.to _) no_cons) zones_t rfl 100
theorem Three.snoc {xs : List Int} (h : Three xs) {z : Int} (h0 : 1 ≤ z) (h1 : z ≤ 3) : Three (xs ++ [z]) := fun x hx => by
  rcases List.mem_append.1 hx with hx | hx
  · exact h x hx
  · rw [List.mem_singleton] at hx; subst hx; exact ⟨h0, h1⟩
theorem zones_to {rows : List (List D)} {at_ most : Int} (h : SrcOk rows at_) (hm : 0 ≤ most ∧ most ≤ 50) :
    ∃ l, zones_T.run srcM 100 [.l rows, .i at_, .i most] = some l ∧ ∃ ls zs at', l = [.l (nums ls), .l (nums zs), .l rows, .i at'] ∧ ls.length = zs.length ∧ ls.length ≤ most ∧ Three ls ∧ Three zs ∧ SrcOk rows at' := by
  refine run_to ?_
  unfold zones_T
  refine To.viaK (by (try simp (disch := omega) only [X.den, X.dens, X.denss, D.int_i, D.boo_b, D.str_s, D.rows_l, List.getD_cons_zero, List.getD_cons_succ, List.cons_append, List.nil_append, List.append_nil, List.length_cons, List.length_nil, decide_eq_true_eq, decide_eq_false_iff_not, Bool.not_eq_true', Bool.not_eq_false', Bool.and_eq_true, Bool.and_eq_false_iff, Bool.true_eq_false, Bool.false_eq_true, Bool.not_true, Bool.not_false, eq_self, D.len_l, wr64, not_true_eq_false, not_false_eq_true]); exact srcN_to h (by omega) (by omega)) ?_
  rintro _ ρ2 ⟨n, t0, rfl, a0, b0, h0⟩ eρ
  refine ⟨rfl, ?_⟩
  simp only [List.cons_append, List.nil_append] at eρ
  subst eρ
  refine To.loopK (fun m l => ∃ (ls zs : List Int) (t : Int), l = [.l (nums ls), .l (nums zs), .l rows, .i t, .i m] ∧ ls.length = zs.length ∧ (ls.length : Int) + m = n ∧ Three ls ∧ Three zs ∧ SrcOk rows t) (fun l => ∃ (ls zs : List Int) (t : Int), l = [.l (nums ls), .l (nums zs), .l rows, .i t] ∧ ls.length = zs.length ∧ (ls.length : Int) = n ∧ Three ls ∧ Three zs ∧ SrcOk rows t) n.toNat (by omega) ?_ ?_ ?_
  · refine ⟨[], [], t0, ?_, rfl, by simp only [List.length_nil]; omega, (fun x hx => by cases hx), (fun x hx => by cases hx), h0⟩
    simp only [X.den, X.dens, X.denss, D.int_i, D.boo_b, D.str_s, D.rows_l, List.getD_cons_zero, List.getD_cons_succ, List.cons_append, List.nil_append, List.append_nil, List.length_cons, List.length_nil]
    rw [show ((n.toNat : Nat) : Int) = n by omega]
    rfl
  · rintro m l ρ2 ⟨ls, zs, t, rfl, e1, e2, q1, q2, h2⟩ eρ
    simp only [List.cons_append, List.nil_append] at eρ
    subst eρ
    refine To.ite (fun c => ?_) (fun c => ?_) <;> simp only [X.den, X.dens, X.denss, D.int_i, D.boo_b, D.str_s, D.rows_l, List.getD_cons_zero, List.getD_cons_succ, List.cons_append, List.nil_append, List.append_nil, List.length_cons, List.length_nil, decide_eq_true_eq, decide_eq_false_iff_not, Bool.not_eq_true', Bool.not_eq_false', Bool.and_eq_true, Bool.and_eq_false_iff, Bool.true_eq_false, Bool.false_eq_true, Bool.not_true, Bool.not_false, eq_self] at c
    · refine To.viaK (by (try simp (disch := omega) only [X.den, X.dens, X.denss, D.int_i, D.boo_b, D.str_s, D.rows_l, List.getD_cons_zero, List.getD_cons_succ, List.cons_append, List.nil_append, List.append_nil, List.length_cons, List.length_nil, decide_eq_true_eq, decide_eq_false_iff_not, Bool.not_eq_true', Bool.not_eq_false', Bool.and_eq_true, Bool.and_eq_false_iff, Bool.true_eq_false, Bool.false_eq_true, Bool.not_true, Bool.not_false, eq_self, D.len_l, wr64, not_true_eq_false, not_false_eq_true]); exact srcN_to h2 (by omega) (by omega)) ?_
      rintro _ ρ2 ⟨i, t3, rfl, a3, b3, h3⟩ eρ
      refine ⟨rfl, ?_⟩
      simp only [List.cons_append, List.nil_append] at eρ
      subst eρ
      refine To.need (by simp only [X.den, X.dens, X.denss, D.int_i, D.boo_b, D.str_s, D.rows_l, List.getD_cons_zero, List.getD_cons_succ, List.cons_append, List.nil_append, List.append_nil, List.length_cons, List.length_nil, decide_eq_true_eq, decide_eq_false_iff_not, Bool.not_eq_true', Bool.not_eq_false', Bool.and_eq_true, Bool.and_eq_false_iff, Bool.true_eq_false, Bool.false_eq_true, Bool.not_true, Bool.not_false, eq_self]; omega) ?_
      refine To.need (by simp only [X.den, X.dens, X.denss, D.int_i, D.boo_b, D.str_s, D.rows_l, List.getD_cons_zero, List.getD_cons_succ, List.cons_append, List.nil_append, List.append_nil, List.length_cons, List.length_nil, decide_eq_true_eq, decide_eq_false_iff_not, Bool.not_eq_true', Bool.not_eq_false', Bool.and_eq_true, Bool.and_eq_false_iff, Bool.true_eq_false, Bool.false_eq_true, Bool.not_true, Bool.not_false, eq_self, D.len_l, nums_len]; omega) ?_
      obtain ⟨p, ep, hp⟩ := four (p := fun r => ∃ g : Int, (D.l [[.i 3], [.i 3], [.i 2], [.i 1]]).cell r 0 = .i g ∧ 1 ≤ g ∧ g ≤ 3) a3 b3 ⟨3, rfl, by decide⟩ ⟨3, rfl, by decide⟩ ⟨2, rfl, by decide⟩ ⟨1, rfl, by decide⟩
      refine To.viaK (by (try simp (disch := omega) only [X.den, X.dens, X.denss, D.int_i, D.boo_b, D.str_s, D.rows_l, List.getD_cons_zero, List.getD_cons_succ, List.cons_append, List.nil_append, List.append_nil, List.length_cons, List.length_nil, decide_eq_true_eq, decide_eq_false_iff_not, Bool.not_eq_true', Bool.not_eq_false', Bool.and_eq_true, Bool.and_eq_false_iff, Bool.true_eq_false, Bool.false_eq_true, Bool.not_true, Bool.not_false, eq_self, D.len_l, wr64, not_true_eq_false, not_false_eq_true]); exact srcN_to h3 (by omega) (by omega)) ?_
      rintro _ ρ2 ⟨j, t4, rfl, a4, b4, h4⟩ eρ
      refine ⟨rfl, ?_⟩
      simp only [List.cons_append, List.nil_append] at eρ
      subst eρ
      refine To.need (by simp only [X.den, X.dens, X.denss, D.int_i, D.boo_b, D.str_s, D.rows_l, List.getD_cons_zero, List.getD_cons_succ, List.cons_append, List.nil_append, List.append_nil, List.length_cons, List.length_nil, decide_eq_true_eq, decide_eq_false_iff_not, Bool.not_eq_true', Bool.not_eq_false', Bool.and_eq_true, Bool.and_eq_false_iff, Bool.true_eq_false, Bool.false_eq_true, Bool.not_true, Bool.not_false, eq_self]; omega) ?_
      refine To.need (by simp only [X.den, X.dens, X.denss, D.int_i, D.boo_b, D.str_s, D.rows_l, List.getD_cons_zero, List.getD_cons_succ, List.cons_append, List.nil_append, List.append_nil, List.length_cons, List.length_nil, decide_eq_true_eq, decide_eq_false_iff_not, Bool.not_eq_true', Bool.not_eq_false', Bool.and_eq_true, Bool.and_eq_false_iff, Bool.true_eq_false, Bool.false_eq_true, Bool.not_true, Bool.not_false, eq_self, D.len_l, nums_len]; omega) ?_
      obtain ⟨z, zm, ez⟩ := pick_cell (zs := [1, 1, 1, 2, 3]) a4 (by simpa using b4)
      have hz : 1 ≤ z ∧ z ≤ 3 := by
        simp only [List.mem_cons, List.not_mem_nil, or_false] at zm
        omega
      simp only [List.map_cons, List.map_nil] at ez
      refine To.ret (.inl ⟨rfl, m - 1, by omega, ls ++ [p], zs ++ [z], t4, ?_, by simp [e1], by simp; omega, q1.snoc hp.1 hp.2, q2.snoc hz.1 hz.2, h4⟩)
      simp (disch := omega) only [X.den, X.dens, X.denss, D.int_i, D.boo_b, D.str_s, D.rows_l, List.getD_cons_zero, List.getD_cons_succ, List.cons_append, List.nil_append, List.append_nil, List.length_cons, List.length_nil, ep, ez, wr64]
      rw [nums_one, nums_one, nums_app, nums_app, show ((m - 1 : Nat) : Int) = m - 1 by omega]
    · exact To.ret (.inr ⟨rfl, ls, zs, t, by simp only [X.den, X.dens, X.denss, D.int_i, D.boo_b, D.str_s, D.rows_l, List.getD_cons_zero, List.getD_cons_succ, List.cons_append, List.nil_append, List.append_nil, List.length_cons, List.length_nil], e1, by omega, q1, q2, h2⟩)
  · rintro l ρ2 ⟨ls, zs, t, rfl, e1, e2, q1, q2, h2⟩ eρ
    simp only [List.cons_append, List.nil_append] at eρ
    subst eρ
    exact ⟨rfl, To.ret (by simp only [X.den, X.dens, X.denss, D.int_i, D.boo_b, D.str_s, D.rows_l, List.getD_cons_zero, List.getD_cons_succ, List.cons_append, List.nil_append, List.append_nil, List.length_cons, List.length_nil]; exact ⟨ls, zs, t, rfl, e1, by omega, q1, q2, h2⟩)⟩
end Go.Proofs.YtkapaokcgbgjfaaDoor
