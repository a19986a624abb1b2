/- slices.Clone of arcs: a contract. -/
import Derived.Test.YtladhlgibapohaaThrT
import Derived.Lib.Hide
import Derived.Lib.LazyBuf
set_option linter.unusedVariables false
set_option linter.unusedSimpArgs false
namespace Go.Proofs.Ytladhlgibapohaa
open Go.RowKit Fx
theorem append_step {P : Program} {ops : Array Oper} {Q : Exit → Act → World → Prop} {rest : List Oper} {o : Oper} {a : Act} {w w' : World} {v' : Value} (h1 : (execOp a.eval o).run P w = .ok (.value v') w') (hg : o.guard = none) (h : wpList P ops Q rest (a.put o.dst v') w') : wpList P ops Q (o :: rest) a w :=
  wpList_plain hg fun K hK => by
    unfold Oper.wp
    rw [h1]
    exact hK _ _ h
theorem arc_info : (Try.prog.info? 74).map (fun i => (i.zero.map (·.cells.size), i.size, i.bytes)) = some (some 2, 2, 16) := by kernel_rfl
set_option maxRecDepth 100000 in
theorem clone_walk {w : World} {G : Nat → Prop} {v : Value} {rows : List (List D)} (hG : ∀ b, G b → b < w.heap.size) (hv : RepC (rdW w) G (.sl [CT.int .i64, CT.int .i64]) v (.l rows)) (hn : rows.length ≤ 1000) :
    Calls Try.prog 56 #[v] w fun e w' => ∃ v', e = .returned v' ∧ RepC (rdW w') (fun b => (G b ∨ w.heap.size ≤ b) ∧ b < w'.heap.size) (.sl [CT.int .i64, CT.int .i64]) v' (.l rows) ∧ w.heap.size ≤ w'.heap.size ∧ (∀ b, b < w.heap.size → w'.heap[b]? = w.heap[b]?) ∧ Io w w' := by
  have hv2 := hv
  simp only [RepC, D.rows_l] at hv2
  obtain ⟨a, c, rfl, h2, h3, h4⟩ := hv2
  have keep := Lib.hid (And.intro hG (And.intro hv (And.intro h2 (And.intro h3 (And.intro h4 hn)))))
  clear hG hv h2 h3 h4 hn
  go_enter Try.func56, Try.ntmps56
  cases a with
  | none =>
    have e1 := Lib.run_eql_slice_nil (P := Try.prog) w 48 74 none rows.length c 0 0 (by kernel_rfl)
    go_wp2_with (fail)
    obtain ⟨hG, hv, h2, h3, h4, hn⟩ := keep
    have h0 : rows = [] := by
      rcases h4 with h4 | ⟨b, o, h4, _⟩
      · exact List.length_eq_zero_iff.1 h4
      · cases h4
    subst h0
    go_ret
    refine ⟨_, rfl, ?_, Nat.le_refl _, fun _ _ => rfl, Io.refl _⟩
    simp only [RepC, D.rows_l]
    exact ⟨none, 0, rfl, Nat.le_refl _, Nat.zero_le _, .inl rfl⟩
  | some ad =>
    have e1 := Lib.run_eql_slice_nil (P := Try.prog) w 48 74 (some ad) rows.length c 0 0 (by kernel_rfl)
    obtain ⟨i, hi, hi2⟩ := Option.map_eq_some_iff.1 arc_info
    simp only [Prod.mk.injEq, Option.map_eq_some_iff] at hi2
    obtain ⟨⟨z, hz, hz2⟩, hs, hb⟩ := hi2
    have kG := keep.1
    have kn := keep.2.2.2.2.2
    have kv : RepC (rdW (w.alloc (.cells #[] 74))) G (.sl [CT.int .i64, CT.int .i64]) (.slice (some ad) rows.length c) (.l rows) := RepC.mono (fun b g => ⟨g, fun o => rd_of_block (Below.heap_alloc _ _ _ (kG b g)) o⟩) keep.2.1
    simp only [RepC, D.rows_l] at kv
    obtain ⟨a', c', q1, q2, q3, q4⟩ := kv
    have hT : Fx.Told (rdW (w.alloc (.cells #[] 74))) G [CT.int .i64, CT.int .i64] (.slice (some ad) rows.length c) rows := ⟨⟨a', c', q1, q2, q3, q4.imp id fun ⟨b, o, e, _, hr⟩ => ⟨b, o, e, hr⟩⟩⟩
    have hO : Owns (w.alloc (.cells #[] 74)) G [CT.int .i64, CT.int .i64] (.slice (some ⟨w.heap.size, 0, none⟩) 0 0) [] := .inl ⟨_, rfl, rfl⟩
    obtain ⟨v1, w1, r1, r2, r3, r4, r5, r6⟩ := append_run (P := Try.prog) (t := 48) (ty := 48) (e := 74) (by kernel_rfl) hi hz (by rw [hs]; rfl) (by rw [hz2, hs]) (by decide) (by omega) hO hT (fun b g => ⟨by have := kG b g; simp; omega, by simp [roomAt]⟩) (by rw [hb]; simp; omega)
    have R := Lib.hid (And.intro r2 (And.intro r3 (And.intro r4 (And.intro r5 r6))))
    clear r2 r3 r4 r5 r6 hO hT kG kn q1 q2 q3 q4 hi hz hz2 hs hb
    go_wp2_with (at_builtin; refine append_step (v' := v1) (w' := w1) ?run rfl ?_)
    case run =>
      simp only [execOp, resolve, invoke, builtin, Sem.run_bind, Sem.run_pure, Result.andThen_ok, List.map_toArray, List.map_cons, List.map_nil]
      first
        | (erw [r1]; rfl)
        | (refine (congrArg (fun r => Result.andThen r _) r1).trans ?_; rfl)
    obtain ⟨r2, r3, r4, r5, r6⟩ := R
    go_ret
    have sz : (w.alloc (.cells #[] 74)).heap.size = w.heap.size + 1 := by simp
    refine ⟨_, rfl, ?_, by omega, fun b hb => ?_, ⟨r4.os, r4.tape, r4.output⟩⟩
    · simp only [RepC, D.rows_l]
      rcases r2 with ⟨a, rfl, h0⟩ | ⟨b, cp, rfl, h1, h2, h3, h5, h6, h7⟩
      · have h0 : rows = [] := by simpa using h0
        subst h0
        exact ⟨a, 0, rfl, Nat.le_refl _, Nat.zero_le _, .inl rfl⟩
      · have hr := r6 b (by obtain ⟨n, rfl⟩ := Nat.exists_eq_succ_of_ne_zero (show cp ≠ 0 by omega); rfl)
        rcases hr with hr | hr
        · simp [roomAt] at hr
        · simp only [List.nil_append] at h2 h7 ⊢
          refine ⟨_, cp, rfl, h2, h3, .inr ⟨b, 0, rfl, ⟨.inr (by omega), hr.2⟩, fun i row hi => ?_⟩⟩
          have := h7 i row hi
          simp only [RepR, RepC, Nat.zero_add] at this ⊢
          exact this
    · rw [r5 b (by omega) (by simp [roomAt])]
      exact Below.heap_alloc _ _ _ hb
def cloneR : List D → Option (List D) := fun ds => match ds with
  | [.l rows] => if rows.length ≤ 1000 then some [.l rows] else none
  | _ => none
theorem cloneR_to {rows : List (List D)} (h : rows.length ≤ 1000) : cloneR [.l rows] = some [.l rows] := if_pos h
theorem clone_ok : ConOk Try.prog clone_K cloneR := by
  intro w G args ds pb outs hG hpb hA hm
  have hA' : Args w G [.val false [.sl [CT.int .i64, CT.int .i64]]] args ds pb := hA
  match args, hA' with
  | v :: vs, hA' =>
    simp only [Args] at hA'
    obtain ⟨cells, d1, d2, rfl, e2, e3, e4⟩ := hA'
    simp only [cellsV, Bool.false_eq_true, if_false] at e2
    subst e2
    match vs, d2, pb, e4 with
    | [], [], [], _ =>
      match d1, e3 with
      | [d], e3 =>
        simp only [RepCs, and_true] at e3
        simp only [List.append_nil] at hm
        cases d with
        | l rows =>
          simp only [cloneR] at hm
          split at hm
          · rename_i hn
            injection hm with hm
            subst hm
            refine (clone_walk (G := G) (fun b g => (hG b g).1) e3 hn).mono ?_
            rintro e w' ⟨v', rfl, h1, h2, h3, h4⟩
            refine ⟨⟨[v'], [.l rows], [], rfl, rfl, ?_, trivial⟩, h2, fun b hb _ => h3 b hb, h4⟩
            show Ress w' (Back w G [] w') [.val false [.sl [CT.int .i64, CT.int .i64]]] [v'] [.l rows]
            simp only [Ress]
            exact ⟨[v'], [.l rows], [], rfl, by simp [cellsV], by simp only [RepCs, and_true]; exact RepC.mono (fun b g => ⟨⟨g.1, g.2, by simp⟩, fun _ => rfl⟩) h1, trivial⟩
          · cases hm
        | _ => simp [cloneR] at hm
end Go.Proofs.Ytladhlgibapohaa
