/- The table of moves, as it is laid. -/
import Derived.Test.YtkapaokcgbgjfaaDoorOpl
import Derived.Test.YtkapaokcgbgjfaaDoorRows
import Derived.LaidMore
import Derived.OpenShut
import Derived.Stop.Joined
set_option linter.unusedVariables false
set_option linter.unusedSimpArgs false
namespace Go.Proofs.YtkapaokcgbgjfaaDoor
open Go.RowKit Go.ChangeShapes Go.WideShapes Go.ChangeAt Fx
abbrev laidL : List (String × DataW Unit) := [("dynpos/operation.moves", Rows.laid_dynpos_operation_moves)]
theorem door_met (os : Os) (args : Array Value) : laidMetH Tryd.prog laidL ((World.doorLaid Tryd.prog 400 os).forCall (fun _ _ => 0) ⟨#[], args, []⟩).memory :=
  laidMetH_of_parts3 (fuel := 8) (laidMet_of_run' 8 (by kernel_rfl) (by kernel_rfl)) (by kernel_rfl) (by kernel_rfl)
theorem cI : Tryd.prog.cellsOf 3 = 1 := by kernel_rfl
theorem cM : Tryd.prog.cellsOf 68 = 3 := by kernel_rfl
theorem cT : Tryd.prog.cellsOf 69 = 18 := by kernel_rfl
theorem row3 {H : Type} {enc : TypeId × Value → H} {w : World} {base : Nat} {spare : Nat → Bool} {held : Bool} {n : Nat} {cs : List Value} {a b c : Int} {q : List MemPlace} (h : DataW.trod enc Tryd.prog w base spare held n 68 cs = some (.agg [.lit (.int .i64 a), .lit (.int .i64 b), .lit (.int .i64 c)], q)) :
    cs = [.int .i64 a, .int .i64 b, .int .i64 c] := by
  obtain ⟨xs, m, e1, e2, hl, hlen, hf⟩ := DataW.trod_struct Tryd.underlying68 h
  rw [cM] at hl
  match cs, hl, xs, hlen, hf, e2 with
  | [u, v, w'], _, [x0, x1, x2], _, hf, e2 =>
    have h0 : DataW.trod enc Tryd.prog w base spare held m 3 (([u, v, w'].drop 0).take (Tryd.prog.cellsOf 3)) = some x0 := hf 0 _ rfl
    rw [cI] at h0
    have h0 : DataW.trod enc Tryd.prog w base spare held m 3 [u] = some x0 := h0
    have h1 : DataW.trod enc Tryd.prog w base spare held m 3 (([u, v, w'].drop 1).take (Tryd.prog.cellsOf 3)) = some x1 := hf 1 _ rfl
    rw [cI] at h1
    have h1 : DataW.trod enc Tryd.prog w base spare held m 3 [v] = some x1 := h1
    have h2 : DataW.trod enc Tryd.prog w base spare held m 3 (([u, v, w'].drop 2).take (Tryd.prog.cellsOf 3)) = some x2 := hf 2 _ rfl
    rw [cI] at h2
    have h2 : DataW.trod enc Tryd.prog w base spare held m 3 [w'] = some x2 := h2
    obtain ⟨n0, a1, rfl, _⟩ := DataW.trod_int Tryd.underlying3 h0
    obtain ⟨n1, b1, rfl, _⟩ := DataW.trod_int Tryd.underlying3 h1
    obtain ⟨n2, c1, rfl, _⟩ := DataW.trod_int Tryd.underlying3 h2
    simp only [List.map_cons, List.map_nil, Prod.mk.injEq, DataW.agg.injEq, List.cons.injEq, DataW.lit.injEq, Lit.int.injEq, true_and, and_true] at e2 a1 b1 c1
    obtain ⟨⟨rfl, rfl, rfl⟩, _⟩ := e2
    rw [a1, b1, c1]
theorem gl_of_laid {W : World} (h : laidMetH Tryd.prog laidL W) : Gl W [] [] := by
  rw [MakeChecks.laidMetH_plain _ _ _ (by kernel_rfl)] at h
  obtain ⟨ps, ⟨g0, t0, cs0, f0, p0, q0, hg0, ht0, hv0, hd0, _, _⟩, _, _⟩ := h
  obtain rfl := Option.some.inj ((show Tryd.prog.globalNamed "dynpos/operation.moves" = some 0 by kernel_rfl).symm.trans hg0)
  obtain rfl := Option.some.inj ((show (Tryd.prog.globals[0]?).map (·.type) = some 69 by kernel_rfl).symm.trans ht0)
  obtain ⟨xs, m, e1, e2, hl, hlen, hf⟩ := DataW.trod_array Tryd.underlying69 hd0
  have hc := fun o => World.var?_cell hg0 hv0 o
  obtain ⟨l⟩ := cs0
  simp only at hl hf
  rw [cT] at hl
  have e : l = (([(1, 0, 1), (2, 1, 2), (3, 1, 0), (3, 2, 4), (3, 3, 4), (4, 5, 0)] : List (Int × Int × Int)).map fun r => [Value.int .i64 r.1, .int .i64 r.2.1, .int .i64 r.2.2]).flatten := by
    match xs, hlen, e2, hf with
    | [x0, x1, x2, x3, x4, x5], _, e2, hf =>
      simp only [Rows.laid_dynpos_operation_moves, List.map_cons, List.map_nil, Prod.mk.injEq, DataW.agg.injEq, List.cons.injEq, and_true] at e2
      obtain ⟨⟨r0, r1, r2, r3, r4, r5⟩, _⟩ := e2
      obtain ⟨x0, y0⟩ := x0
      obtain ⟨x1, y1⟩ := x1
      obtain ⟨x2, y2⟩ := x2
      obtain ⟨x3, y3⟩ := x3
      obtain ⟨x4, y4⟩ := x4
      obtain ⟨x5, y5⟩ := x5
      simp only at r0 r1 r2 r3 r4 r5
      subst r0 r1 r2 r3 r4 r5
      have h0 := row3 (hf 0 (by decide))
      have h1 := row3 (hf 1 (by decide))
      have h2 := row3 (hf 2 (by decide))
      have h3 := row3 (hf 3 (by decide))
      have h4 := row3 (hf 4 (by decide))
      have h5 := row3 (hf 5 (by decide))
      simp only [cM] at h0 h1 h2 h3 h4 h5
      have s1 := (List.take_append_drop 3 (l.drop 0)).symm
      have s2 := (List.take_append_drop 3 (l.drop 3)).symm
      have s3 := (List.take_append_drop 3 (l.drop 6)).symm
      have s4 := (List.take_append_drop 3 (l.drop 9)).symm
      have s5 := (List.take_append_drop 3 (l.drop 12)).symm
      have s6 := (List.take_append_drop 3 (l.drop 15)).symm
      have s7 : l.drop 18 = [] := List.drop_eq_nil_of_le (by omega)
      simp only [List.drop_drop, Nat.reduceAdd] at s1 s2 s3 s4 s5 s6
      rw [s7] at s6
      simp only [Nat.reduceMul] at h0 h1 h2 h3 h4 h5
      rw [h5] at s6
      rw [s6, h4] at s5
      rw [s5, h3] at s4
      rw [s4, h2] at s3
      rw [s3, h1] at s2
      rw [s2, h0] at s1
      simpa using s1
  intro p hp
  have hp : p = (0, (([(1, 0, 1), (2, 1, 2), (3, 1, 0), (3, 2, 4), (3, 3, 4), (4, 5, 0)] : List (Int × Int × Int)).map fun r => [Value.int .i64 r.1, .int .i64 r.2.1, .int .i64 r.2.2]).flatten) := by simpa [gtab] using hp
  subst hp
  subst e
  refine ⟨World.block_lt_of_cell? _ _ (hc 0), by simp, by simp, fun o v hv => ?_⟩
  rw [hc o]
  simpa using hv
end Go.Proofs.YtkapaokcgbgjfaaDoor
