/- Package status: the levels of a run. -/
import Derived.Test.YtjmmkphdomiohabStN
import Derived.Test.YtjmmkphdomiohabOut
namespace Go.Proofs.Ytjmmkphdomiohab
open Go.RowKit
set_option maxHeartbeats 1600000 in
theorem stRun_calls (v : Value) (zs : List Int) (d : Int) (w : World) (hv : IntsIn w w.heap.size v .i64 zs) (hz : ∀ z ∈ zs, St.Lev z) (hn : zs.length ≤ 400) (d0 : 0 ≤ d) (d1 : d ≤ 600) :
    Calls Try.prog 20 #[v, .int .i64 d] w fun e w' => ∃ g, w.heap.size ≤ g ∧ e = .returned (.tuple #[.slice (some ⟨g, 0, none⟩) zs.length zs.length, .int .i64 0]) ∧ OutAt w' g zs.length zs.length (fun k => (St.cl zs d (k + 1)).1) ∧ Below w.heap.size w w' := by
  have HV := Lib.hid hv
  have HZ := Lib.hid hz
  obtain ⟨A, c, rfl, g1, g2, g3, g4⟩ := hv
  unfold maxLen at g2
  clear g3 g4 hz
  go_enter Try.func20, Try.ntmps20
  go_wp2_with (refine wpList_make_full _ rfl _ _ 22 rfl (w.heap.size + 1) 3 _ (.int .i64 0) 1 rfl rfl rfl rfl _ _ _ _ zs.length rfl rfl rfl rfl ?_ ?_ ?_ ?_)
  · show 8 * _ ≤ _
    omega
  · unfold maxLen
    omega
  · simp
  intro w1 hown hgrow
  have ho := outAt_made (f := fun k => (St.cl zs d (k + 1)).1) hown
  have sB : Below w.heap.size w w1 := below_step ((Below.refl _ _).alloc (Nat.le_refl _) _) ⟨hgrow.os, hgrow.tape, hgrow.output, hgrow.size, fun i hi => hgrow.block i hi (by simp)⟩
  have hc : ∀ o u, (w.alloc (.cells #[.int .i64 1, .int .i64 (-1)] 24)).cell? ⟨w.heap.size, o, none⟩ = some u → w1.cell? ⟨w.heap.size, o, none⟩ = some u := fun o u h => by
    rw [World.cell?_of_block (hgrow.block w.heap.size (by simp) (by simp))]; exact h
  have hgne : w.heap.size + 1 ≠ w.heap.size := by omega
  have s0 := hc 0 (.int .i64 1) (by go_simp)
  have s1 := hc 1 (.int .i64 (-1)) (by go_simp)
  have z0 : w1.frozen? ⟨w.heap.size, 0, none⟩ = false := by
    rw [World.frozen?_of_block (hgrow.block w.heap.size (by simp) (by simp))]; go_simp
  have z1 : w1.frozen? ⟨w.heap.size, 1, none⟩ = false := by
    rw [World.frozen?_of_block (hgrow.block w.heap.size (by simp) (by simp))]; go_simp
  clear hc hown hgrow
  have hgB : w.heap.size ≤ w.heap.size + 1 := Nat.le_succ _
  generalize w.heap.size + 1 = g at ho hgne hgB
  go_wp2_with (fail)
  go_loopw [21] (fun i wr => ∃ k : Nat, k ≤ zs.length ∧ i = .int .i64 k ∧ wr.cell? ⟨w.heap.size, 0, none⟩ = some (.int .i64 (St.cl zs d k).1) ∧ wr.cell? ⟨w.heap.size, 1, none⟩ = some (.int .i64 (St.cl zs d k).2) ∧
      wr.frozen? ⟨w.heap.size, 0, none⟩ = false ∧ wr.frozen? ⟨w.heap.size, 1, none⟩ = false ∧ OutAt wr g zs.length k (fun k => (St.cl zs d (k + 1)).1) ∧ Below w.heap.size w wr) (fun i _ => zs.length - (intOf i).toNat)
  case atStart => exact ⟨0, by omega, rfl, s0, s1, z0, z1, ho, sB⟩
  case round =>
    clear s0 s1 z0 z1 ho sB
    obtain ⟨k, hk, rfl, s0, s1, z0, z1, ho, sB⟩ := hrel
    by_cases hlt : k < zs.length
    · obtain ⟨A2, c2, e2, _, _, _, g4⟩ := HV.out
      injection e2 with e3 _ e5
      subst e3
      clear e5
      obtain ⟨bl, o, rfl, hbl, hcl⟩ := g4 (by omega)
      have hcell := (sB.cell (p := ⟨bl, o + k, none⟩) hbl).trans (hcl k hlt)
      have hm : Hid (St.Lev (zs.getD k 0)) := Lib.hid (HZ.out _ (by
        rw [List.getD_eq_getElem?_getD, List.getElem?_eq_getElem hlt]
        exact List.getElem_mem _))
      have hok := Lib.hid (St.cl_ok zs d HZ.out k hk)
      have hcs : Hid (St.cl zs d (k + 1) = (St.nl (St.cl zs d k).1 (St.cl zs d k).2 k (zs.getD k 0) d, St.nb (St.cl zs d k).1 (St.cl zs d k).2 k (zs.getD k 0) d)) := Lib.hid rfl
      clear hcl g4
      generalize zs.getD k 0 = z at hcell hm hcs
      have ls0 := World.block_lt_of_cell? _ _ s0
      go_wp2_with (fail)
      refine (stNext_calls _ _ _ _ _ _ hok.out hm.out (by omega) (by omega) d0 d1).mono ?_
      rintro e w2 ⟨rfl, hb⟩
      replace z0 := frozenB hb ls0 z0
      replace z1 := frozenB hb ls0 z1
      replace ho := ho.below hb
      replace s0 := cellB hb s0
      replace s1 := cellB hb s1
      replace sB := below_step sB hb
      clear hb
      clear hcell ls0
      go_upto_region 11 with (fail)
      have ls0 : w.heap.size < w2.heap.size := World.block_lt_of_cell? _ _ s0
      obtain ⟨X, Y, hX, hY⟩ : ∃ X Y : Int, St.nl (St.cl zs d k).1 (St.cl zs d k).2 k z d = X ∧ St.nb (St.cl zs d k).1 (St.cl zs d k).2 k z d = Y := ⟨_, _, rfl, rfl⟩
      rw [hX, hY] at hcs ⊢
      clear hX hY
      obtain ⟨W, hW, n0, n1, q0, q1, y0, y1, ho', sB', hne, hlW, hgW⟩ : ∃ W, w2.alloc (Obj.cells #[Value.int .i64 X, Value.int .i64 Y] 24) = W ∧ W.cell? ⟨w2.heap.size, 0, none⟩ = some (.int .i64 X) ∧ W.cell? ⟨w2.heap.size, 1, none⟩ = some (.int .i64 Y) ∧
          W.cell? ⟨w.heap.size, 0, none⟩ = some (.int .i64 (St.cl zs d k).1) ∧ W.cell? ⟨w.heap.size, 1, none⟩ = some (.int .i64 (St.cl zs d k).2) ∧ W.frozen? ⟨w.heap.size, 0, none⟩ = false ∧ W.frozen? ⟨w.heap.size, 1, none⟩ = false ∧
          OutAt W g zs.length k (fun k => (St.cl zs d (k + 1)).1) ∧ Below w.heap.size w W ∧ w2.heap.size ≠ w.heap.size ∧ w.heap.size < W.heap.size ∧ w2.heap.size ≠ g :=
        ⟨_, rfl, by go_simp, by go_simp, cellA s0, cellA s1, by go_simp, by go_simp, ho.alloc _, sB.alloc sB.size _, by omega, by simp; omega, by have := ho.1; omega⟩
      have hk0 := ho'.2.2 k hlt
      have hk1 := ho'.2.1 k hlt
      rw [if_neg (Nat.lt_irrefl k)] at hk0
      generalize w2.heap.size = h at *
      rw [hW]
      clear hW s0 s1 z0 z1 ho sB
      have hf : (St.cl zs d (k + 1)).1 = X := by rw [hcs.out]
      have hf2 : (St.cl zs d (k + 1)).2 = Y := by rw [hcs.out]
      have H2 : Hid (OutAt (((W.setCell ⟨w.heap.size, 0, none⟩ (.int .i64 X)).setCell ⟨w.heap.size, 1, none⟩ (.int .i64 Y)).setCell ⟨g, k, none⟩ (.int .i64 X)) g zs.length (k + 1) (fun k => (St.cl zs d (k + 1)).1)) := Lib.hid (by
        have ho2 := ((ho'.other (o := 0) hgne.symm (.int .i64 X)).other (o := 1) hgne.symm (.int .i64 Y)).set hlt
        simp only [hf] at ho2
        exact ho2)
      have HF : Hid ((St.cl zs d (k + 1)).1 = X ∧ (St.cl zs d (k + 1)).2 = Y) := Lib.hid ⟨hf, hf2⟩
      have HB := Lib.hid sB'
      have HO := Lib.hid ho'
      clear ho' hf hf2 hcs sB' hok hm
      go_region
      go_wp2_with (fail)
      go_roundw
      case rel =>
        obtain ⟨e0, e1⟩ := set2 (.int .i64 X) (.int .i64 Y) q0 q1
        have f0 : ∀ o, W.frozen? ⟨w.heap.size, o, none⟩ = false → (((W.setCell ⟨w.heap.size, 0, none⟩ (.int .i64 X)).setCell ⟨w.heap.size, 1, none⟩ (.int .i64 Y)).setCell ⟨g, k, none⟩ (.int .i64 X)).frozen? ⟨w.heap.size, o, none⟩ = false := fun o h => by
          simp only [World.frozen?_setCell]
          exact h
        refine ⟨k + 1, by omega, by go_num, ?_, ?_, f0 0 y0, f0 1 y1, H2.out, Below.drew (((HB.out.setCell (Nat.le_refl _) _).setCell (Nat.le_refl _) _).setCell hgB _)⟩
        · rw [HF.out.1]
          exact setG hgne _ e0
        · rw [HF.out.2]
          exact setG hgne _ e1
      case measure => simp [intOf]; omega
    · go_wp2_with (fail)
      have hk' : k = zs.length := by omega
      subst hk'
      go_ret2
      exact ⟨g, hgB, rfl, ho, sB⟩
end Go.Proofs.Ytjmmkphdomiohab
