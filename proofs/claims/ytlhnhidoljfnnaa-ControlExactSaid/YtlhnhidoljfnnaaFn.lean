/- XFd is sound: contracts, functions. -/
import Derived.Test.YtlhnhidoljfnnaaFm
set_option linter.unusedVariables false
set_option linter.unusedSimpArgs false
namespace Go.Proofs.Ytlhnhidoljfnnaa
open Go.RowKit
namespace Fx
def RepCs (rd : Rd) (G : Nat → Prop) : List CT → List Value → List D → Prop
  | [], [], [] => True
  | c :: cs, v :: vs, d :: ds => RepC rd G c v d ∧ RepCs rd G cs vs ds
  | _, _, _ => False
/-- the value of a parameter or result of so many cells -/
def cellsV (agg : Bool) (v : Value) (cells : List Value) : Prop := if agg then v = .agg cells.toArray else [v] = cells
def Args (w : World) (G : Nat → Prop) : List PK → List Value → List D → List Nat → Prop
  | [], [], [], [] => True
  | .val agg cs :: ps, v :: vs, ds, pb => ∃ cells d1 d2, ds = d1 ++ d2 ∧ cellsV agg v cells ∧ RepCs (rdW w) G cs cells d1 ∧ Args w G ps vs d2 pb
  | .ptr cs :: ps, v :: vs, ds, b :: pb => ∃ d1 d2, ds = d1 ++ d2 ∧ v = .pointer (some ⟨b, 0, none⟩) ∧ b < w.heap.size ∧ (∀ o, w.frozen? ⟨b, o, none⟩ = false) ∧ RepR (rdW w) G cs b 0 d1 ∧ Args w G ps vs d2 pb
  | _, _, _, _ => False
def Ress (w : World) (G : Nat → Prop) : List RK → List Value → List D → Prop
  | [], [], [] => True
  | .val agg cs :: ps, v :: vs, ds => ∃ cells d1 d2, ds = d1 ++ d2 ∧ cellsV agg v cells ∧ RepCs (rdW w) G cs cells d1 ∧ Ress w G ps vs d2
  | _, _, _ => False
def Outs (w : World) (G : Nat → Prop) : List PK → List D → List Nat → Prop
  | [], [], [] => True
  | .val .. :: ps, ds, pb => Outs w G ps ds pb
  | .ptr cs :: ps, ds, b :: pb => ∃ d1 d2, ds = d1 ++ d2 ∧ (∀ o, w.frozen? ⟨b, o, none⟩ = false) ∧ RepR (rdW w) G cs b 0 d1 ∧ Outs w G ps d2 pb
  | _, _, _ => False
def oneV : List Value → Value
  | [v] => v
  | l => .tuple l.toArray
/-- the blocks in which slices lie that come back -/
def Back (w : World) (G : Nat → Prop) (pb : List Nat) (w' : World) : Nat → Prop := fun b => (G b ∨ w.heap.size ≤ b) ∧ b < w'.heap.size ∧ b ∉ pb
structure Returned (k : Con) (w : World) (G : Nat → Prop) (pb : List Nat) (outs : List D) (e : Ending) (w' : World) : Prop where
  ex : ∃ vs o1 o2, outs = o1 ++ o2 ∧ e = .returned (oneV vs) ∧ Ress w' (Back w G pb w') k.rs vs o1 ∧ Outs w' (Back w G pb w') k.ps o2 pb
  size : w.heap.size ≤ w'.heap.size
  keep : ∀ b, b < w.heap.size → b ∉ pb → w'.heap[b]? = w.heap[b]?
  io : Io w w'
/-- a function by a model: wherever the model gives something, the function does -/
def ConOk (P : Program) (k : Con) (m : List D → Option (List D)) : Prop := ∀ (w : World) (G : Nat → Prop) (args : List Value) (ds : List D) (pb : List Nat) (outs : List D), (∀ b, G b → b < w.heap.size ∧ b ∉ pb) → pb.Nodup → Args w G k.ps args ds pb → m ds = some outs → Gl w pb [] →
  Calls P k.f args.toArray w (Returned k w G pb outs)
theorem RepCs.len {rd : Rd} {G : Nat → Prop} : ∀ {cs : List CT} {vs : List Value} {ds : List D}, RepCs rd G cs vs ds → vs.length = cs.length ∧ ds.length = cs.length
  | [], [], [], _ => ⟨rfl, rfl⟩
  | c :: cs, v :: vs, d :: ds, h => by
    have := RepCs.len h.2
    simp [this]
  | [], _ :: _, _, h => by cases h
  | [], [], _ :: _, h => by cases h
  | _ :: _, [], _, h => by cases h
  | _ :: _, _ :: _, [], h => by cases h
theorem RepR.cs {rd : Rd} {G : Nat → Prop} {b : Nat} : ∀ {cs : List CT} {o : Nat} {ds : List D}, RepR rd G cs b o ds → ∃ vals, RepCs rd G cs vals ds ∧ ∀ j v, vals[j]? = some v → rd b (o + j) = some v
  | [], o, ds, h => by simp only [RepR] at h; subst h; exact ⟨[], trivial, fun j v hj => by simp at hj⟩
  | c :: cs, o, ds, h => by
    simp only [RepR] at h
    obtain ⟨d, row', rfl, ⟨v, hv, hc⟩, hr⟩ := h
    obtain ⟨vals, h1, h2⟩ := RepR.cs hr
    refine ⟨v :: vals, ⟨hc, h1⟩, fun j u hj => ?_⟩
    cases j with
    | zero => simp at hj; subst hj; exact hv
    | succ j => simp at hj; have := h2 j u hj; rwa [show o + (j + 1) = o + 1 + j by omega]
theorem RepR.of_cs {rd : Rd} {G : Nat → Prop} {b : Nat} : ∀ {cs : List CT} {o : Nat} {ds : List D} {vals : List Value}, RepCs rd G cs vals ds → (∀ j v, vals[j]? = some v → rd b (o + j) = some v) → RepR rd G cs b o ds
  | [], o, [], [], _, _ => by simp only [RepR]
  | c :: cs, o, d :: ds, v :: vals, h, k => by
    simp only [RepR]
    exact ⟨d, ds, rfl, ⟨v, k 0 v rfl, h.1⟩, RepR.of_cs h.2 fun j u hj => by have := k (j + 1) u (by simpa using hj); rwa [show o + 1 + j = o + (j + 1) by omega]⟩
  | [], _, _ :: _, _, h, _ => by have := h.len; simp at this
  | [], _, [], _ :: _, h, _ => by cases h
  | _ :: _, _, [], _, h, _ => by have := h.len; simp at this
  | _ :: _, _, _ :: _, [], h, _ => by cases h
theorem RepCs.mono {rd rd' : Rd} {G G' : Nat → Prop} (h : ∀ b, G b → G' b ∧ ∀ o, rd' b o = rd b o) : ∀ {cs : List CT} {vs : List Value} {ds : List D}, RepCs rd G cs vs ds → RepCs rd' G' cs vs ds
  | [], [], [], _ => trivial
  | c :: cs, v :: vs, d :: ds, k => ⟨RepC.mono h k.1, RepCs.mono h k.2⟩
  | [], _ :: _, _, h => by cases h
  | [], [], _ :: _, h => by cases h
  | _ :: _, [], _, h => by cases h
  | _ :: _, _ :: _, [], h => by cases h
/-- cells as new data -/
theorem freshC_ok {rd : Rd} {G : Nat → Prop} : ∀ {cs : List CT} {vals : List Value} {dd : List D} (d v : Nat), RepCs rd G cs vals dd → ∃ us : List Value, us.length = slN cs ∧ ∀ ρ' : Env, (∀ i x, dd[i]? = some x → ρ'.ds.getD (d + i) (.i 0) = x) → (∀ j u, us[j]? = some u → ρ'.vs (v + j) = u) →
    SV.dens ρ' (freshC cs d v).1 = vals ∧ (∀ x ∈ (freshC cs d v).1, x.isUnd = false) ∧ ∀ en ∈ (freshC cs d v).2, RepC rd G (.sl en.cs) (ρ'.vs en.i) (en.x.den ρ'.ds)
  | [], [], [], d, v, _ => ⟨[], rfl, fun ρ' _ _ => ⟨rfl, fun x hx => by simp [freshC] at hx, fun en he => by simp [freshC] at he⟩⟩
  | c :: cs, u :: vals, x :: dd, d, v, h => by
    obtain ⟨h1, h2⟩ := h
    cases c with
    | sl cs' =>
      obtain ⟨us, l, k⟩ := freshC_ok (d + 1) (v + 1) h2
      refine ⟨u :: us, by simp [slN, l], fun ρ' hd hv => ?_⟩
      obtain ⟨k1, k2, k3⟩ := k ρ' (fun i y hy => by have := hd (i + 1) y (by simpa using hy); rwa [show d + (i + 1) = d + 1 + i by omega] at this) (fun j y hy => by have := hv (j + 1) y (by simpa using hy); rwa [show v + (j + 1) = v + 1 + j by omega] at this)
      have e1 : ρ'.ds.getD d (.i 0) = x := hd 0 x rfl
      have e2 : ρ'.vs v = u := hv 0 u rfl
      refine ⟨by simp only [freshC, SV.dens, SV.den, k1, e2], fun y hy => ?_, fun en he => ?_⟩
      · simp only [freshC, List.mem_cons] at hy
        rcases hy with rfl | hy
        · rfl
        · exact k2 y hy
      · simp only [freshC, List.mem_cons] at he
        rcases he with rfl | he
        · simp only [X.den, e1, e2]; exact h1
        · exact k3 en he
    | int q =>
      obtain ⟨us, l, k⟩ := freshC_ok (d + 1) v h2
      refine ⟨us, by simp [slN, l], fun ρ' hd hv => ?_⟩
      obtain ⟨k1, k2, k3⟩ := k ρ' (fun i y hy => by have := hd (i + 1) y (by simpa using hy); rwa [show d + (i + 1) = d + 1 + i by omega] at this) hv
      have e1 : ρ'.ds.getD d (.i 0) = x := hd 0 x rfl
      simp only [RepC] at h1
      refine ⟨by simp only [freshC, SV.dens, SV.den, k1, X.den, e1, h1], fun y hy => ?_, fun en he => k3 en (by simpa [freshC] using he)⟩
      simp only [freshC, List.mem_cons] at hy
      rcases hy with rfl | hy
      · rfl
      · exact k2 y hy
    | bool =>
      obtain ⟨us, l, k⟩ := freshC_ok (d + 1) v h2
      refine ⟨us, by simp [slN, l], fun ρ' hd hv => ?_⟩
      obtain ⟨k1, k2, k3⟩ := k ρ' (fun i y hy => by have := hd (i + 1) y (by simpa using hy); rwa [show d + (i + 1) = d + 1 + i by omega] at this) hv
      have e1 : ρ'.ds.getD d (.i 0) = x := hd 0 x rfl
      simp only [RepC] at h1
      refine ⟨by simp only [freshC, SV.dens, SV.den, k1, X.den, e1, h1], fun y hy => ?_, fun en he => k3 en (by simpa [freshC] using he)⟩
      simp only [freshC, List.mem_cons] at hy
      rcases hy with rfl | hy
      · rfl
      · exact k2 y hy
    | str =>
      obtain ⟨us, l, k⟩ := freshC_ok (d + 1) v h2
      refine ⟨us, by simp [slN, l], fun ρ' hd hv => ?_⟩
      obtain ⟨k1, k2, k3⟩ := k ρ' (fun i y hy => by have := hd (i + 1) y (by simpa using hy); rwa [show d + (i + 1) = d + 1 + i by omega] at this) hv
      have e1 : ρ'.ds.getD d (.i 0) = x := hd 0 x rfl
      simp only [RepC] at h1
      refine ⟨by simp only [freshC, SV.dens, SV.den, k1, X.den, e1, h1], fun y hy => ?_, fun en he => k3 en (by simpa [freshC] using he)⟩
      simp only [freshC, List.mem_cons] at hy
      rcases hy with rfl | hy
      · rfl
      · exact k2 y hy
  | [], _ :: _, _, _, _, h => by cases h
  | [], [], _ :: _, _, _, h => by cases h
  | _ :: _, [], _, _, _, h => by cases h
  | _ :: _, _ :: _, [], _, _, h => by cases h
theorem freshV {agg : Bool} {ρ : Env} {l : List SV} {v : Value} {cells : List Value} (h : cellsV agg v cells) (hd : SV.dens ρ l = cells) : (if agg then SV.agg l else l.headD .und).den ρ = v := by
  unfold cellsV at h
  cases agg with
  | true => simp only [if_true] at h ⊢; rw [SV.den, hd, h]
  | false =>
    simp only [Bool.false_eq_true, if_false] at h ⊢
    rw [← h] at hd
    match l, hd with
    | [x], hd => simp only [SV.dens] at hd; injection hd
    | [], hd => simp [SV.dens] at hd
    | _ :: _ :: _, hd => simp [SV.dens] at hd
theorem freshU {agg : Bool} {ρ : Env} {l : List SV} {v : Value} {cells : List Value} (h : cellsV agg v cells) (hd : SV.dens ρ l = cells) (hu : ∀ x ∈ l, x.isUnd = false) : (if agg then SV.agg l else l.headD .und).isUnd = false := by
  unfold cellsV at h
  cases agg with
  | true => rfl
  | false =>
    simp only [Bool.false_eq_true, if_false] at h ⊢
    rw [← h] at hd
    match l, hd with
    | [x], hd => exact hu x (by simp)
    | [], hd => simp [SV.dens] at hd
    | _ :: _ :: _, hd => simp [SV.dens] at hd
theorem split_get {d1 d2 : List D} {ρ : Env} {d : Nat} (h : ∀ i x, (d1 ++ d2)[i]? = some x → ρ.ds.getD (d + i) (.i 0) = x) : (∀ i x, d1[i]? = some x → ρ.ds.getD (d + i) (.i 0) = x) ∧ ∀ i x, d2[i]? = some x → ρ.ds.getD (d + d1.length + i) (.i 0) = x :=
  ⟨fun i x hx => h i x (by rw [List.getElem?_append_left (lt_of_get hx)]; exact hx), fun i x hx => by
    have := h (d1.length + i) x (by rw [List.getElem?_append_right (by omega), Nat.add_sub_cancel_left]; exact hx)
    rwa [← Nat.add_assoc] at this⟩
theorem split_vs {u1 u2 : List Value} {ρ : Env} {v : Nat} (h : ∀ j u, (u1 ++ u2)[j]? = some u → ρ.vs (v + j) = u) : (∀ j u, u1[j]? = some u → ρ.vs (v + j) = u) ∧ ∀ j u, u2[j]? = some u → ρ.vs (v + u1.length + j) = u :=
  ⟨fun i x hx => h i x (by rw [List.getElem?_append_left (lt_of_get hx)]; exact hx), fun i x hx => by
    have := h (u1.length + i) x (by rw [List.getElem?_append_right (by omega), Nat.add_sub_cancel_left]; exact hx)
    rwa [← Nat.add_assoc] at this⟩
/-- results as new data -/
theorem freshR_ok {w : World} {G : Nat → Prop} : ∀ {rs : List RK} {vals : List Value} {dd : List D} (d v : Nat), Ress w G rs vals dd → dd.length = lenR rs ∧ ∃ us : List Value, us.length = slR rs ∧ ∀ ρ' : Env, (∀ i x, dd[i]? = some x → ρ'.ds.getD (d + i) (.i 0) = x) → (∀ j u, us[j]? = some u → ρ'.vs (v + j) = u) →
    SV.dens ρ' (freshR rs d v).1 = vals ∧ (∀ x ∈ (freshR rs d v).1, x.isUnd = false) ∧ ∀ en ∈ (freshR rs d v).2, RepC (rdW w) G (.sl en.cs) (ρ'.vs en.i) (en.x.den ρ'.ds)
  | [], [], [], d, v, _ => ⟨rfl, [], rfl, fun ρ' _ _ => ⟨rfl, fun x hx => by simp [freshR] at hx, fun en he => by simp [freshR] at he⟩⟩
  | .val agg cs :: rs, u :: vals, dd, d, v, h => by
    obtain ⟨cells, d1, d2, rfl, h1, h2, h3⟩ := h
    have hl := h2.len
    obtain ⟨us1, l1, k1⟩ := freshC_ok d v h2
    obtain ⟨hd2, us2, l2, k2⟩ := freshR_ok (d + cs.length) (v + slN cs) h3
    refine ⟨by simp [lenR, RK.cs, hl.2] at hd2 ⊢; omega, us1 ++ us2, by simp [slR, RK.cs, l1] at l2 ⊢; omega, fun ρ' hd hv => ?_⟩
    obtain ⟨e1, e2⟩ := split_get hd
    obtain ⟨f1, f2⟩ := split_vs hv
    obtain ⟨a1, a2, a3⟩ := k1 ρ' e1 f1
    obtain ⟨b1, b2, b3⟩ := k2 ρ' (by rwa [hl.2] at e2) (by rwa [l1] at f2)
    refine ⟨by simp only [freshR, SV.dens, freshV h1 a1, b1], fun x hx => ?_, fun en he => ?_⟩
    · simp only [freshR, List.mem_cons] at hx
      rcases hx with rfl | hx
      · exact freshU h1 a1 a2
      · exact b2 x hx
    · simp only [freshR, List.mem_append] at he
      exact he.elim (a3 en) (b3 en)
  | [], _ :: _, _, _, _, h => by cases h
  | [], [], _ :: _, _, _, h => by cases h
  | _ :: _, [], _, _, _, h => by cases h
section
variable {M : Models} {N : Nat} {P : Program} {F : Fr}
theorem res_run {ρ : Env} {st : St} {a : Act} {w : World} (hR : SRel F ρ st a w) : ∀ {l : List ResultVar} {vs : List SV}, resS P st l = some vs →
    (l.mapM fun r => (match r with | .tmp t => pure (a.tmps.getD t undef) | .cell c t => do loadVar t (← asAddr (a.tmps.getD c undef)) : Sem Value)).run P w = .ok (SV.dens ρ vs) w ∧ ∀ x ∈ vs, x.isUnd = false
  | [], vs, h => by simp only [resS, Option.some.injEq] at h; subst h; simp [SV.dens]
  | .tmp t :: rest, vs, h => by
    simp only [resS] at h
    split at h
    · cases h
    · rename_i hx
      rw [Option.map_eq_some_iff] at h
      obtain ⟨l, hl, rfl⟩ := h
      obtain ⟨r1, r2⟩ := res_run hR hl
      have hu : (st.tm.getD t .und).isUnd = false := by cases q : st.tm.getD t .und <;> first | rfl | exact absurd q hx
      have e : a.tmps.getD t undef = (st.tm.getD t .und).den ρ := by
        have := eval_of (st := st) hR.tm (.tmp t) (by simp only [evalO, getR_eq]; exact hu)
        simp only [evalO, getR_eq, Act.eval] at this
        exact this
      refine ⟨by simp only [List.mapM_cons, Sem.run_bind, Sem.run_pure, Result.andThen_ok, r1, SV.dens, e], fun x hm => ?_⟩
      rcases List.mem_cons.1 hm with rfl | hm
      · exact hu
      · exact r2 x hm
  | .cell c t :: rest, vs, h => by
    simp only [resS] at h
    split at h
    · rename_i i o hc
      split at h
      · rename_i v l hv hl
        injection h with h
        subst h
        have e : a.tmps.getD c undef = .pointer (some ⟨ρ.β i, o, none⟩) := by
          have := eval_of (st := st) hR.tm (.tmp c) (by simp only [evalO, getR_eq, hc]; rfl)
          simp only [evalO, getR_eq, hc, SV.den, Act.eval] at this
          exact this
        obtain ⟨r1, r2⟩ := res_run hR hl
        have ha : ∀ x w, (asAddr (.pointer (some x))).run P w = .ok x w := fun _ _ => rfl
        refine ⟨by simp only [List.mapM_cons, Sem.run_bind, e, ha, Sem.run_pure, Result.andThen_ok, load_run hR.h hv, r1, SV.dens], fun x hm => ?_⟩
        rcases List.mem_cons.1 hm with rfl | hm
        · unfold loadS at hv
          split at hv
          · split at hv
            · split at hv
              · rw [Option.map_eq_some_iff] at hv
                obtain ⟨_, _, rfl⟩ := hv
                rfl
              · split at hv
                · split at hv
                  · cases hv
                  · rename_i q; injection hv with hv; subst hv; simpa using q
                · cases hv
            · cases hv
          · cases hv
        · exact r2 x hm
      · cases h
    · cases h
theorem results_run {fn : Func} {ρ : Env} {st : St} {a : Act} {w : World} (hR : SRel F ρ st a w) {vs : List SV} (h : resS P st fn.results.toList = some vs) (v : SV) (hv : vs = [v] ∨ (vs.length ≠ 1 ∧ v = .tuple vs)) :
    (results fn a.tmps).run P w = .ok (v.den ρ) w ∧ v.isUnd = false := by
  obtain ⟨r1, r2⟩ := res_run hR h
  refine ⟨?_, ?_⟩
  · unfold results
    rw [Array.mapM_eq_mapM_toList]
    simp only [Sem.run_bind, Sem.run_map]
    erw [r1]
    simp only [Result.andThen_ok, Sem.run_pure]
    rcases hv with rfl | ⟨hl, rfl⟩
    · simp [SV.dens]
    · rw [dif_neg (by simp [dens_len]; exact hl)]
      simp [SV.den]
  · rcases hv with rfl | ⟨hl, rfl⟩
    · exact r2 v (by simp)
    · rfl
theorem body_ok {call : Caller} (hc : CallerOk P M N call) (hdr : DrawOk P M N call) (FO : F.Ok) {cut : Cut} {n : Nat} {f : FuncId} {fn : Func} (hf : P.funcs[f]? = some fn) {args : List SV} {st st' : St} {k : Ex} {ρ : Env} {ds' : List D} {w : World}
    (hu : ∀ x ∈ args, x.isUnd = false) (hP : PRel ρ.ds st) (hH : HRel F ρ st.hp st.sl w) (h : (bodyS P call cut n fn args st).eval M N ρ.ds = some ((k, st'), ds')) :
    Calls P f (SV.dens ρ args).toArray w fun e w' => k = .normal ∧ ∃ (sv : SV) (ρ' : Env) (a' : Act), st'.tm = [sv] ∧ e = .returned (sv.den ρ') ∧ sv.isUnd = false ∧ ρ'.ds = ds' ∧ Went F (st.nd, st.nv, st.nh) ρ ρ' { st' with tm := [] } a' w w' := by
  unfold bodyS at h
  split at h
  · rename_i c hb
    obtain ⟨⟨k1, st1⟩, d1, h1, h2⟩ := bind_some h
    have hR : SRel F ρ { st with tm := args ++ List.replicate (fn.ntmps - args.length) .und } { tmps := (SV.dens ρ args).toArray ++ Array.replicate (fn.ntmps - (SV.dens ρ args).toArray.size) undef, defers := [] } w := by
      refine ⟨⟨hP.nd, hP.bd, hP.kn⟩, hH, ⟨by simp [dens_len], fun t x hx hn => ?_⟩, rfl⟩
      rcases Nat.lt_or_ge t args.length with q | q
      · rw [List.getElem?_append_left q] at hx
        rw [Array.getElem?_append_left (by simpa [dens_len] using q), List.getElem?_toArray, dens_get, hx]
        rfl
      · rw [List.getElem?_append_right q, List.getElem?_replicate] at hx
        split at hx
        · injection hx with hx; subst hx; cases hn
        · cases hx
    refine calls_of_wp hf hb (wp_mono ((code_ok hc hdr FO cut n).1 hR h1) fun e a' w' ⟨he, ρ', hd, hW⟩ => ?_)
    subst he hd
    simp only at h2
    have fin : ∀ {vs : List SV} (v : SV), resS P st1 fn.results.toList = some vs → (vs = [v] ∨ (vs.length ≠ 1 ∧ v = .tuple vs)) → ((Ex.normal, { st1 with tm := [v] }) = (k, st') ∧ ρ'.ds = ds') →
        a'.defers = [] ∧ ∃ u, (results fn a'.tmps).run P w' = .ok u w' ∧ (k = .normal ∧ ∃ (sv : SV) (ρ' : Env) (a' : Act), st'.tm = [sv] ∧ Ending.returned u = .returned (sv.den ρ') ∧ sv.isUnd = false ∧ ρ'.ds = ds' ∧ Went F (st.nd, st.nv, st.nh) ρ ρ' { st' with tm := [] } a' w w') := by
      intro vs v q1 q2 q3
      obtain ⟨q3, h4⟩ := q3
      simp only [Prod.mk.injEq] at q3
      obtain ⟨rfl, rfl⟩ := q3
      obtain ⟨r1, r2⟩ := results_run hW.r q1 v q2
      exact ⟨hW.r.df, _, r1, rfl, v, ρ', ⟨#[], []⟩, rfl, rfl, r2, h4, ⟨⟨hW.r.p.nd, hW.r.p.bd, hW.r.p.kn⟩, hW.r.h, ⟨rfl, fun t x hx => by simp at hx⟩, rfl⟩, hW.ag, hW.nd, hW.nv, hW.nh, hW.size⟩
    split at h2
    · simp [T.eval] at h2
    · rename_i hx
      have key : bodyPost P fn (fun e w' => k = .normal ∧ ∃ (sv : SV) (ρ' : Env) (a' : Act), st'.tm = [sv] ∧ e = .returned (sv.den ρ') ∧ sv.isUnd = false ∧ ρ'.ds = ds' ∧ Went F (st.nd, st.nv, st.nh) ρ ρ' { st' with tm := [] } a' w w') .ret a' w' := by
        split at h2
        · rename_i v hv
          simp only [T.eval, Option.some.injEq, Prod.mk.injEq] at h2
          exact fin v hv (.inl rfl) ⟨by rw [Prod.mk.injEq]; exact h2.1, h2.2⟩
        · rename_i vs hne hv
          simp only [T.eval, Option.some.injEq, Prod.mk.injEq] at h2
          exact fin _ hv (.inr ⟨fun e => by
            match vs, e with
            | [v], _ => exact hne v rfl, rfl⟩) ⟨by rw [Prod.mk.injEq]; exact h2.1, h2.2⟩
        · simp [T.eval] at h2
      cases k1 with
      | exit i => exact absurd rfl (hx i)
      | normal => exact key
      | ret => exact key
  · simp [T.eval] at h
end
end Fx
end Go.Proofs.Ytlhnhidoljfnnaa
