/- XFd is sound: where states meet. -/
import Derived.Test.YtlhnhidoljfnnaaFk
set_option linter.unusedVariables false
set_option linter.unusedSimpArgs false
namespace Go.Proofs.Ytlhnhidoljfnnaa
open Go.RowKit
namespace Fx
theorem conSame_eq {a b : Value} (h : conSame a b = true) : a = b := by
  unfold conSame at h
  split at h
  · simp only [Bool.and_eq_true, beq_iff_eq] at h; rw [h.1, h.2]
  · simp only [beq_iff_eq] at h; rw [h]
  · rw [of_decide_eq_true h]
  · simp only [beq_iff_eq] at h; rw [h]
  · rfl
  · rfl
  · simp only [Bool.and_eq_true, beq_iff_eq] at h; rw [h.1.1, h.1.2, h.2]
  · rename_i a b
    simp only [Bool.and_eq_true, beq_iff_eq] at h
    rw [Array.eq_empty_of_size_eq_zero h.1, Array.eq_empty_of_size_eq_zero h.2]
  · cases h
mutual
theorem SV.same_eq : ∀ {x y : SV}, x.same y = true → x = y
  | .int k a, y, h => by
    cases y <;> simp only [SV.same, Bool.false_eq_true] at h
    simp only [Bool.and_eq_true, beq_iff_eq] at h; rw [h.1, X.same_eq h.2]
  | .bool a, y, h => by
    cases y <;> simp only [SV.same, Bool.false_eq_true] at h
    rw [X.same_eq h]
  | .str a, y, h => by
    cases y <;> simp only [SV.same, Bool.false_eq_true] at h
    rw [X.same_eq h]
  | .con a, y, h => by
    cases y <;> simp only [SV.same, Bool.false_eq_true] at h
    rw [conSame_eq h]
  | .var i, y, h => by
    cases y <;> simp only [SV.same, Bool.false_eq_true] at h
    simp only [beq_iff_eq] at h; rw [h]
  | .el i e n o, y, h => by
    cases y <;> simp only [SV.same, Bool.false_eq_true] at h
    simp only [Bool.and_eq_true, beq_iff_eq] at h; rw [h.1.1.1, X.same_eq h.1.1.2, h.1.2, h.2]
  | .ptr i o, y, h => by
    cases y <;> simp only [SV.same, Bool.false_eq_true] at h
    simp only [Bool.and_eq_true, beq_iff_eq] at h; rw [h.1, h.2]
  | .pel i o e l, y, h => by
    cases y <;> simp only [SV.same, Bool.false_eq_true] at h
    simp only [Bool.and_eq_true, beq_iff_eq] at h; rw [h.1.1.1, h.1.1.2, X.same_eq h.1.2, h.2]
  | .row i o l c, y, h => by
    cases y <;> simp only [SV.same, Bool.false_eq_true] at h
    simp only [Bool.and_eq_true, beq_iff_eq] at h; rw [h.1.1.1, h.1.1.2, h.1.2, h.2]
  | .agg l, y, h => by
    cases y <;> simp only [SV.same, Bool.false_eq_true] at h
    rw [SV.sames_eq h]
  | .tuple l, y, h => by
    cases y <;> simp only [SV.same, Bool.false_eq_true] at h
    rw [SV.sames_eq h]
  | .fn f a b, y, h => by
    cases y <;> simp only [SV.same, Bool.false_eq_true] at h
    simp only [Bool.and_eq_true, beq_iff_eq] at h
    rw [h.1.1, SV.sames_eq h.1.2, SV.sames_eq h.2]
  | .und, y, h => by
    cases y <;> simp only [SV.same, Bool.false_eq_true] at h
    rfl
theorem SV.sames_eq : ∀ {x y : List SV}, SV.sames x y = true → x = y
  | [], y, h => by cases y <;> simp only [SV.sames, Bool.false_eq_true] at h; rfl
  | x :: xs, y, h => by
    cases y <;> simp only [SV.sames, Bool.false_eq_true] at h
    simp only [Bool.and_eq_true] at h
    rw [SV.same_eq h.1, SV.sames_eq h.2]
end
theorem Ent.same_eq {a b : Ent} (h : entSame a b = true) : a = b := by
  simp only [entSame, Bool.and_eq_true, beq_iff_eq] at h
  cases a; cases b
  simp only at h
  rw [h.1.1, CT.sames_eq h.1.2, X.same_eq h.2]
theorem entsSame_eq : ∀ {a b : List Ent}, entsSame a b = true → a.take b.length = b
  | _, [], _ => by simp
  | [], _ :: _, h => by simp [entsSame] at h
  | a :: as, b :: bs, h => by
    simp only [entsSame, Bool.and_eq_true] at h
    rw [List.length_cons, List.take_succ_cons, Ent.same_eq h.1, entsSame_eq h.2]
/-- the value that a new slice stands for -/
def srcV (ρ : Env) : Src → Value
  | some i => ρ.vs i
  | none => .slice none 0 0
/-- what is to hold of new data and slices -/
structure Meets (ρ' ρJ : Env) (f : Fit) : Prop where
  d : ∀ p ∈ f.1, ρJ.ds.getD p.1 (.i 0) = p.2.den ρ'.ds
  v : ∀ p ∈ f.2, ρJ.vs p.1 = srcV ρ' p.2
theorem Meets.of {ρ' ρJ : Env} {f g : Option Fit} {r : Fit} (h : Fit.add f g = some r) (k : Meets ρ' ρJ r) : ∃ a b, f = some a ∧ g = some b ∧ Meets ρ' ρJ a ∧ Meets ρ' ρJ b := by
  unfold Fit.add at h
  split at h
  · rename_i a b
    injection h with h
    subst h
    exact ⟨a, b, rfl, rfl, ⟨fun p hp => k.d p (by simp [hp]), fun p hp => k.v p (by simp [hp])⟩, ⟨fun p hp => k.d p (by simp [hp]), fun p hp => k.v p (by simp [hp])⟩⟩
  · cases h
section
variable {nd nv nh : Nat} {ρ' ρJ : Env}
theorem fit1_ok (ag : Ag nd nv nh ρ' ρJ) {x y : SV} {f : Fit} (h : fit1 nd nv nh x y = some f) (k : Meets ρ' ρJ f) : x.den ρJ = y.den ρ' ∧ y.isUnd = x.isUnd := by
  unfold fit1 at h
  split at h
  · rename_i hc
    simp only [Bool.and_eq_true] at hc
    have e := SV.same_eq hc.1
    subst e
    exact ⟨SV.den_ag ag hc.2, rfl⟩
  · split at h
    · rename_i q d q' e _
      split at h
      · rename_i hc
        obtain ⟨rfl, hc⟩ := hc
        injection h with h
        subst h
        have := k.d (d, e) (by simp)
        simp only at this
        exact ⟨by simp only [SV.den, X.den, this], rfl⟩
      · cases h
    · rename_i d e _
      split at h
      · injection h with h
        subst h
        have := k.d (d, e) (by simp)
        simp only at this
        exact ⟨by simp only [SV.den, X.den, this], rfl⟩
      · cases h
    · rename_i d e _
      split at h
      · injection h with h
        subst h
        have := k.d (d, e) (by simp)
        simp only at this
        exact ⟨by simp only [SV.den, X.den, this], rfl⟩
      · cases h
    · rename_i hh i _
      split at h
      · injection h with h
        subst h
        exact ⟨k.v (hh, some i) (by simp), rfl⟩
      · cases h
    · rename_i hh _
      split at h
      · injection h with h
        subst h
        exact ⟨k.v (hh, none) (by simp), rfl⟩
      · cases h
    · cases h
theorem fitL_ok (ag : Ag nd nv nh ρ' ρJ) : ∀ {x y : List SV} {f : Fit}, fitL nd nv nh x y = some f → Meets ρ' ρJ f → SV.dens ρJ x = SV.dens ρ' y
  | [], [], _, _, _ => rfl
  | [], _ :: _, _, h, _ => by cases h
  | _ :: _, [], _, h, _ => by cases h
  | x :: xs, y :: ys, f, h, k => by
    simp only [fitL] at h
    obtain ⟨a, b, h1, h2, k1, k2⟩ := k.of h
    simp only [SV.dens, (fit1_ok ag h1 k1).1, fitL_ok ag h2 k2]
theorem fitA_ok (ag : Ag nd nv nh ρ' ρJ) {x y : SV} {f : Fit} (h : fitA nd nv nh x y = some f) (k : Meets ρ' ρJ f) : x.den ρJ = y.den ρ' := by
  unfold fitA at h
  split at h
  · simp only [SV.den]
    split at h
    · rename_i hc
      simp only [Bool.and_eq_true] at hc
      rw [← SV.sames_eq hc.1, SV.dens_ag ag hc.2]
    · rw [fitL_ok ag h k]
  · exact (fit1_ok ag h k).1
theorem fitAL_ok (ag : Ag nd nv nh ρ' ρJ) : ∀ {x y : List SV} {f : Fit}, fitAL nd nv nh x y = some f → Meets ρ' ρJ f → SV.dens ρJ x = SV.dens ρ' y
  | [], [], _, _, _ => rfl
  | [], _ :: _, _, h, _ => by cases h
  | _ :: _, [], _, h, _ => by cases h
  | x :: xs, y :: ys, f, h, k => by
    simp only [fitAL] at h
    obtain ⟨a, b, h1, h2, k1, k2⟩ := k.of h
    simp only [SV.dens, fitA_ok ag h1 k1, fitAL_ok ag h2 k2]
theorem fitU_ok (ag : Ag nd nv nh ρ' ρJ) : ∀ {x y : List SV} {f : Fit}, fitU nd nv nh x y = some f → Meets ρ' ρJ f → ∀ (t : Nat) (u : SV), x[t]? = some u → u.isUnd = false → ∃ v, y[t]? = some v ∧ v.isUnd = false ∧ u.den ρJ = v.den ρ'
  | [], _, _, _, _, t, u, hu, _ => by simp at hu
  | x :: xs, [], f, h, k, t, u, hu, hn => by
    cases x <;> simp [fitU] at h
  | x :: xs, y :: ys, f, h, k, t, u, hu, hn => by
    have tail : ∀ {f'}, fitU nd nv nh xs ys = some f' → Meets ρ' ρJ f' → ∀ (t : Nat) (u : SV), xs[t]? = some u → u.isUnd = false → ∃ v, ys[t]? = some v ∧ v.isUnd = false ∧ u.den ρJ = v.den ρ' := fun h' k' t u hu hn => fitU_ok ag h' k' t u hu hn
    unfold fitU at h
    split at h
    · rename_i e; cases e
    · rename_i ys' e1 e2
      injection e1 with e1 e1'
      injection e2 with e2 e2'
      subst e1 e1' e2'
      cases t with
      | zero => simp at hu; subst hu; cases hn
      | succ t => simp at hu; simpa using tail h k t u hu hn
    · rename_i l xs' m ys' e1 e2
      injection e1 with e1 e1'
      injection e2 with e2 e2'
      subst e1 e1' e2 e2'
      obtain ⟨a, b, h1, h2, k1, k2⟩ := k.of h
      cases t with
      | zero =>
        simp at hu
        subst hu
        refine ⟨.agg m, by simp, rfl, ?_⟩
        simp only [SV.den]
        split at h1
        · rename_i hc
          simp only [Bool.and_eq_true] at hc
          rw [← SV.sames_eq hc.1, SV.dens_ag ag hc.2]
        · rw [fitL_ok ag h1 k1]
      | succ t => simp at hu; simpa using tail h2 k2 t u hu hn
    · rename_i l xs' m ys' e1 e2
      injection e1 with e1 e1'
      injection e2 with e2 e2'
      subst e1 e1' e2 e2'
      obtain ⟨a, b, h1, h2, k1, k2⟩ := k.of h
      cases t with
      | zero =>
        simp at hu
        subst hu
        refine ⟨.tuple m, by simp, rfl, ?_⟩
        simp only [SV.den]
        split at h1
        · rename_i hc
          simp only [Bool.and_eq_true] at hc
          rw [← SV.sames_eq hc.1, SV.dens_ag ag hc.2]
        · rw [fitAL_ok ag h1 k1]
      | succ t => simp at hu; simpa using tail h2 k2 t u hu hn
    · rename_i e1 e2
      injection e1 with e1 e1'
      injection e2 with e2 e2'
      subst e1 e1' e2 e2'
      obtain ⟨a, b, h1, h2, k1, k2⟩ := k.of h
      cases t with
      | zero =>
        simp at hu
        subst hu
        obtain ⟨q1, q2⟩ := fit1_ok ag h1 k1
        exact ⟨_, by simp, by rw [q2]; exact hn, q1⟩
      | succ t => simp at hu; simpa using tail h2 k2 t u hu hn
    · cases h
end
theorem nodup_get : ∀ {l : List (Option Nat)}, nodup l = true → ∀ (i j m : Nat), l[i]? = some (some m) → l[j]? = some (some m) → i = j
  | [], _, i, j, m, h, _ => by simp at h
  | none :: l, h, i, j, m, hi, hj => by
    simp only [nodup] at h
    cases i with
    | zero => simp at hi
    | succ i =>
      cases j with
      | zero => simp at hj
      | succ j => simp at hi hj; rw [nodup_get h i j m hi hj]
  | some q :: l, h, i, j, m, hi, hj => by
    simp only [nodup, Bool.and_eq_true, Bool.not_eq_true'] at h
    obtain ⟨h1, h2⟩ := h
    have hno : ∀ k, l[k]? = some (some q) → False := fun k hk => by
      have := List.mem_of_getElem? hk
      have c : l.contains (some q) = true := by simpa using this
      rw [c] at h1
      cases h1
    cases i with
    | zero =>
      simp at hi
      subst hi
      cases j with
      | zero => rfl
      | succ j => simp at hj; exact (hno j hj).elim
    | succ i =>
      cases j with
      | zero => simp at hj; subst hj; simp at hi; exact (hno i hi).elim
      | succ j => simp at hi hj; rw [nodup_get h2 i j m hi hj]
/-- what a block where states meet has of the state that is left -/
def BFit (G : Nat → Prop) (base leaf : St) (ρ' ρJ : Env) (w : World) (j : Nat) (b : Blk) (m : Option Nat) : Prop :=
  blkOf ρJ j b = (match m with | some j' => blkAt ρ' leaf.hp j' | none => none) ∧ (∀ cs x h j', b = Blk.rows cs x h → m = some j' → ∃ cs x h, leaf.hp[j']? = some (Blk.rows cs x h)) ∧ (∀ G' : Nat → Prop, (∀ b, G b → G' b) → BlkOk G' ρJ w j b)
theorem fitB_ok {nh : Nat} {F : Fr} {base leaf : St} {ρ' ρJ : Env} {w : World} (ag : Ag base.nd base.nv nh ρ' ρJ) (eβ : ρJ.β = ρ'.β) (hH : HRel F ρ' leaf.hp leaf.sl w) {hs : List (Nat × Src)} : ∀ {l : List Blk} {j : Nat} {f : Fit} {μ : List (Option Nat)}, fitB nh base leaf hs l j = some (f, μ) → Meets ρ' ρJ f →
    ∀ (i : Nat) (b : Blk), l[i]? = some b → ∃ m, μ[i]? = some m ∧ BFit (Gd F ρ' leaf.hp w) base leaf ρ' ρJ w (j + i) b m
  | [], _, _, _, _, _, i, b, hb => by simp at hb
  | b0 :: l, j, f, μ, h, k, i, b, hb => by
    unfold fitB at h
    split at h
    · rename_i f1 m f2 ms h1 h2
      simp only [Option.some.injEq, Prod.mk.injEq] at h
      obtain ⟨rfl, rfl⟩ := h
      have k1 : Meets ρ' ρJ f1 := ⟨fun p hp => k.d p (by simp [hp]), fun p hp => k.v p (by simp [hp])⟩
      have k2 : Meets ρ' ρJ f2 := ⟨fun p hp => k.d p (by simp [hp]), fun p hp => k.v p (by simp [hp])⟩
      cases i with
      | succ i =>
        simp at hb
        obtain ⟨m', q1, q2⟩ := fitB_ok ag eβ hH h2 k2 i b hb
        exact ⟨m', by simpa using q1, by rwa [show j + (i + 1) = j + 1 + i by omega]⟩
      | zero =>
        simp at hb
        subst hb
        refine ⟨m, by simp, ?_⟩
        rw [Nat.add_zero]
        clear h2 k2
        split at h1
        · simp only [Option.some.injEq, Prod.mk.injEq] at h1
          obtain ⟨_, rfl⟩ := h1
          exact ⟨rfl, (fun _ _ _ _ e => by cases e), fun _ _ => trivial⟩
        · rename_i cells wr
          split at h1
          · rename_i c w' hc
            split at h1
            · rename_i hcond
              simp only [Bool.and_eq_true, Bool.or_eq_true, Bool.not_eq_true', decide_eq_true_eq] at hcond
              obtain ⟨c1, c3⟩ := hcond
              rw [Option.map_eq_some_iff] at h1
              obtain ⟨f', hf', e⟩ := h1
              simp only [Prod.mk.injEq] at e
              obtain ⟨rfl, rfl⟩ := e
              have okl := hH.ok hc
              refine ⟨by simp only [blkOf, eβ, blkAt_fix hc], (fun _ _ _ _ e => by cases e), fun G' _ => ⟨fun o x hx hu => ?_, fun o ho => ?_, fun hw o => ?_⟩⟩
              · obtain ⟨v, q1, q2, q3⟩ := fitU_ok ag hf' k1 o x hx hu
                rw [q3, eβ]
                exact okl.1 o v q1 q2
              · rw [eβ]; exact okl.2.1 o (by omega)
              · rw [eβ]; exact okl.2.2 (c1.resolve_left (by rw [hw]; decide)) o
            · cases h1
          · cases h1
        · rename_i cs x hd
          split at h1
          · rename_i j' hj'
            split at h1
            · rename_i cs' x' h' hleaf
              split at h1
              · rename_i hcs
                have := CT.sames_eq hcs
                subst this
                rw [Option.map_eq_some_iff] at h1
                obtain ⟨f', hf', e⟩ := h1
                simp only [Prod.mk.injEq] at e
                obtain ⟨rfl, rfl⟩ := e
                obtain ⟨a, b, g1, g2, ka, kb⟩ := k1.of hf'
                have ex : (x.den ρJ.ds).rows = (x'.den ρ'.ds).rows := by
                  split at g1
                  · rename_i hc
                    simp only [Bool.and_eq_true] at hc
                    have e := X.same_eq hc.1
                    subst e
                    rw [X.den_ag ag.ds hc.2]
                  · split at g1
                    · rename_i d _
                      split at g1
                      · injection g1 with g1
                        subst g1
                        have := ka.d (d, x') (by simp)
                        simp only at this
                        simp only [X.den, this]
                      · cases g1
                    · cases g1
                have ev : ρJ.vs hd = ρ'.vs h' := by
                  split at g2
                  · rename_i hc
                    obtain ⟨rfl, e2⟩ := hc
                    exact ag.vs _ e2
                  · split at g2
                    · injection g2 with g2
                      subst g2
                      exact kb.v (hd, some h') (by simp)
                    · cases g2
                refine ⟨by simp only [blkOf, ev, blkAt_rows hleaf], (fun _ _ _ _ _ e => by injection e with e; subst e; exact ⟨_, _, _, hleaf⟩), fun G' hG => ?_⟩
                simp only [BlkOk, ev, ex]
                exact (hH.rows j' _ _ _ hleaf).mono (fun b g => ⟨hG b g, rfl⟩) fun _ _ => rfl
              · cases h1
            · cases h1
          · split at h1
            · rename_i d
              split at h1
              · simp only [Option.some.injEq, Prod.mk.injEq] at h1
                obtain ⟨rfl, rfl⟩ := h1
                have e1 := k1.d (d, .rows []) (by simp)
                have e2 := k1.v (hd, none) (by simp)
                simp only [srcV] at e1 e2
                refine ⟨by simp only [blkOf, e2]; rfl, (fun _ _ _ _ _ e => by cases e), fun G' _ => ?_⟩
                simp only [BlkOk, e2, X.den, e1]
                exact .inl ⟨none, rfl, rfl⟩
              · cases h1
            · cases h1
          · cases h1
    · cases h
theorem fitE_ok {F : Fr} {base leaf : St} {ρ' ρJ : Env} {w : World} (hH : HRel F ρ' leaf.hp leaf.sl w) {hs : List (Nat × Src)} (hv : ∀ p ∈ hs, ρJ.vs p.1 = srcV ρ' p.2) {G' : Nat → Prop} (hG : ∀ b, Gd F ρ' leaf.hp w b → G' b) : ∀ {l : List Ent} {f : Fit}, fitE base leaf hs l = some f → Meets ρ' ρJ f → ∀ e ∈ l, RepC (rdW w) G' (.sl e.cs) (ρJ.vs e.i) (e.x.den ρJ.ds)
  | [], _, _, _, e, he => by cases he
  | e0 :: l, f, h, k, e, he => by
    simp only [fitE] at h
    obtain ⟨a, b, h1, h2, k1, k2⟩ := k.of h
    rcases List.mem_cons.1 he with rfl | he
    · split at h1
      · rename_i d hx
        split at h1
        · split at h1
          · rename_i q i hf
            have hm := List.mem_of_find?_eq_some hf
            have hq := List.find?_some hf
            simp only [beq_iff_eq] at hq
            subst hq
            have evs := hv _ hm
            simp only [srcV] at evs
            split at h1
            · rename_i e' hf'
              have hm' := List.mem_of_find?_eq_some hf'
              have hq' := List.find?_some hf'
              simp only [beq_iff_eq] at hq'
              subst hq'
              split at h1
              · rename_i hcs
                injection h1 with h1
                subst h1
                have ed := k1.d (d, e'.x) (by simp)
                simp only at ed
                rw [evs, hx, CT.sames_eq hcs]
                simp only [X.den, ed]
                exact RepC.mono (fun b g => ⟨hG b g, fun _ => rfl⟩) (hH.imm e' hm')
              · cases h1
            · cases h1
          · rename_i q hf
            have hm := List.mem_of_find?_eq_some hf
            have hq := List.find?_some hf
            simp only [beq_iff_eq] at hq
            subst hq
            have evs := hv _ hm
            simp only [srcV] at evs
            injection h1 with h1
            subst h1
            have ed := k1.d (d, .rows []) (by simp)
            simp only at ed
            rw [evs, hx]
            simp only [X.den, ed, RepC, X.denss, D.rows]
            exact ⟨none, 0, rfl, Nat.le_refl _, Nat.zero_le _, .inl rfl⟩
          · cases h1
        · cases h1
      · cases h1
    · exact fitE_ok hH hv hG h2 k2 e he
theorem okB_at {base : St} {fs : List (Nat × X)} : ∀ {l : Bds} {j : Nat}, okB base fs l j = true → ∀ (i : Nat) (a b : Int), l[i]? = some (some (a, b)) → base.bd[j + i]? = some (some (a, b)) ∨ ∃ p ∈ fs, p.1 = j + i
  | [], _, _, i, a, b, hi => by simp at hi
  | r :: l, j, h, i, a, b, hi => by
    have tail : okB base fs l (j + 1) = true := by cases r with
      | none => simpa [okB] using h
      | some p => obtain ⟨x, y⟩ := p; simp only [okB, Bool.and_eq_true] at h; exact h.2
    cases i with
    | zero =>
      simp at hi
      subst hi
      simp only [okB, Bool.and_eq_true, Bool.or_eq_true] at h
      rcases h.1 with h | h
      · left
        split at h
        · rename_i a' b' hb
          simp only [Bool.and_eq_true, beq_iff_eq] at h
          rw [Nat.add_zero, hb, h.1, h.2]
        · cases h
      · right
        rw [List.any_eq_true] at h
        obtain ⟨p, hp, hq⟩ := h
        simp only [beq_iff_eq] at hq
        exact ⟨p, hp, by omega⟩
    | succ i =>
      simp at hi
      have := okB_at tail i a b hi
      rwa [show j + 1 + i = j + (i + 1) by omega] at this
section
variable {F : Fr}
/-- A state that fits where states meet is one of the states there. -/
theorem fitS_ok {base J leaf : St} {ρ ρ' : Env} {d : Nat} {xs : List X} {hs : List (Nat × Src)} {a : Act} {w w1 : World} {dsJ : List D} (Sb : Scp base) (pb : PRel ρ.ds base) (hkn : J.kn = base.kn)
    (hW : Went F (base.nd, base.nv, base.nh) ρ ρ' leaf a w1 w) (h : fitS base J leaf d = some (xs, hs)) (hlen : dsJ.length = J.nd) (hpre : AgD base.nd ρ.ds dsJ) (hnew : ∀ i, i < xs.length → dsJ.getD (d + i) (.i 0) = (xs.getD i (.N 0)).den ρ'.ds) :
    xs.length = J.nd - d ∧ ∃ ρJ : Env, ρJ.ds = dsJ ∧ Went F (base.nd, base.nv, base.nh) ρ ρJ J a w1 w := by
  unfold fitS at h
  split at h
  · cases h
  rename_i hc0
  simp only [Bool.not_eq_true', Bool.not_eq_false, Bool.and_eq_true, beq_iff_eq, decide_eq_true_eq] at hc0
  obtain ⟨⟨⟨⟨⟨⟨g1, g2⟩, g3⟩, g4⟩, g5⟩, g6⟩, g7⟩ := hc0
  split at h
  · rename_i t ht
    split at h
    · rename_i b μ hb
      split at h
      · rename_i e he
        simp only at h
        split at h
        · rename_i hc
          simp only [Bool.and_eq_true, List.all_eq_true, decide_eq_true_eq] at hc
          obtain ⟨⟨⟨⟨⟨c1, c2⟩, c3⟩, c4⟩, c5⟩, c6⟩ := hc
          simp only [Option.some.injEq, Prod.mk.injEq] at h
          obtain ⟨rfl, rfl⟩ := h
          refine ⟨by simp, ?_⟩
          have ag0 := hW.ag
          simp only at ag0
          generalize hfs : t.1 ++ b.1 ++ e.1 = fs at *
          generalize hhs : t.2 ++ b.2 ++ e.2 = hs at *
          let ρJ : Env := ⟨dsJ, fun h => if h < base.nv then ρ'.vs h else match hs.find? (·.1 == h) with | some q => srcV ρ' q.2 | none => undef, ρ'.β⟩
          have eds : ρJ.ds = dsJ := rfl
          have eβ : ρJ.β = ρ'.β := rfl
          have ag : Ag base.nd base.nv J.nh ρ' ρJ := ⟨fun i hi => by rw [eds, hpre i hi, ag0.ds i hi], fun i hi => by simp only [ρJ, if_pos hi], fun i _ => rfl⟩
          have agJ : Ag base.nd base.nv base.nh ρ ρJ := ag0.trans ⟨ag.ds, ag.vs, fun i _ => rfl⟩ (Nat.le_refl _) (Nat.le_refl _) (Nat.le_refl _)
          have md : ∀ p ∈ fs, ρJ.ds.getD p.1 (.i 0) = p.2.den ρ'.ds := by
            intro p hp
            have q := c4 p hp
            simp only [okD, List.all_eq_true, Bool.and_eq_true, decide_eq_true_eq] at c3
            obtain ⟨⟨q1, q2⟩, _⟩ := c3 p hp
            have hi : p.1 - d < ((List.range (J.nd - d)).map (fun i => match fs.find? (·.1 == d + i) with | some p => p.2 | none => .N 0)).length := by simp; omega
            have := hnew (p.1 - d) hi
            rw [show d + (p.1 - d) = p.1 by omega] at this
            rw [eds, this]
            simp only [List.getD_eq_getElem?_getD, List.getElem?_map, List.getElem?_range (show p.1 - d < J.nd - d by omega), Option.map_some, Option.getD_some, show d + (p.1 - d) = p.1 by omega]
            split at q2
            · rename_i r hr
              rw [X.same_eq q2]
            · cases q2
          have mv : ∀ p ∈ hs, base.nv ≤ p.1 → ρJ.vs p.1 = srcV ρ' p.2 := by
            intro p hp hn
            simp only [okH, List.all_eq_true] at c2
            have q := c2 p hp
            split at q
            · rename_i r hr
              simp only [ρJ, if_neg (Nat.not_lt.2 hn), hr]
              rw [eq_of_beq q]
            · cases q
          have mt : Meets ρ' ρJ t := ⟨fun p hp => md p (by rw [← hfs]; simp [hp]), fun p hp => mv p (by rw [← hhs]; simp [hp]) (c6 p (by rw [← hhs]; simp [hp]))⟩
          have mb : Meets ρ' ρJ b := ⟨fun p hp => md p (by rw [← hfs]; simp [hp]), fun p hp => mv p (by rw [← hhs]; simp [hp]) (c6 p (by rw [← hhs]; simp [hp]))⟩
          have me : Meets ρ' ρJ e := ⟨fun p hp => md p (by rw [← hfs]; simp [hp]), fun p hp => mv p (by rw [← hhs]; simp [hp]) (c6 p (by rw [← hhs]; simp [hp]))⟩
          have hH := hW.r.h
          have bf := fitB_ok ag eβ hH hb mb
          have at' : ∀ j c, blkAt ρJ J.hp j = some c → ∃ j', μ[j]? = some (some j') ∧ blkAt ρ' leaf.hp j' = some c := by
            intro j c hj
            unfold blkAt at hj
            split at hj
            · rename_i blk hblk
              obtain ⟨m, q1, q2, _, _⟩ := bf j blk hblk
              rw [Nat.zero_add] at q2
              rw [hj] at q2
              cases m with
              | none => cases q2
              | some j' => exact ⟨j', q1, q2.symm⟩
            · cases hj
          have hG : ∀ b, Gd F ρ' leaf.hp w b → Gd F ρJ J.hp w b := fun b g => Gd.of (Nat.le_refl _) (fun j b hj _ => by obtain ⟨j', _, q⟩ := at' j b hj; exact ⟨j', q⟩) b g
          have hHJ : HRel F ρJ J.hp J.sl w := by
            refine HRel.mk' hH.io hH.size hH.keep (fun j c hj => ?_) (fun j cs x hh c h1 h2 => ?_) (fun j k c hj hk => ?_) (fun j blk hblk => ?_) fun en hen => ?_
            · obtain ⟨j', _, q⟩ := at' j c hj
              exact hH.lo j' c q
            · obtain ⟨m, q1, q2, q3, _⟩ := bf j _ h1
              obtain ⟨j', q4, q5⟩ := at' j c h2
              rw [q1] at q4
              injection q4 with q4
              obtain ⟨cs', x', h', q6⟩ := q3 cs x hh j' rfl q4
              exact hH.npb j' cs' x' h' c q6 q5
            · obtain ⟨j', q1, q2⟩ := at' j c hj
              obtain ⟨k', q3, q4⟩ := at' k c hk
              have := hH.inj j' k' c q2 q4
              subst this
              exact nodup_get c1 j k j' q1 q3
            · obtain ⟨m, _, q⟩ := bf j blk hblk
              have := q.2.2 _ hG
              rwa [Nat.zero_add] at this
            · rw [← List.take_append_drop base.sl.length J.sl] at hen
              rcases List.mem_append.1 hen with hen | hen
              · rw [entsSame_eq g2] at hen
                obtain ⟨s1, s2⟩ := Sb.sl en hen
                have hl : en ∈ leaf.sl := List.mem_of_mem_take (by rw [entsSame_eq g3]; exact hen)
                have := hH.imm en hl
                rw [ag.vs _ s1, X.den_ag ag.ds s2]
                exact RepC.mono (fun b g => ⟨hG b g, fun _ => rfl⟩) this
              · exact fitE_ok hH (fun p hp => mv p (by rw [← hhs]; rcases List.mem_append.1 hp with hp | hp <;> simp [hp]) (c6 p (by rw [← hhs]; rcases List.mem_append.1 hp with hp | hp <;> simp [hp]))) hG he me en hen
          refine ⟨ρJ, rfl, ⟨⟨hlen, fun i l u hi => ?_, fun p hp => ?_⟩, hHJ, ⟨hW.r.tm.size.trans g1, fun i u hi hn => ?_⟩, hW.r.df⟩, agJ, Nat.le_trans g4 g5, g6, g7, hW.size⟩
          · rcases okB_at c5 i l u hi with q | ⟨p, hp, q⟩
            · rw [Nat.zero_add] at q
              have hil : i < base.nd := Nat.lt_of_lt_of_le (lt_of_get q) Sb.bd
              rw [eds, hpre i hil]
              exact pb.bd i l u q
            · rw [Nat.zero_add] at q
              subst q
              simp only [okD, List.all_eq_true, Bool.and_eq_true, decide_eq_true_eq] at c3
              obtain ⟨_, q2⟩ := c3 p hp
              rw [hi] at q2
              simp only at q2
              split at q2
              · rename_i l' u' hr
                have := rng_ok hW.r.p.bd hr
                have q2 := of_decide_eq_true q2
                rw [md p hp]
                omega
              · cases q2
          · rw [hkn] at hp
            rw [eds, X.den_ag hpre (Sb.kn p hp)]
            exact pb.kn p hp
          · obtain ⟨v, q1, q2, q3⟩ := fitU_ok ag ht mt i u hi hn
            rw [q3]
            exact hW.r.tm.at_ i v q1 q2
        · cases h
      · cases h
    · cases h
  · cases h
end
end Fx
end Go.Proofs.Ytlhnhidoljfnnaa
