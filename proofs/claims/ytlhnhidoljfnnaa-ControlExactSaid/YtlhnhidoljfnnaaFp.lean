/- XFd is sound: functions of a program, by their trees. -/
import Derived.Test.YtlhnhidoljfnnaaFo
set_option linter.unusedVariables false
set_option linter.unusedSimpArgs false
namespace Go.Proofs.Ytlhnhidoljfnnaa
open Go.RowKit
namespace Fx
section
variable {M : Models} {N : Nat} {P : Program} {F : Fr}
theorem caller_ok {cons : List Con} (hM : ∀ k ∈ cons, ConOk P k (M k.f)) (hdr : ∀ call, CallerOk P M N call → DrawOk P M N call) (cuts : Cuts) : ∀ n, CallerOk P M N (callS P cons cuts n)
  | 0 => by
    intro FO f args st st' sv ρ ds' w hP hH h
    simp [callS, T.eval] at h
  | n + 1 => by
    intro FO f args st st' sv ρ ds' w hP hH h
    rename_i F
    have ih : CallerOk P M N (callS P cons cuts n) := caller_ok hM hdr cuts n
    simp only [callS] at h
    split at h
    · rename_i k hf
      split at h
      · rename_i e
        simp only [beq_iff_eq] at e
        subst e
        exact con_ok (hM k (List.mem_of_find?_eq_some hf)) FO hP hH h
      · simp [T.eval] at h
    · split at h
      · rename_i fn hfn
        split at h
        · simp [T.eval] at h
        · rename_i hcnd
          simp only [Bool.or_eq_true, Bool.not_eq_true', not_or, Bool.not_eq_false, Bool.not_eq_true] at hcnd
          obtain ⟨⟨c1, c2⟩, c3⟩ := hcnd
          have S := scoped_iff c2
          have hu : ∀ x ∈ args, x.isUnd = false := fun x hx => by
            rw [List.any_eq_false] at c3
            simpa using c3 x hx
          obtain ⟨⟨k1, J⟩, d1, h1, h2⟩ := bind_some h
          obtain ⟨k0, leaf, d0, j1, j2⟩ := joinS_ok (F := F) h1
          refine ⟨c1, hu, (body_ok ih (hdr _ ih) FO hfn hu hP hH j1).mono fun e w' ⟨hk0, sv0, ρ0, a0, htm, he, hsu, hd0, hW⟩ => ?_⟩
          have hW' : Went F (st.nd, st.nv, st.nh) ρ ρ0 leaf ⟨#[sv0.den ρ0], []⟩ w w' := by
            refine ⟨⟨⟨hW.r.p.nd, hW.r.p.bd, hW.r.p.kn⟩, hW.r.h, ⟨by rw [htm]; rfl, fun t x hx hn => ?_⟩, rfl⟩, hW.ag, hW.nd, hW.nv, hW.nh, hW.size⟩
            rw [htm] at hx
            cases t with
            | zero => simp at hx; subst hx; rfl
            | succ t => simp at hx
          obtain ⟨e1, ρJ, hdJ, hWJ⟩ := j2 ρ0 _ w' w hd0 ⟨hP.nd, hP.bd, hP.kn⟩ hW'
          simp only at h2
          split at h2
          · rename_i v hv
            split at h2
            · simp [T.eval] at h2
            · rename_i hvu
              simp only [T.eval, Option.some.injEq, Prod.mk.injEq] at h2
              obtain ⟨⟨rfl, rfl⟩, rfl⟩ := h2
              simp only [Bool.not_eq_true] at hvu
              have hval : sv0.den ρ0 = v.den ρJ := by
                have := hWJ.r.tm.at_ 0 v (by rw [hv]; rfl) hvu
                simpa using this
              have hag : Ag st.nd st.nv st.nh ρ ρJ := hWJ.ag
              exact ⟨ρJ, by rw [he, hval], hvu, hdJ, hag, ⟨hWJ.r.p.nd, hWJ.r.p.bd, hWJ.r.p.kn⟩, hWJ.r.h, rfl, hWJ.nd, hWJ.nv, hWJ.nh, Ag.keep S hag, hWJ.size⟩
          · simp [T.eval] at h2
      · simp [T.eval] at h
theorem startP_ok {w : World} {G : Nat → Prop} : ∀ {ps : List PK} {vs : List Value} {ds : List D} {pb : List Nat} (d v h : Nat), Args w G ps vs ds pb → ds.length = lenP ps ∧ ∃ us : List Value, us.length = slP ps ∧ ∀ ρ : Env, (∀ i x, ds[i]? = some x → ρ.ds.getD (d + i) (.i 0) = x) → (∀ j u, us[j]? = some u → ρ.vs (v + j) = u) → (∀ j b, pb[j]? = some b → ρ.β (h + j) = b) →
    SV.dens ρ (startP ps d v h).1 = vs ∧ (∀ x ∈ (startP ps d v h).1, x.isUnd = false) ∧ (∀ en ∈ (startP ps d v h).2.1, RepC (rdW w) G (.sl en.cs) (ρ.vs en.i) (en.x.den ρ.ds)) ∧ (startP ps d v h).2.2.length = pb.length ∧
    ∀ (j : Nat) (blk : Blk), (startP ps d v h).2.2[j]? = some blk → ∃ (c : List SV) (b : Nat), blk = Blk.fix c true ∧ pb[j]? = some b ∧ (∀ (o : Nat) (x : SV), c[o]? = some x → w.cell? ⟨b, o, none⟩ = some (x.den ρ)) ∧ (∀ o, w.frozen? ⟨b, o, none⟩ = false) ∧ b < w.heap.size
  | [], [], [], [], d, v, h, _ => ⟨rfl, [], rfl, fun ρ _ _ _ => ⟨rfl, (fun x hx => by simp [startP] at hx), (fun en he => by simp [startP] at he), rfl, fun j blk hj => by simp [startP] at hj⟩⟩
  | .val agg cs :: ps, u :: vs, ds, pb, d, v, h, k => by
    obtain ⟨cells, d1, d2, rfl, h1, h2, h3⟩ := k
    have hl := h2.len
    obtain ⟨us1, l1, k1⟩ := freshC_ok d v h2
    obtain ⟨hd2, us2, l2, k2⟩ := startP_ok (d + cs.length) (v + slN cs) h h3
    refine ⟨?_, us1 ++ us2, ?_, fun ρ hd hv hb => ?_⟩
    · have : lenP (.val agg cs :: ps) = cs.length + lenP ps := rfl
      rw [List.length_append, hl.2, hd2, this]
    · have : slP (.val agg cs :: ps) = slN cs + slP ps := rfl
      rw [List.length_append, l1, l2, this]
    · obtain ⟨e1, e2⟩ := split_get hd
      obtain ⟨f1, f2⟩ := split_vs hv
      obtain ⟨a1, a2, a3⟩ := k1 ρ e1 f1
      obtain ⟨b1, b2, b3, b4, b5⟩ := k2 ρ (by rwa [hl.2] at e2) (by rwa [l1] at f2) hb
      refine ⟨by simp only [startP, SV.dens, freshV h1 a1, b1], fun x hx => ?_, fun en he => ?_, b4, b5⟩
      · simp only [startP, List.mem_cons] at hx
        rcases hx with rfl | hx
        · exact freshU h1 a1 a2
        · exact b2 x hx
      · simp only [startP, List.mem_append] at he
        exact he.elim (a3 en) (b3 en)
  | .ptr cs :: ps, u :: vs, ds, b :: pb, d, v, h, k => by
    obtain ⟨d1, d2, rfl, rfl, hlt, hfr, hrep, h3⟩ := k
    obtain ⟨vals, q1, q2⟩ := RepR.cs hrep
    have hl := q1.len
    obtain ⟨us1, l1, k1⟩ := freshC_ok d v q1
    obtain ⟨hd2, us2, l2, k2⟩ := startP_ok (d + cs.length) (v + slN cs) (h + 1) h3
    refine ⟨?_, us1 ++ us2, ?_, fun ρ hd hv hb => ?_⟩
    · have : lenP (.ptr cs :: ps) = cs.length + lenP ps := rfl
      rw [List.length_append, hl.2, hd2, this]
    · have : slP (.ptr cs :: ps) = slN cs + slP ps := rfl
      rw [List.length_append, l1, l2, this]
    · obtain ⟨e1, e2⟩ := split_get hd
      obtain ⟨f1, f2⟩ := split_vs hv
      obtain ⟨a1, a2, a3⟩ := k1 ρ e1 f1
      obtain ⟨b1, b2, b3, b4, b5⟩ := k2 ρ (by rwa [hl.2] at e2) (by rwa [l1] at f2) (fun j c hj => by have := hb (j + 1) c (by simpa using hj); rwa [show h + (j + 1) = h + 1 + j by omega] at this)
      have hβ : ρ.β h = b := hb 0 b rfl
      refine ⟨by simp only [startP, SV.dens, SV.den, hβ, b1], fun x hx => ?_, fun en he => ?_, by simp only [startP, List.length_cons, b4], fun j blk hj => ?_⟩
      · simp only [startP, List.mem_cons] at hx
        rcases hx with rfl | hx
        · rfl
        · exact b2 x hx
      · simp only [startP, List.mem_append] at he
        exact he.elim (a3 en) (b3 en)
      · cases j with
        | zero =>
          simp only [startP, List.getElem?_cons_zero, Option.some.injEq] at hj
          subst hj
          refine ⟨_, b, rfl, rfl, fun o x hx => ?_, hfr, hlt⟩
          have := q2 o (x.den ρ) (by rw [← a1, dens_get, hx]; rfl)
          rwa [Nat.zero_add] at this
        | succ j =>
          simp only [startP, List.getElem?_cons_succ] at hj
          exact b5 j blk hj
  | [], _ :: _, _, _, _, _, _, h => by cases h
  | [], [], _ :: _, _, _, _, _, h => by cases h
  | [], [], [], _ :: _, _, _, _, h => by cases h
  | .val _ _ :: _, [], _, _, _, _, _, h => by cases h
  | .ptr _ :: _, [], _, _, _, _, _, h => by cases h
  | .ptr _ :: _, _ :: _, _, [], _, _, _, h => by cases h
theorem outRs_ok {ρ : Env} {st : St} {w : World} (hH : HRel F ρ st.hp st.sl w) {G : Nat → Prop} (hG : ∀ b, Gd F ρ st.hp w b → G b) (hO : ∀ j cs x h b, st.hp[j]? = some (Blk.rows cs x h) → blkAt ρ st.hp j = some b → G b) : ∀ {rs : List RK} {xs : List SV} {a : List X}, outRs st rs xs = some a → Ress w G rs (SV.dens ρ xs) (X.dens ρ.ds a) ∧ xs.length = rs.length
  | [], [], a, h => by simp only [outRs, Option.some.injEq] at h; subst h; exact ⟨trivial, rfl⟩
  | [], _ :: _, _, h => by cases h
  | _ :: _, [], _, h => by cases h
  | .val agg cs :: rs, x :: xs, a, h => by
    simp only [outRs] at h
    split at h
    · rename_i b l hb hl
      injection h with h
      subst h
      obtain ⟨k1, k2⟩ := outRs_ok hH hG hO hl
      have happ : X.dens ρ.ds (b ++ l) = X.dens ρ.ds b ++ X.dens ρ.ds l := by simp [xdens_eq]
      refine ⟨?_, by simp [k2]⟩
      cases agg with
      | true =>
        cases x <;> simp only [outR] at hb <;> try cases hb
        obtain ⟨q1, q2⟩ := argXs_okG hH hG (fun _ => hO) hb
        exact ⟨_, _, _, happ, by simp [cellsV, SV.den], q1, k1⟩
      | false =>
        simp only [outR] at hb
        obtain ⟨q1, q2⟩ := argXs_okG hH hG (fun _ => hO) hb
        exact ⟨_, _, _, happ, by simp [cellsV, SV.dens], q1, k1⟩
    · cases h
theorem outP_ok {ρ : Env} {st : St} {w : World} (hH : HRel F ρ st.hp st.sl w) {G : Nat → Prop} (hG : ∀ b, Gd F ρ st.hp w b → G b) (hO : ∀ j cs x h b, st.hp[j]? = some (Blk.rows cs x h) → blkAt ρ st.hp j = some b → G b) : ∀ {ps : List PK} {vs : List Value} {ds : List D} {pb : List Nat} {h : Nat} {a : List X} {w0 : World} {G0 : Nat → Prop}, Args w0 G0 ps vs ds pb → (∀ j b, pb[j]? = some b → ρ.β (h + j) = b) → outP st ps h = some a → Outs w G ps (X.dens ρ.ds a) pb ∧ ∀ j b, pb[j]? = some b → blkAt ρ st.hp (h + j) = some b ∧ ∃ c, st.hp[h + j]? = some (.fix c true)
  | [], [], [], [], h, a, w0, G0, _, _, ha => by simp only [outP, Option.some.injEq] at ha; subst ha; exact ⟨trivial, fun j b hj => by simp at hj⟩
  | .val agg cs :: ps, u :: vs, ds, pb, h, a, w0, G0, k, hb, ha => by
    obtain ⟨cells, d1, d2, rfl, h1, h2, h3⟩ := k
    simp only [outP] at ha
    show Outs w G ps _ _ ∧ _
    exact outP_ok hH hG hO (ps := ps) h3 hb ha
  | .ptr cs :: ps, u :: vs, ds, b :: pb, h, a, w0, G0, k, hb, ha => by
    obtain ⟨d1, d2, rfl, rfl, hlt, hfr, hrep, h3⟩ := k
    simp only [outP] at ha
    split at ha
    · rename_i c hc
      split at ha
      · rename_i x l hx hl
        injection ha with ha
        subst ha
        obtain ⟨k1, k2⟩ := outP_ok hH hG hO h3 (h := h + 1) (fun j c hj => by have := hb (j + 1) c (by simpa using hj); rwa [show h + (j + 1) = h + 1 + j by omega] at this) hl
        have hβ : ρ.β h = b := hb 0 b rfl
        obtain ⟨q1, q2⟩ := argXs_okG hH hG (fun _ => hO) hx
        refine ⟨⟨_, _, by simp [xdens_eq], fun o => by rw [← hβ]; exact hH.frz h c hc o, RepR.of_cs q1 fun o v hv => ?_, k1⟩, fun j b' hj => ?_⟩
        · rw [dens_get, Option.map_eq_some_iff] at hv
          obtain ⟨y, hy, rfl⟩ := hv
          rw [Nat.zero_add, ← hβ]
          exact hH.fix h c true hc o y hy (q2 y (List.mem_of_getElem? hy))
        · cases j with
          | zero => simp at hj; subst hj; rw [Nat.add_zero, blkAt_fix hc, hβ]; exact ⟨rfl, c, hc⟩
          | succ j => simp at hj; have := k2 j b' hj; rwa [show h + 1 + j = h + (j + 1) by omega] at this
      · cases ha
    · cases ha
  | [], _ :: _, _, _, _, _, _, _, h, _, _ => by cases h
  | [], [], _ :: _, _, _, _, _, _, h, _, _ => by cases h
  | [], [], [], _ :: _, _, _, _, _, h, _, _ => by cases h
  | .val _ _ :: _, [], _, _, _, _, _, _, h, _, _ => by cases h
  | .ptr _ :: _, [], _, _, _, _, _, _, h, _, _ => by cases h
  | .ptr _ :: _, _ :: _, _, [], _, _, _, _, h, _, _ => by cases h
theorem resV {rs : List RK} {v : SV} {ρ : Env} (h : (resL rs v).length = rs.length) : v.den ρ = oneV (SV.dens ρ (resL rs v)) := by
  unfold resL at h ⊢
  split
  · simp [SV.dens, oneV]
  · rename_i l hne
    simp only at h
    have hl : l.length ≠ 1 := fun e => by
      rw [e] at h
      match rs, h with
      | [r], _ => exact hne r rfl
    match l, hl with
    | [], _ => simp [SV.den, oneV, SV.dens]
    | [x], hl => exact absurd rfl hl
    | x :: y :: l, _ => simp [SV.den, oneV, SV.dens]
  · rename_i hne _
    simp only at h
    match rs, h with
    | [r], _ => exact absurd rfl (hne r)
/-- A function of a program, by its tree: wherever the tree gives something, the function does. -/
theorem run_ok {cons : List Con} (hM : ∀ k ∈ cons, ConOk P k (M k.f)) (hdr : ∀ N call, CallerOk P M N call → DrawOk P M N call) {cuts : Cuts} {k : Con} {t : T (List X)} (ht : runS P cons cuts k = t) {m : List D → Option (List D)}
    (h : ∀ ds outs, ds.length = lenP k.ps → m ds = some outs → BdOk ds k.bd ∧ ∃ N xs ds', t.eval M N ds = some (xs, ds') ∧ X.dens ds' xs = outs) : ConOk P k m := by
  intro w G args ds pb outs hGl hnd hargs hm hglob
  obtain ⟨hlen, us, lu, hs⟩ := startP_ok 0 0 0 hargs
  obtain ⟨hbd, N, xs, ds', hev, hout⟩ := h ds outs hlen hm
  subst ht
  unfold runS at hev
  split at hev
  · rename_i fn hfn
    simp only at hev
    obtain ⟨⟨k1, st1⟩, d1, h1, h2⟩ := bind_some hev
    let ρ0 : Env := ⟨ds, fun i => us.getD i undef, fun i => pb.getD i 0⟩
    obtain ⟨s1, s2, s3, s4, s5⟩ := hs ρ0 (fun i x hx => by show ds.getD (0 + i) _ = x; rw [Nat.zero_add, List.getD_eq_getElem?_getD, hx]; rfl) (fun j u hj => by show us.getD (0 + j) _ = u; rw [Nat.zero_add, List.getD_eq_getElem?_getD, hj]; rfl) (fun j b hj => by show pb.getD (0 + j) _ = b; rw [Nat.zero_add, List.getD_eq_getElem?_getD, hj]; rfl)
    have hβ : ∀ (j b : Nat), pb[j]? = some b → ρ0.β j = b := fun j b hj => by show pb.getD j _ = b; rw [List.getD_eq_getElem?_getD, hj]; rfl
    have FO : Fr.Ok ⟨w, pb, [], G, hglob⟩ := ⟨fun b g => hGl b g, fun b hb => by
      obtain ⟨j, hj, rfl⟩ := List.getElem_of_mem hb
      obtain ⟨c, b', _, q2, _, _, q5⟩ := s5 j _ (List.getElem?_eq_getElem (by rw [s4]; exact hj))
      rw [List.getElem?_eq_getElem hj] at q2
      injection q2 with q2
      subst q2
      exact q5⟩
    have at0 : ∀ j b, blkAt ρ0 (startP k.ps 0 0 0).2.2 j = some b → pb[j]? = some b := by
      intro j b hj
      unfold blkAt at hj
      split at hj
      · rename_i blk hblk
        obtain ⟨c, b', rfl, q2, _⟩ := s5 j blk hblk
        simp only [blkOf, hβ j b' q2, Option.some.injEq] at hj
        rw [← hj]; exact q2
      · cases hj
    have bl : ∀ b, b ∈ pb → b < w.heap.size := FO.pl
    have hH0 : HRel ⟨w, pb, [], G, hglob⟩ ρ0 (startP k.ps 0 0 0).2.2 (startP k.ps 0 0 0).2.1 w := by
      refine HRel.mk' (Io.refl _) (Nat.le_refl _) (fun _ _ _ => rfl) (fun j b hj => ?_) (fun j cs x hh b h1 h2 => by obtain ⟨c, b', q, _⟩ := s5 j _ h1; cases q) (fun i j b hi hj => ?_) (fun j blk hblk => ?_) fun e he => ?_
      · have := List.mem_of_getElem? (at0 j b hj)
        exact ⟨bl b this, .inr this⟩
      · have h1 := at0 i b hi
        have h2 := at0 j b hj
        have l1 := lt_of_get h1
        have l2 := lt_of_get h2
        rw [List.getElem?_eq_getElem l1] at h1
        rw [List.getElem?_eq_getElem l2] at h2
        injection h1 with h1
        injection h2 with h2
        rcases Nat.lt_trichotomy i j with q | q | q
        · exact absurd (h1.trans h2.symm) (List.pairwise_iff_getElem.1 hnd i j l1 l2 q)
        · exact q
        · exact absurd (h2.trans h1.symm) (List.pairwise_iff_getElem.1 hnd j i l2 l1 q)
      · obtain ⟨c, b, rfl, q2, q3, q4, q5⟩ := s5 j blk hblk
        have e := hβ j b q2
        refine ⟨fun o x hx _ => by rw [e]; exact q3 o x hx, fun o ho => by rw [e, q3 o _ (List.getElem?_eq_getElem ho)]; rfl, fun _ o => by rw [e]; exact q4 o⟩
      · refine RepC.mono (fun b g => ⟨⟨.inl g, (hGl b g).1, fun j hj => ?_⟩, fun _ => rfl⟩) (s3 e he)
        exact (hGl b g).2 (List.mem_of_getElem? (at0 j b hj))
    have hP0 : PRel ρ0.ds ⟨[], (startP k.ps 0 0 0).2.2, lenP k.ps, slP k.ps, k.bd, [], (startP k.ps 0 0 0).2.1⟩ := ⟨hlen, hbd, fun p hp => by cases hp⟩
    have hC : CallerOk P M N (callS P cons cuts 40) := caller_ok hM (hdr N) cuts 40
    have hB := body_ok hC (hdr N _ hC) FO hfn s2 hP0 hH0 h1
    rw [s1] at hB
    refine hB.mono fun e w' ⟨_, sv, ρ', a', htm, he, hsu, hd, hW⟩ => ?_
    subst hd
    simp only [htm] at h2
    split at h2
    · rename_i a b ha hb
      simp only [T.eval, Option.some.injEq, Prod.mk.injEq] at h2
      obtain ⟨rfl, rfl⟩ := h2
      have hH := hW.r.h
      have hb' : ∀ (j b : Nat), pb[j]? = some b → ρ'.β (0 + j) = b := fun j b hj => by
        have hj' : j < (startP k.ps 0 0 0).2.2.length := by rw [s4]; exact lt_of_get hj
        rw [Nat.zero_add, hW.ag.β j hj', hβ j b hj]
      have pbl := (outP_ok (st := st1) hH (G := fun _ => True) (fun _ _ => trivial) (fun _ _ _ _ _ _ _ => trivial) hargs hb' hb).2
      have hG : ∀ b, Gd ⟨w, pb, [], G, hglob⟩ ρ' st1.hp w' b → Back w G pb w' b := fun b g => ⟨g.1.imp id (fun q => q.resolve_right (by simp)), g.2.1, fun hm => by
        obtain ⟨j, hj, rfl⟩ := List.getElem_of_mem hm
        exact g.2.2 _ (pbl j _ (List.getElem?_eq_getElem hj)).1⟩
      have hO : ∀ j cs x h b, st1.hp[j]? = some (Blk.rows cs x h) → blkAt ρ' st1.hp j = some b → Back w G pb w' b := fun j cs x hh b hj hbl => by
        have hnp : b ∉ pb := fun hm => by
          obtain ⟨i, hi, rfl⟩ := List.getElem_of_mem hm
          obtain ⟨q1, c, q2⟩ := pbl i _ (List.getElem?_eq_getElem hi)
          have := hH.inj j (0 + i) _ hbl q1
          rw [this, q2] at hj
          cases hj
        obtain ⟨q1, q2⟩ := hH.lo j b hbl
        exact ⟨.inr ((q2.resolve_right hnp).resolve_right (by simp)), q1, hnp⟩
      obtain ⟨r1, r2⟩ := outRs_ok (st := st1) hH hG hO ha
      obtain ⟨r3, _⟩ := outP_ok (st := st1) hH hG hO hargs hb' hb
      refine ⟨⟨_, _, _, ?_, ?_, r1, r3⟩, hW.size, fun b h1 h2 => hH.keep b (fun q => q.elim (fun q => absurd h1 (Nat.not_lt.2 q)) (by simp)) h2, hH.io⟩
      · rw [← hout]; simp [xdens_eq]
      · rw [he]
        rw [resV r2]
    · simp [T.eval] at h2
  · simp [T.eval] at hev
end
end Fx
end Go.Proofs.Ytlhnhidoljfnnaa
