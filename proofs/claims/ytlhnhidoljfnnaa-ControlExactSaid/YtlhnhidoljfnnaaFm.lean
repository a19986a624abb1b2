/- XFd is sound: code. -/
import Derived.Test.YtlhnhidoljfnnaaFl
set_option linter.unusedVariables false
set_option linter.unusedSimpArgs false
namespace Go.Proofs.Ytlhnhidoljfnnaa
open Go.RowKit
namespace Fx
def Ex.to : Ex → Exit
  | .normal => .normal
  | .exit id => .exit id
  | .ret => .ret
theorem fitS_len {base J leaf : St} {d : Nat} {xs : List X} {hs : List (Nat × Src)} (h : fitS base J leaf d = some (xs, hs)) : xs.length = J.nd - d ∧ base.nd ≤ d ∧ d ≤ J.nd := by
  unfold fitS at h
  split at h
  · cases h
  rename_i hc0
  simp only [Bool.not_eq_true', Bool.not_eq_false, Bool.and_eq_true, beq_iff_eq, decide_eq_true_eq] at hc0
  obtain ⟨⟨⟨⟨⟨⟨g1, g2⟩, g3⟩, g4⟩, g5⟩, g6⟩, g7⟩ := hc0
  split at h
  · split at h
    · split at h
      · simp only at h
        split at h
        · simp only [Option.some.injEq, Prod.mk.injEq] at h
          obtain ⟨rfl, rfl⟩ := h
          exact ⟨by simp, g4, g5⟩
        · cases h
      · cases h
    · cases h
  · cases h
section
variable {M : Models} {N : Nat} {P : Program} {F : Fr}
theorem chainE_ok {d : Nat} {ds : List D} : ∀ {js : List (Ex × St)} {i q : Nat} {r : Ex × St}, js[q]? = some r → (js.length = 1 ∨ (ds.getD d (.i 0)).int = i + q) → (chainE d i js).eval M N ds = some (r, ds)
  | [], i, q, r, h, _ => by simp at h
  | [x], i, q, r, h, _ => by
    have := lt_of_get h
    simp at this
    subst this
    simp at h
    subst h
    rfl
  | x :: y :: l, i, q, r, h, ht => by
    have ht : (ds.getD d (.i 0)).int = i + q := ht.resolve_left (by simp)
    have e : ((X.eq (.V d) (.N (i : Int))).den ds).boo = decide ((ds.getD d (.i 0)).int = (i : Int)) := rfl
    cases q with
    | zero =>
      simp at h
      subst h
      rw [chainE, T.eval, if_pos (by rw [e]; exact decide_eq_true (by simpa using ht)), T.eval]
      exact fun h => by cases h
    | succ q =>
      rw [chainE, T.eval, if_neg (by rw [e, decide_eq_true_eq, ht]; omega)]
      · exact chainE_ok (by simpa using h) (.inr (by rw [ht]; omega))
      · exact fun h => by cases h
theorem mergeS_kn (wide : Option Bool) (live : Nat) (base : St) (d : Nat) (sts : List St) : (mergeS wide live base d sts).kn = base.kn := rfl
theorem meetS_ok {wide : Option Bool} {live : Nat} {base : St} {ls : List (Ex × St)} : (∀ p ∈ (meetS wide live base ls).1, p.2.kn = base.kn) ∧ (((meetS wide live base ls).2 = base.nd ∧ (meetS wide live base ls).1.length = 1) ∨ (meetS wide live base ls).2 = base.nd + 1) := by
  unfold meetS
  simp only
  constructor
  · intro p hp
    simp only [List.map_map, List.mem_map] at hp
    obtain ⟨k, _, rfl⟩ := hp
    rfl
  · by_cases h : (kindsOf ls).length = 1
    · simp [h]
    · simp [h]
/-- a state that is left, where states meet -/
theorem closeS_ok {base : St} {js : List (Ex × St)} {d : Nat} {l : Ex × St} {xs : List X} {ρ ρ1 : Env} {a : Act} {w w1 : World} (hkn : ∀ p ∈ js, p.2.kn = base.kn) (hd : (d = base.nd ∧ js.length = 1) ∨ d = base.nd + 1) (pb : PRel ρ.ds base) (h : closeS base js d l = some xs)
    (hW : Went F (base.nd, base.nv, base.nh) ρ ρ1 l.2 a w1 w) : ∃ J, (chainE base.nd 0 js).eval M N (ρ.ds ++ X.dens ρ1.ds xs) = some ((l.1, J), ρ.ds ++ X.dens ρ1.ds xs) ∧ ∃ ρJ, ρJ.ds = ρ.ds ++ X.dens ρ1.ds xs ∧ Went F (base.nd, base.nv, base.nh) ρ ρJ J a w1 w := by
  unfold closeS at h
  split at h
  · rename_i j hj
    split at h
    · rename_i hc
      simp only [Bool.and_eq_true, decide_eq_true_eq] at hc
      obtain ⟨⟨⟨s1, s2⟩, s3⟩, s4⟩ := hc
      have Sb := scoped_iff s1
      have S0 := freeze_ok (is := mixH base j.2 l.2) hW.r.p hW.r.h
      have hW' : Went F (base.nd, base.nv, base.nh) ρ ρ1 (l.2.freeze (mixH base j.2 l.2)) a w1 w := ⟨⟨S0.p, S0.h, by rw [S0.tm]; exact hW.r.tm, hW.r.df⟩, hW.ag, Nat.le_trans hW.nd S0.nd, Nat.le_trans hW.nv S0.nv, Nat.le_trans hW.nh S0.nh, hW.size⟩
      split at h
      · rename_i ys hs hf
        obtain ⟨l1, l2, l3⟩ := fitS_len hf
        injection h with h
        have hr : ρ.ds.length = base.nd := pb.nd
        refine ⟨j.2, ?_, ?_⟩
        · have : (l.1, j.2) = j := by rw [← s4]
          rw [this]
          refine chainE_ok hj ?_
          rcases hd with ⟨hd, hl⟩ | hd
          · exact .inl hl
          · rw [if_neg (by omega)] at h
            subst h
            right
            rw [List.getD_eq_getElem?_getD, List.getElem?_append_right (by omega), hr, Nat.sub_self]
            simp [X.dens, X.den, D.int]
        · rcases hd with ⟨hd, hl⟩ | hd
          · rw [if_pos hd] at h
            subst h
            refine (fitS_ok Sb pb (hkn j (List.mem_of_getElem? hj)) hW' hf ?_ ?_ fun i hi => ?_).2
            · rw [List.length_append, xdens_eq, List.length_map, hr]; omega
            · rw [← hr]; exact AgD.app _ _
            · rw [List.getD_eq_getElem?_getD, List.getElem?_append_right (by omega), show d + i - ρ.ds.length = i by omega, xdens_eq, List.getElem?_map, List.getElem?_eq_getElem hi]
              simp [List.getD_eq_getElem?_getD, List.getElem?_eq_getElem hi]
          · rw [if_neg (by omega)] at h
            subst h
            refine (fitS_ok Sb pb (hkn j (List.mem_of_getElem? hj)) hW' hf ?_ ?_ fun i hi => ?_).2
            · rw [List.length_append, xdens_eq, List.length_map, hr, List.length_cons]; omega
            · rw [← hr]; exact AgD.app _ _
            · rw [List.getD_eq_getElem?_getD, List.getElem?_append_right (by omega), show d + i - ρ.ds.length = i + 1 by omega, xdens_eq, List.map_cons, List.getElem?_cons_succ, List.getElem?_map, List.getElem?_eq_getElem hi]
              simp [List.getD_eq_getElem?_getD, List.getElem?_eq_getElem hi]
      · cases h
    · cases h
  · cases h
theorem joinS_ok {live : Nat} {base : St} {t : T (Ex × St)} {ρ : Env} {k : Ex} {J : St} {ds' : List D} (h : (joinS live base t).eval M N ρ.ds = some ((k, J), ds')) :
    ∃ k1 leaf ds1, t.eval M N ρ.ds = some ((k1, leaf), ds1) ∧ ∀ (ρ1 : Env) (a : Act) (w w1 : World), ρ1.ds = ds1 → PRel ρ.ds base → Went F (base.nd, base.nv, base.nh) ρ ρ1 leaf a w1 w → k1 = k ∧ ∃ ρJ : Env, ρJ.ds = ds' ∧ Went F (base.nd, base.nv, base.nh) ρ ρJ J a w1 w := by
  unfold joinS at h
  simp only at h
  split at h
  · exact ⟨k, J, ds', h, fun ρ1 a w w1 hd _ hW => ⟨rfl, ρ1, hd, hW⟩⟩
  · simp only [T.eval] at h
    split at h
    · rename_i xs d1 hx
      split at h
      · obtain ⟨⟨k1, leaf⟩, d2, h1, h2⟩ := bind_some hx
        split at h2
        · rename_i ys hy
          simp only [T.eval, Option.some.injEq, Prod.mk.injEq] at h2
          obtain ⟨rfl, rfl⟩ := h2
          obtain ⟨m1, m2⟩ := meetS_ok (wide := none) (live := live) (base := base) (ls := t.leaves)
          refine ⟨k1, leaf, d2, h1, fun ρ1 a w w1 hd pb hW => ?_⟩
          subst hd
          obtain ⟨J', c1, ρJ, c2, c3⟩ := closeS_ok (M := M) (N := N) m1 m2 pb hy hW
          rw [c1] at h
          simp only [Option.some.injEq, Prod.mk.injEq] at h
          obtain ⟨⟨rfl, rfl⟩, rfl⟩ := h
          exact ⟨rfl, ρJ, c2, c3⟩
        · simp [T.eval] at h2
      · cases h
    · cases h
theorem headS_kn {live : Nat} {base : St} {body : St → T (Ex × St)} : ∀ {n : Nat} {sts : List St}, (headS live base body n sts).kn = base.kn
  | 0, _ => rfl
  | n + 1, sts => by
    simp only [headS]
    have e : (mergeS (if n = 0 then some false else some true) live base base.nd sts).kn = base.kn := rfl
    generalize mergeS (if n = 0 then some false else some true) live base base.nd sts = J at e
    split
    · exact e
    · exact headS_kn
theorem headA_kn {live : Nat} {base : St} {body : St → T (Ex × St)} : (headA live base body).kn = base.kn := by
  simp only [headA]
  split <;> rfl
abbrev CPost (F : Fr) (ρ : Env) (st : St) (k : Ex) (st' : St) (ds' : List D) (w : World) : Exit → Act → World → Prop := fun e a' w' => e = k.to ∧ ∃ ρ' : Env, ρ'.ds = ds' ∧ Went F (st.nd, st.nv, st.nh) ρ ρ' st' a' w w'
theorem then_mono {N N' : Act → World → Prop} {Q Q' : Exit → Act → World → Prop} (hn : ∀ a w, N a w → N' a w) (hq : ∀ e a w, Q e a w → Q' e a w) {e : Exit} {a : Act} {w : World} (h : Exit.then N Q e a w) : Exit.then N' Q' e a w := by
  cases e <;> first | exact hn _ _ h | exact hq _ _ _ h
theorem rounds_mono {c : Code} {Q Q' : Exit → Act → World → Prop} (hq : ∀ e a w, Q e a w → Q' e a w) : ∀ {n : Nat} {a : Act} {w : World}, Code.rounds P c Q n a w → Code.rounds P c Q' n a w
  | 0, _, _, h => h.elim
  | _ + 1, _, _, h => wp_mono h fun _ _ _ k => then_mono (fun _ _ q => rounds_mono hq q) hq k
/-- what is asked of regions that draw their order -/
def DrawOk (P : Program) (M : Models) (N : Nat) (call : Caller) : Prop := ∀ {F : Fr}, F.Ok → ∀ (id : Nat) (ops : Array Oper) (ρ : Env) (st st' : St) (ds' : List D) (a : Act) (w : World), Region.noSelect ops = true → st.scoped = true → backOk ops = true → SRel F ρ st a w → (regW P call ops st).eval M N ρ.ds = some (st', ds') →
  (Code.region id ops true).wp P (CPost F ρ st .normal st' ds' w) a w
theorem ex_then {k : Ex} {ρ ρ1 : Env} {st st1 st' : St} {ds' : List D} {a : Act} {w w1 : World} {N : Act → World → Prop} (hk : k ≠ .normal) (hd : ρ1.ds = ds') (hW : Went F (st.nd, st.nv, st.nh) ρ ρ1 st' a w w1) : Exit.then N (CPost F ρ st k st' ds' w) k.to a w1 := by
  have q : CPost F ρ st k st' ds' w k.to a w1 := ⟨rfl, ρ1, hd, hW⟩
  cases k with
  | normal => exact absurd rfl hk
  | exit id => exact q
  | ret => exact q
/-- a new row of no cells, for a slice that is empty -/
theorem adopt_row {F : Fr} {ρ : Env} {st : St} {a : Act} {w : World} (hR : SRel F ρ st a w) (hs : Scp st) (cs : List CT) :
    ∃ ρ1 : Env, ρ1.ds = ρ.ds ∧ ρ1.vs st.nv = .slice none 0 0 ∧ Ag st.nd st.nv st.nh ρ ρ1 ∧ HRel F ρ1 (st.hp ++ [Blk.rows cs (X.rows []) st.nv]) st.sl w := by
  have ag : Ag st.nd st.nv st.nh ρ { ρ with vs := fun i => if i = st.nv then .slice none 0 0 else ρ.vs i } := ⟨AgD.refl _ _, fun i hi => if_neg (by omega), fun _ _ => rfl⟩
  refine ⟨{ ρ with vs := fun i => if i = st.nv then .slice none 0 0 else ρ.vs i }, rfl, if_pos rfl, ag, HRel.pushG hR.h hs.hp hs.sl ag (Nat.le_refl _) (fun _ _ => rfl) (Io.refl _) (fun b hb => ?_) (.inl ⟨none, if_pos rfl, by simp [X.den, X.denss, D.rows]⟩)⟩
  simp [roomAt] at hb
def Adopts (F : Fr) (st st1 : St) : Prop := ∀ (ρ : Env) (a : Act) (w : World), SRel F ρ st a w → ∃ ρ1 : Env, ρ1.ds = ρ.ds ∧ Went F (st.nd, st.nv, st.nh) ρ ρ1 st1 a w w
theorem adopt_none {F : Fr} {st : St} : Adopts F st st := fun ρ a w hR => ⟨ρ, rfl, .refl hR⟩
theorem adopt_two {F : Fr} {s1 s2 s3 : St} (h : Adopts F s1 s2) (k : Adopts F s2 s3) : Adopts F s1 s3 := fun ρ a w hR => by
  obtain ⟨ρ1, d1, W1⟩ := h _ _ _ hR
  obtain ⟨ρ2, d2, W2⟩ := k _ _ _ W1.r
  exact ⟨ρ2, by rw [d2, d1], W1.trans W2⟩
theorem adopt_slot {F : Fr} {st : St} {cs : List CT} {t : Nat} {x y : SV} (ht : st.tm[t]? = some x) (hx : x.isUnd = false) (hs : Scp st) (hy : ∀ ρ ρ1 : Env, Ag st.nd st.nv st.nh ρ ρ1 → ρ1.vs st.nv = .slice none 0 0 → y.den ρ1 = x.den ρ) :
    Adopts F st { st with tm := st.tm.set t y, hp := st.hp ++ [Blk.rows cs (X.rows []) st.nv], nv := st.nv + 1 } := fun ρ a w hR => by
  obtain ⟨ρ1, h1, h2, ag, h3⟩ := adopt_row hR hs cs
  refine ⟨ρ1, h1, ⟨⟨by rw [h1]; exact ⟨hR.p.nd, hR.p.bd, hR.p.kn⟩, h3, ?_, hR.df⟩, ag, Nat.le_refl _, Nat.le_succ _, by simp [St.nh], Nat.le_refl _⟩⟩
  refine ⟨by rw [List.length_set]; exact hR.tm.size, fun t' z hz hu => ?_⟩
  by_cases e : t' = t
  · subst e
    rw [List.getElem?_set_self (lt_of_get ht)] at hz
    injection hz with hz
    subst hz
    rw [hR.tm.at_ t' x ht hx, hy ρ ρ1 ag h2]
  · rw [List.getElem?_set_ne (fun q => e q.symm)] at hz
    rw [hR.tm.at_ t' z hz hu, SV.den_ag ag (hs.tm z (List.mem_of_getElem? hz) hu)]
theorem adoptT_ok {F : Fr} {st : St} {cs : List CT} {t : Nat} : Adopts F st (adoptT cs t st) := by
  unfold adoptT
  split
  · rename_i ht
    split
    · rename_i hs
      exact adopt_slot ht rfl (scoped_iff hs) fun ρ ρ1 _ h => by simp only [SV.den, h]
    · exact adopt_none
  · exact adopt_none
theorem adoptG_ok {F : Fr} {st : St} {cs : List CT} {t o : Nat} : Adopts F st (adoptG cs t o st) := by
  unfold adoptG
  split
  · rename_i l ht
    split
    · rename_i ho
      split
      · rename_i hs
        have Sb := scoped_iff hs
        have hsc := Sb.tm _ (List.mem_of_getElem? ht) rfl
        refine adopt_slot ht rfl Sb fun ρ ρ1 ag h => ?_
        simp only [SV.sc] at hsc
        have e : SV.dens ρ1 (l.set o (.var st.nv)) = SV.dens ρ l := by
          rw [← SV.dens_ag ag hsc, dens_eq, dens_eq, List.map_set]
          refine List.ext_getElem? fun k => ?_
          by_cases ek : k = o
          · subst ek
            rw [List.getElem?_set_self (by rw [List.length_map]; exact lt_of_get ho), List.getElem?_map, ho]
            simp only [SV.den, h, Option.map_some]
          · rw [List.getElem?_set_ne (fun q => ek q.symm)]
        simp only [SV.den, e]
      · exact adopt_none
    · exact adopt_none
  · exact adopt_none
theorem adoptC_ok {F : Fr} {st : St} {cs : List CT} {j o : Nat} : Adopts F st (adoptC cs j o st) := by
  unfold adoptC
  split
  · rename_i cells wr hj
    split
    · rename_i ho
      split
      · rename_i hsc
        have hs := scoped_iff hsc
        intro ρ a w hR
        obtain ⟨ρ1, h1, h2, ag, h3⟩ := adopt_row hR hs cs
        have hj' : (st.hp ++ [Blk.rows cs (X.rows []) st.nv])[j]? = some (.fix cells wr) := by
          rw [List.getElem?_append_left (lt_of_get hj)]; exact hj
        obtain ⟨c1, c2, c3⟩ := h3.ok hj'
        refine ⟨ρ1, h1, ⟨⟨by rw [h1]; exact ⟨hR.p.nd, hR.p.bd, hR.p.kn⟩, ?_, hR.tm.of fun x hx hu => SV.den_ag ag (hs.tm x hx hu), hR.df⟩, ag, Nat.le_refl _, Nat.le_succ _, by simp [St.nh], Nat.le_refl _⟩⟩
        refine h3.chg (blkAt_fix hj') rfl (fun _ _ => rfl) (Io.refl _) rfl (fun _ _ _ e => by cases e) ⟨fun k y hy hu => ?_, fun k hk => c2 k (by simpa using hk), c3⟩
        by_cases e : k = o
        · subst e
          rw [List.getElem?_set_self (lt_of_get ho)] at hy
          injection hy with hy
          subst hy
          rw [c1 k _ ho rfl]
          simp only [SV.den, h2]
        · rw [List.getElem?_set_ne (fun q => e q.symm)] at hy
          exact c1 k y hy hu
      · exact adopt_none
    · exact adopt_none
  · exact adopt_none
theorem adopt_fold {F : Fr} {α : Type} {f : St → α → St} (h : ∀ s x, Adopts F s (f s x)) : ∀ (l : List α) (s : St), Adopts F s (l.foldl f s)
  | [], _ => adopt_none
  | x :: l, s => adopt_two (h s x) (adopt_fold h l (f s x))
theorem adoptL_ok {F : Fr} {st l : St} : Adopts F st (adoptL st l) := by
  have go : ∀ (f : List CT → St → St), (∀ cs s, Adopts F s (f cs s)) → ∀ (x : SV) (s : St), Adopts F s (match x with
      | .var i => match rowOf l.hp i with
        | some cs => f cs s
        | none => s
      | _ => s) := by
    intro f hf x s
    split
    · split
      · exact hf _ _
      · exact adopt_none
    · exact adopt_none
  unfold adoptL
  simp only
  refine adopt_two (adopt_fold (fun s p => ?_) _ _) (adopt_fold (fun s p => ?_) _ _)
  · split
    · exact adopt_fold (fun s q => go _ (fun cs s => adoptG_ok) _ _) _ _
    · exact go _ (fun cs s => adoptT_ok) _ _
  · split
    · exact adopt_fold (fun s q => go _ (fun cs s => adoptC_ok) _ _) _ _
    · exact adopt_none
theorem adoptS_ok {F : Fr} {st : St} {ls : List (Ex × St)} : Adopts F st (adoptS st ls) := adopt_fold (fun _ _ => adoptL_ok) _ _
theorem code_ok {call : Caller} (hc : CallerOk P M N call) (hdr : DrawOk P M N call) (FO : F.Ok) (cut : Cut) : ∀ (n : Nat),
    (∀ {live : Nat} {c : Code} {ρ : Env} {st st' : St} {k : Ex} {ds' : List D} {a : Act} {w : World}, SRel F ρ st a w → (codeS P call cut n live c st).eval M N ρ.ds = some ((k, st'), ds') → c.wp P (CPost F ρ st k st' ds' w) a w) ∧
    (cut = none → ∀ {live : Nat} {c : Code} {ρ : Env} {st st' : St} {k : Ex} {ds' : List D} {a : Act} {w : World}, SRel F ρ st a w → (codeS P call cut n live (.loop c) st).eval M N ρ.ds = some ((k, st'), ds') → Code.rounds P c (CPost F ρ st k st' ds' w) n a w)
  | 0 => ⟨fun {_ _ _ _ _ _ _ _ _} _ h => by simp [codeS, T.eval] at h, fun _ {_ _ _ _ _ _ _ _ _} _ h => by simp [codeS, T.eval] at h⟩
  | n + 1 => by
    obtain ⟨ih, ihl⟩ := code_ok hc hdr FO cut n
    have loop : cut = none → ∀ {live : Nat} {c : Code} {ρ : Env} {st st' : St} {k : Ex} {ds' : List D} {a : Act} {w : World}, SRel F ρ st a w → (codeS P call cut (n + 1) live (.loop c) st).eval M N ρ.ds = some ((k, st'), ds') → Code.rounds P c (CPost F ρ st k st' ds' w) (n + 1) a w := by
      intro hcut live c ρ st st' k ds' a w hR h
      subst hcut
      simp only [codeS] at h
      obtain ⟨⟨k1, J⟩, d1, h1, h2⟩ := bind_some h
      obtain ⟨k0, leaf, d0, j1, j2⟩ := joinS_ok (F := F) h1
      rw [rounds_succ]
      refine wp_mono (ih hR j1) fun e a' w' ⟨he, ρ0, hd0, hW⟩ => ?_
      obtain ⟨rfl, ρJ, hdJ, hWJ⟩ := j2 ρ0 a' w' w hd0 hR.p hW
      subst he hdJ
      simp only at h2
      split at h2
      · exact rounds_mono (fun e a'' w'' ⟨he2, ρ2, hd2, hW2⟩ => ⟨he2, ρ2, hd2, hWJ.trans hW2⟩) (ihl rfl hWJ.r h2)
      · rename_i hk
        simp only [T.eval, Option.some.injEq, Prod.mk.injEq] at h2
        obtain ⟨⟨rfl, rfl⟩, rfl⟩ := h2
        exact ex_then (st1 := J) (fun e => hk (by rw [e])) rfl hWJ
    refine ⟨fun {live c ρ st st' k ds' a w} hR h => ?_, loop⟩
    cases c with
    | loop c =>
      cases hcut : cut with
      | none => exact wp_loop_rounds (n + 1) (loop hcut hR h)
      | some hs =>
        subst hcut
        have main : ∀ {st0 J : St} {ρ0 : Env}, SRel F ρ0 st0 a w → J.kn = st0.kn → (loopS live st0 J (codeS P call (some hs) n (live ||| bitsC c) c J)).eval M N ρ0.ds = some ((k, st'), ds') → Code.wp P (.loop c) (CPost F ρ0 st0 k st' ds' w) a w := by
          intro st0 J ρ0 hR0 hkn h
          simp only [loopS] at h
          obtain ⟨m1, m2⟩ := meetS_ok (wide := none) (live := live) (base := st0) (ls := List.filter (fun p => !isNormal p) (codeS P call (some hs) n (live ||| bitsC c) c J).leaves)
          generalize hO : meetS none live st0 (List.filter (fun p => !isNormal p) (codeS P call (some hs) n (live ||| bitsC c) c J).leaves) = out at h m1 m2
          split at h
          · rename_i init hs0 hfit
            split at h
            · rename_i hsc
              simp only [Bool.and_eq_true] at hsc
              have Sb := scoped_iff hsc.1
              have hr : ρ0.ds.length = st0.nd := hR0.p.nd
              simp only [T.eval] at h
              split at h
              · rename_i lout hlout
                split at h
                · have fitJ : ∀ {leaf : St} {xs : List X} {hs : List (Nat × Src)} {ρ1 : Env} {a1 : Act} {w1 : World}, fitS st0 J leaf st0.nd = some (xs, hs) → Went F (st0.nd, st0.nv, st0.nh) ρ0 ρ1 leaf a1 w w1 → ∃ ρJ : Env, ρJ.ds = ρ0.ds ++ X.dens ρ1.ds xs ∧ Went F (st0.nd, st0.nv, st0.nh) ρ0 ρJ J a1 w w1 := by
                    intro leaf xs hs ρ1 a1 w1 hf hW
                    obtain ⟨l1, l2, l3⟩ := fitS_len hf
                    refine (fitS_ok Sb hR0.p hkn hW hf ?_ ?_ fun i hi => ?_).2
                    · rw [List.length_append, xdens_eq, List.length_map, hr]; omega
                    · rw [← hr]; exact AgD.app _ _
                    · rw [List.getD_eq_getElem?_getD, List.getElem?_append_right (by omega), show st0.nd + i - ρ0.ds.length = i by omega, xdens_eq, List.getElem?_map, List.getElem?_eq_getElem hi]
                      simp [List.getD_eq_getElem?_getD, List.getElem?_eq_getElem hi]
                  have rounds : ∀ (m : Nat) (l : List D), loopE (fun l => match ((codeS P call (some hs) n (live ||| bitsC c) c J).then (roundS st0 J out.1 out.2)).eval M N (ρ0.ds ++ l) with | some ((b, xs), ρ0') => some (b, X.dens ρ0' xs) | none => none) m l = some lout → ∀ (ρ1 : Env) (a1 : Act) (w1 : World), ρ1.ds = ρ0.ds ++ l → Went F (st0.nd, st0.nv, st0.nh) ρ0 ρ1 J a1 w w1 → Code.rounds P c (CPost F ρ0 st0 k st' ds' w) m a1 w1 := by
                    intro m
                    induction m with
                    | zero => intro l hl; simp [loopE] at hl
                    | succ m ihm =>
                      intro l hl ρ1 a1 w1 hd1 hW1
                      rw [rounds_succ]
                      simp only [loopE] at hl
                      rw [← hd1] at hl
                      cases hev : ((codeS P call (some hs) n (live ||| bitsC c) c J).then (roundS st0 J out.1 out.2)).eval M N ρ1.ds with
                      | none => rw [hev] at hl; simp at hl
                      | some r =>
                        obtain ⟨⟨b, xs⟩, d2⟩ := r
                        rw [hev] at hl
                        simp only at hl
                        obtain ⟨⟨k1, leaf⟩, d3, e1, e2⟩ := bind_some hev
                        refine wp_mono (ih hW1.r e1) fun e a' w' ⟨he, ρ2, hd2, hW2⟩ => ?_
                        subst he hd2
                        have hW3 := hW1.trans hW2
                        unfold roundS at e2
                        split at e2
                        · rename_i hk1
                          simp only at hk1
                          subst hk1
                          split at e2
                          · rename_i ys hs1 hf
                            split at hf
                            · simp only [T.eval, Option.some.injEq, Prod.mk.injEq] at e2
                              obtain ⟨⟨rfl, rfl⟩, rfl⟩ := e2
                              simp only at hl
                              obtain ⟨ρJ, q1, q2⟩ := fitJ hf hW3
                              exact ihm _ hl ρJ a' w' q1 q2
                            · cases hf
                          · simp [T.eval] at e2
                        · rename_i hk1
                          split at e2
                          · rename_i ys hy
                            simp only [T.eval, Option.some.injEq, Prod.mk.injEq] at e2
                            obtain ⟨⟨rfl, rfl⟩, rfl⟩ := e2
                            simp only [Option.some.injEq] at hl
                            subst hl
                            obtain ⟨J', c1, ρJ, c2, c3⟩ := closeS_ok (M := M) (N := N) m1 m2 hR0.p hy hW3
                            rw [c1] at h
                            simp only [Option.some.injEq, Prod.mk.injEq] at h
                            obtain ⟨⟨rfl, rfl⟩, rfl⟩ := h
                            exact ex_then (st1 := J) (fun e => hk1 e) c2 c3
                          · simp [T.eval] at e2
                  obtain ⟨ρJ, q1, q2⟩ := fitJ hfit (.refl hR0)
                  exact wp_loop_rounds N (rounds N _ hlout ρJ a w q1 q2)
                · cases h
              · cases h
            · simp [T.eval] at h
          · simp [T.eval] at h
        simp only [codeS] at h
        split at h
        · rename_i hh hfind
          generalize hst : hh.ad.foldl AI.run st = st0 at h
          obtain ⟨ρ0, hd0, hW0⟩ := (by rw [← hst]; exact adopt_fold (fun s x => by cases x; exact adoptT_ok; exact adoptG_ok; exact adoptC_ok) _ _ : Adopts F st st0) _ _ _ hR
          rw [← hd0] at h
          exact wp_mono (main (J := { hh.J with kn := st0.kn }) hW0.r rfl h) fun e a' w' ⟨he, ρ2, hd2, hW2⟩ => ⟨he, ρ2, hd2, hW0.trans hW2⟩
        · generalize hst : adoptS st _ = st0 at h
          obtain ⟨ρ0, hd0, hW0⟩ := (by rw [← hst]; exact adoptS_ok : Adopts F st st0) _ _ _ hR
          rw [← hd0] at h
          exact wp_mono (main hW0.r headA_kn h) fun e a' w' ⟨he, ρ2, hd2, hW2⟩ => ⟨he, ρ2, hd2, hW0.trans hW2⟩
    | skip =>
      simp only [codeS, T.eval, Option.some.injEq, Prod.mk.injEq] at h
      obtain ⟨⟨rfl, rfl⟩, rfl⟩ := h
      exact wp_skip ⟨rfl, ρ, rfl, .refl hR⟩
    | ret =>
      simp only [codeS, T.eval, Option.some.injEq, Prod.mk.injEq] at h
      obtain ⟨⟨rfl, rfl⟩, rfl⟩ := h
      exact wp_ret ⟨rfl, ρ, rfl, .refl hR⟩
    | exit id =>
      simp only [codeS, T.eval, Option.some.injEq, Prod.mk.injEq] at h
      obtain ⟨⟨rfl, rfl⟩, rfl⟩ := h
      exact wp_exit ⟨rfl, ρ, rfl, .refl hR⟩
    | seq x y =>
      simp only [codeS] at h
      obtain ⟨⟨k1, J⟩, d1, h1, h2⟩ := bind_some h
      obtain ⟨k0, leaf, d0, j1, j2⟩ := joinS_ok (F := F) h1
      refine wp_seq (wp_mono (ih hR j1) fun e a' w' ⟨he, ρ0, hd0, hW⟩ => ?_)
      obtain ⟨rfl, ρJ, hdJ, hWJ⟩ := j2 ρ0 a' w' w hd0 hR.p hW
      subst he hdJ
      simp only at h2
      split at h2
      · exact wp_mono (ih hWJ.r h2) fun e a'' w'' ⟨he2, ρ2, hd2, hW2⟩ => ⟨he2, ρ2, hd2, hWJ.trans hW2⟩
      · rename_i hk
        simp only [T.eval, Option.some.injEq, Prod.mk.injEq] at h2
        obtain ⟨⟨rfl, rfl⟩, rfl⟩ := h2
        exact ex_then (st1 := J) (fun e => hk (by rw [e])) rfl hWJ
    | cond c x y =>
      simp only [codeS] at h
      split at h
      · rename_i b hb
        have he : a.eval c = .bool (b.den ρ.ds).boo := by rw [eval_of hR.tm c (by rw [hb]; rfl), hb]; rfl
        obtain ⟨st1, p, l, ⟨hd, h⟩ | ⟨hd, h⟩⟩ := tIte_some hR.p h
        · refine wp_cond_true (by rw [he, hd]) (wp_mono (ih ⟨p, by rw [l.hp, l.sl]; exact hR.h, by rw [l.tm]; exact hR.tm, hR.df⟩ h) fun e a' w' ⟨he2, ρ2, hd2, hW2⟩ => ⟨he2, ρ2, hd2, ?_⟩)
          simpa only [St.nh, l.nd, l.nv, l.hp] using hW2
        · refine wp_cond_false (by rw [he, hd]) (wp_mono (ih ⟨p, by rw [l.hp, l.sl]; exact hR.h, by rw [l.tm]; exact hR.tm, hR.df⟩ h) fun e a' w' ⟨he2, ρ2, hd2, hW2⟩ => ⟨he2, ρ2, hd2, ?_⟩)
          simpa only [St.nh, l.nd, l.nv, l.hp] using hW2
      · simp [T.eval] at h
    | block id c =>
      simp only [codeS] at h
      obtain ⟨⟨k1, J⟩, d1, h1, h2⟩ := bind_some h
      refine wp_block (wp_mono (ih hR h1) fun e a' w' ⟨he, ρ0, hd0, hW⟩ => ?_)
      subst he
      simp only at h2
      split at h2
      · rename_i i _
        simp only [Ex.to, Exit.inBlock]
        split at h2
        · rename_i e
          simp only [T.eval, Option.some.injEq, Prod.mk.injEq] at h2
          obtain ⟨⟨rfl, rfl⟩, rfl⟩ := h2
          rw [if_pos e]
          exact ⟨rfl, ρ0, hd0, hW⟩
        · rename_i e
          simp only [T.eval, Option.some.injEq, Prod.mk.injEq] at h2
          obtain ⟨⟨rfl, rfl⟩, rfl⟩ := h2
          rw [if_neg e]
          exact ⟨rfl, ρ0, hd0, hW⟩
      · rename_i hk
        simp only [T.eval, Option.some.injEq, Prod.mk.injEq] at h2
        obtain ⟨⟨rfl, rfl⟩, rfl⟩ := h2
        cases k1 with
        | exit i => exact absurd rfl (hk i)
        | normal => exact ⟨rfl, ρ0, hd0, hW⟩
        | ret => exact ⟨rfl, ρ0, hd0, hW⟩
    | scope c =>
      simp only [codeS] at h
      refine wp_scope_straight (wp_mono (ih hR h) fun e a' w' q => ?_)
      obtain ⟨he, rest⟩ := q
      subst he
      cases k <;> exact ⟨rfl, rest⟩
    | region id ops draw =>
      simp only [codeS] at h
      split at h
      · rename_i hd
        subst hd
        split at h
        · rename_i hsel
          simp only [Bool.and_eq_true] at hsel
          obtain ⟨s1, d1, h1, h2⟩ := bind_some h
          simp only [T.eval, Option.some.injEq, Prod.mk.injEq] at h2
          obtain ⟨⟨rfl, rfl⟩, rfl⟩ := h2
          exact hdr FO id ops ρ st s1 d1 a w hsel.1.1 hsel.1.2 hsel.2 hR h1
        · simp [T.eval] at h
      · rename_i hd
        simp only [Bool.not_eq_true] at hd
        subst hd
        obtain ⟨s1, d1, h1, h2⟩ := bind_some h
        simp only [T.eval, Option.some.injEq, Prod.mk.injEq] at h2
        obtain ⟨⟨rfl, rfl⟩, rfl⟩ := h2
        exact wp_region_list (regS_ok hc FO hR h1 fun ρ' a' w' hd' g => ⟨rfl, ρ', hd', g⟩)
    | _ => simp [codeS, T.eval] at h
end
end Fx
end Go.Proofs.Ytlhnhidoljfnnaa
