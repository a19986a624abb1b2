/- XSym is sound: code, loops, functions. -/
import Derived.Test.YthfagiihfkjamaaSymL
namespace Go.Proofs.Ythfagiihfkjamaa
open Go.RowKit
namespace Sym
section
variable {P : Program} {s : Sp} {n0 : Nat} {A : Inva}
theorem then_mono {N N' : Act → World → Prop} {Q Q' : Exit → Act → World → Prop} (hn : ∀ a w, N a w → N' a w) (hq : ∀ e a w, Q e a w → Q' e a w) {e : Exit} {a : Act} {w : World} (h : Exit.then N Q e a w) : Exit.then N' Q' e a w := by
  cases e <;> first | exact hn _ _ h | exact hq _ _ _ h
theorem rounds_mono {c : Code} {Q Q' : Exit → Act → World → Prop} (hq : ∀ e a w, Q e a w → Q' e a w) : ∀ {n : Nat} {a : Act} {w : World}, Code.rounds P c Q n a w → Code.rounds P c Q' n a w
  | 0, _, _, h => h.elim
  | _ + 1, _, _, h => wp_mono h fun _ _ _ k => then_mono (fun _ _ q => rounds_mono hq q) hq k
/-- a loop, by what holds at its head, with a number that goes down -/
theorem wp_loop_by {Q : Exit → Act → World → Prop} {c : Code} (J : Nat → Act → World → Prop) (round : ∀ n a w, J n a w → c.wp P (Exit.then (fun a' w' => ∃ m, m < n ∧ J m a' w') Q) a w) {n : Nat} {a : Act} {w : World} (h : J n a w) : (Code.loop c).wp P Q a w := by
  intro b k cs
  have key : ∀ n a w, J n a w → ∃ e a' w', Q e a' w' ∧ Arrives P (lone (b.at a (.code c :: .inLoop c :: k)) cs w) b k cs e a' w' := by
    intro n
    induction n using Nat.strongRecOn with
    | _ n ih =>
      intro a w hJ
      obtain ⟨e, a₁, w₁, hq, harr⟩ := round n a w hJ b (.inLoop c :: k) cs
      cases e with
      | normal =>
        obtain ⟨m, hm, hJ₁⟩ := hq
        obtain ⟨e₂, a₂, w₂, hq₂, harr₂⟩ := ih m hm a₁ w₁ hJ₁
        exact ⟨e₂, a₂, w₂, hq₂, .of_steps (Steps.trans harr (.one step_inLoop)) harr₂⟩
      | exit id => exact ⟨_, a₁, w₁, hq, .pass (x := .inLoop c) rfl (fun _ _ => .inl (by simp)) harr⟩
      | goto l => exact ⟨_, a₁, w₁, hq, .pass (x := .inLoop c) rfl (fun _ _ => .inl (by simp)) harr⟩
      | ret => exact ⟨_, a₁, w₁, hq, .pass (x := .inLoop c) rfl (fun _ _ => .inl (by simp)) harr⟩
      | panic ch => exact ⟨_, a₁, w₁, hq, .pass (x := .inLoop c) rfl (fun _ _ => .inl (by simp)) harr⟩
      | outgrown => exact ⟨_, a₁, w₁, hq, .pass (x := .inLoop c) rfl (fun _ _ => .inl (by simp)) harr⟩
  obtain ⟨e, a', w', hq, harr⟩ := key n a w h
  exact ⟨e, a', w', hq, .of_steps (.one step_loop) harr⟩
abbrev CPost (s : Sp) (n0 : Nat) (ρ : Env) (β : List Nat) (Q : X × St → Env → Sp → Prop) := Post s n0 ρ β (fun r : X × St => (r.2, r.1.to)) Q
theorem post_up {α : Type} {to : α → St × Exit} {Q : α → Env → Sp → Prop} {ρ ρ' : Env} {β γ : List Nat} {s s1 : Sp} (l1 : ρ.le ρ') (l2 : Le β γ) (l3 : s.le s1) {e : Exit} {a : Act} {w2 : World}
    (h : Post s1 n0 ρ' γ to Q e a w2) : Post s n0 ρ β to Q e a w2 := by
  obtain ⟨x, ρ2, γ2, s2, he, hR, k1, k2, k3, hq⟩ := h
  exact ⟨x, ρ2, γ2, s2, he, hR, Env.le_trans l1 k1, l2.trans k2, Sp.le_trans l3 k3, hq⟩
/-- a stretch that has ended, so or so -/
theorem post_then {Q : X × St → Env → Sp → Prop} {N : Act → World → Prop} {ρ : Env} {β : List Nat} {x : X} {st : St} {ρ' : Env} {γ : List Nat} {s' : Sp} {a : Act} {w' : World} (hR : SRel s' n0 ρ' γ st a w') (l1 : ρ.le ρ') (l2 : Le β γ) (l3 : s.le s')
    (hx : x ≠ .normal) (hq : Q (x, st) ρ' s') : Exit.then N (CPost s n0 ρ β Q) x.to a w' := by
  have k : CPost s n0 ρ β Q x.to a w' := ⟨(x, st), ρ', γ, s', rfl, hR, l1, l2, l3, hq⟩
  cases x with
  | normal => exact absurd rfl hx
  | exit id => exact k
  | ret => exact k
theorem code_ok {call : Caller} (hc : CallerOk P call) (hm : P.follows .mixedOrders = true) (cut : Cut) : ∀ (n : Nat),
    (∀ {c : Code} {s : Sp} {A : Inva} {ρ : Env} {β : List Nat} {st : St} {a : Act} {w : World} {Q : X × St → Env → Sp → Prop}, SRel s n0 ρ β st a w → (codeS P call cut n c st).holds P n0 s ρ A Q → c.wp P (CPost s n0 ρ β Q) a w) ∧
    (cut = none → ∀ {c : Code} {s : Sp} {A : Inva} {ρ : Env} {β : List Nat} {st : St} {a : Act} {w : World} {Q : X × St → Env → Sp → Prop}, SRel s n0 ρ β st a w → (codeS P call cut n (.loop c) st).holds P n0 s ρ A Q → Code.rounds P c (CPost s n0 ρ β Q) n a w)
  | 0 => ⟨fun _ h => h.elim, fun _ {_ _ _ _ _ _ _ _ _} _ h => h.elim⟩
  | n + 1 => by
    obtain ⟨ih, ihl⟩ := code_ok hc hm cut n
    have loop : cut = none → ∀ {c : Code} {s : Sp} {A : Inva} {ρ : Env} {β : List Nat} {st : St} {a : Act} {w : World} {Q : X × St → Env → Sp → Prop}, SRel s n0 ρ β st a w → (codeS P call cut (n + 1) (.loop c) st).holds P n0 s ρ A Q → Code.rounds P c (CPost s n0 ρ β Q) (n + 1) a w := by
      intro hcut c s A ρ β st a w Q hR h
      subst hcut
      simp only [codeS] at h
      rw [rounds_succ]
      refine wp_mono (ih hR (bind_dn _ h)) fun e a' w' ⟨⟨x, st'⟩, ρ', γ, s', he, hR', l1, l2, l3, A', hq⟩ => ?_
      subst he
      simp only at hq
      split at hq
      · exact rounds_mono (fun _ _ _ => post_up l1 l2 l3) (ihl rfl hR' hq)
      · rename_i hx
        exact post_then hR' l1 l2 l3 (fun e => hx e) hq
    refine ⟨fun {c s A ρ β st a w Q} hR h => ?_, loop⟩
    cases c with
    | loop c =>
      cases cut with
      | none => exact wp_loop_rounds (n + 1) (loop rfl hR h)
      | some bds =>
        simp only [codeS] at h
        split at h
        · rename_i hcnd
          simp only [Bool.and_eq_true, beq_iff_eq] at hcnd
          obtain ⟨⟨⟨⟨⟨c1, c2⟩, c3⟩, c4⟩, c5⟩, c6⟩ := hcnd
          obtain ⟨tm, hp, hhd⟩ := headS_eq st (dstsS c) (((bds.find? (·.1 == st.lv)).map (·.2)).getD [])
          generalize hN : (headS st (dstsS c) (((bds.find? (·.1 == st.lv)).map (·.2)).getD [])).2 = N at *
          generalize hD : (headS st (dstsS c) (((bds.find? (·.1 == st.lv)).map (·.2)).getD [])).1 = D at *
          obtain ⟨I, μ, h0, hbd, hround⟩ := h
          have eβ : ∀ {γ : List Nat}, Le β γ → γ.take D.hp.length = β := by
            rintro γ ⟨l, rfl⟩
            rw [c4, ← hR.h.len, List.take_left]
          refine wp_loop_by (J := fun m a w => ∃ is bs vs js s', m = μ is bs vs ∧ NewOk N is bs vs ∧ js.length = N.nj ∧ I is bs vs s' ∧ SRel s' n0 (ρ.ext is bs (vs ++ js)) β D a w) (fun m a w ⟨is, bs, vs, js, s', hmu, hnew, hjs, hI, hR'⟩ => ?_)
            (n := μ ((subS st D N st).is.map (E.den ρ)) ((subS st D N st).bs.map (B.den ρ)) (((subS st D N st).vs.take N.nv).map (SV.den ρ []))) ?_
          · have hb := hround is bs vs js s' hnew hjs hR'.f hI
            refine wp_mono (ih hR' (bind_up _ hb)) fun e a' w' ⟨⟨x, st'⟩, ρ', γ, s2, he, hR2, l1, l2, l3, A', hsame, hq⟩ => ?_
            subst he
            simp only at hq hR2
            have l0 := Env.le_trans (Env.le_ext ρ is bs (vs ++ js)) l1
            split at hq
            · split at hq
              · rename_i hfit
                simp only [T.holds] at hq
                rw [hsame st.lv c6, Inva.upd, if_pos rfl] at hq
                obtain ⟨q1, q2⟩ := hq
                obtain ⟨js', j1, j2, j3⟩ := fit_rel hR.p c1 c2 c3 hhd hR2 l0 rfl rfl rfl hfit (hbd _ _ _ _ q1).1
                rw [eβ l2] at j3
                exact ⟨_, hmu ▸ q2, _, _, _, js', s2, rfl, j2, j1, q1, j3⟩
              · exact hq.elim
            · rename_i hx
              exact post_then hR2 l0 l2 (Sp.le_trans (hbd _ _ _ _ hI).2 l3) (fun e => hx e) hq
          · obtain ⟨js', j1, j2, j3⟩ := fit_rel hR.p c1 c2 c3 hhd hR (Env.le_refl ρ) rfl rfl rfl c5 (hbd _ _ _ _ h0).1
            rw [eβ (.refl β)] at j3
            exact ⟨_, _, _, js', s, rfl, j2, j1, h0, j3⟩
        · exact h.elim
    | skip => exact wp_skip ⟨(.normal, st), ρ, β, s, rfl, hR, Env.le_refl ρ, .refl β, Sp.le_refl s, h⟩
    | ret => exact wp_ret ⟨(.ret, st), ρ, β, s, rfl, hR, Env.le_refl ρ, .refl β, Sp.le_refl s, h⟩
    | exit id => exact wp_exit ⟨(.exit id, st), ρ, β, s, rfl, hR, Env.le_refl ρ, .refl β, Sp.le_refl s, h⟩
    | seq x y =>
      simp only [codeS] at h
      refine wp_seq (wp_mono (ih hR (bind_dn _ h)) fun e a' w' ⟨⟨x, st'⟩, ρ', γ, s', he, hR', l1, l2, l3, A', hq⟩ => ?_)
      subst he
      simp only at hq
      split at hq
      · exact wp_mono (ih hR' hq) fun _ _ _ => post_up l1 l2 l3
      · rename_i hx
        exact post_then hR' l1 l2 l3 (fun e => hx e) hq
    | cond c x y =>
      simp only [codeS] at h
      split at h
      · rename_i b hb
        have he : a.eval c = .bool (b.den ρ) := by rw [eval_of hR.tm, hb]; rfl
        obtain ⟨st', p, l, ⟨hd, h⟩ | ⟨hd, h⟩⟩ := tIte_holds hR.p h
        · exact wp_cond_true (by rw [he, hd]) (ih ⟨hR.f, p, by rw [l.hp]; exact hR.h, by rw [l.tm]; exact hR.tm, hR.df⟩ h)
        · exact wp_cond_false (by rw [he, hd]) (ih ⟨hR.f, p, by rw [l.hp]; exact hR.h, by rw [l.tm]; exact hR.tm, hR.df⟩ h)
      · exact h.elim
    | block id c =>
      simp only [codeS] at h
      refine wp_block (wp_mono (ih hR (bind_dn _ h)) fun e a' w' ⟨⟨x, st'⟩, ρ', γ, s', he, hR', l1, l2, l3, A', hq⟩ => ?_)
      subst he
      simp only at hq
      split at hq
      · rename_i i _
        simp only [X.to, Exit.inBlock]
        split at hq
        · rename_i e
          rw [if_pos e]
          exact ⟨(.normal, st'), ρ', γ, s', rfl, hR', l1, l2, l3, hq⟩
        · rename_i e
          rw [if_neg e]
          exact ⟨(.exit i, st'), ρ', γ, s', rfl, hR', l1, l2, l3, hq⟩
      · rename_i hx
        cases x with
        | exit i => exact absurd rfl (hx i)
        | normal => exact ⟨(.normal, st'), ρ', γ, s', rfl, hR', l1, l2, l3, hq⟩
        | ret => exact ⟨(.ret, st'), ρ', γ, s', rfl, hR', l1, l2, l3, hq⟩
    | scope c =>
      simp only [codeS] at h
      refine wp_scope_straight (wp_mono (ih hR h) fun e a' w' k => ?_)
      obtain ⟨⟨x, st'⟩, ρ', γ, s', he, rest⟩ := k
      subst he
      cases x <;> exact ⟨(_, st'), ρ', γ, s', rfl, rest⟩
    | region id ops draw =>
      simp only [codeS] at h
      split at h
      · rename_i hd
        subst hd
        split at h
        · rename_i hsel
          refine wp_region_any hm (wpAny_of_G _ (HRel s n0 ρ β st.hp) _ _ _ (hR.h.drew hR.f) (regG_ok hc hsel (fun d v c a w hp => ?_) ops.size closed_nil hR.f hR.p hR.tm hR.df ⟨w, hR.h⟩ (bind_dn _ h) fun st' ρ' γ s' a' w' hR' l1 l2 l3 ⟨_, hq⟩ => ⟨(.normal, st'), ρ', γ, s', rfl, hR', l1, l2, l3, hq⟩))
          obtain ⟨⟨x, st'⟩, ρ', γ, s', he, _⟩ := hp
          cases x <;> cases he
        · exact h.elim
      · rename_i hd
        simp only [Bool.not_eq_true] at hd
        subst hd
        exact wp_region_list (reg_ok hc hR (bind_dn _ h) fun st' ρ' γ s' a' w' hR' l1 l2 l3 ⟨_, hq⟩ => ⟨(.normal, st'), ρ', γ, s', rfl, hR', l1, l2, l3, hq⟩)
    | _ => exact h.elim
end
end Sym
end Go.Proofs.Ythfagiihfkjamaa
