/- XSym is sound: calls, regions, code, functions. -/
import Derived.Test.YthfagiihfkjamaaSymD
import Derived.Scope
import Derived.LoopN
namespace Go.Proofs.Ythfagiihfkjamaa
open Go.RowKit
namespace Sym
section
variable {P : Program} {s : Sp} {n0 : Nat} {A : Inva}
theorem most_run {ρ : Env} {bd : Bds} (hb : BdOk ρ bd) {k : IntKind} {f : E → E → E} {g : Int → Int → Int} {m : Value → Value → Sem Value} (hf : ∀ a b, (f a b).den ρ = g (a.den ρ) (b.den ρ))
    (hm : ∀ x y w, (m (.int k x) (.int k y)).run P w = .ok (.int k (g x y)) w) (β : List Nat) (w : World) : ∀ {rest : List SV} {a : E} {v : SV}, mostS bd f k a rest = some v →
    ((SV.dens ρ β rest).foldlM m (.int k (a.den ρ))).run P w = .ok (v.den ρ β) w
  | [], a, v, h => by simp only [mostS, Option.some.injEq] at h; subst h; simp [SV.dens, SV.den]
  | x :: rest, a, v, h => by
    cases x <;> simp only [mostS] at h <;> try cases h
    rename_i k' b
    split at h
    · rename_i e
      subst e
      have ih := most_run hb hf hm β w h
      rw [nf_den hb, hf] at ih
      simp only [SV.dens, SV.den, List.foldlM_cons, Sem.run_bind, hm, Result.andThen_ok, ih]
    · cases h
theorem max2_run (k : IntKind) (x y : Int) (w : World) : (Builtin.max2 (.int k x) (.int k y)).run P w = .ok (.int k (max x y)) w := by
  simp only [Builtin.max2, Sem.run_pure]
  congr 2
  split <;> omega
theorem min2_run (k : IntKind) (x y : Int) (w : World) : (Builtin.min2 (.int k x) (.int k y)).run P w = .ok (.int k (min x y)) w := by
  simp only [Builtin.min2, Sem.run_pure]
  congr 2
  split <;> omega
theorem built_ok {ρ : Env} {st : St} (hP : PRel ρ st) {b : Builtin} {ts : Array TypeId} {args : List SV} {Q : SV → Env → Sp → Prop} (h : (builtS P st b ts args).holds P n0 s ρ A Q) :
    ∃ sv, Q sv ρ s ∧ ∀ (β : List Nat) (w : World) (t : TypeId) (cs : Array Bool), (builtin b ts t cs (SV.dens ρ β args).toArray).run P w = .ok (.value (sv.den ρ β)) w := by
  unfold builtS at h
  split at h
  · rename_i i o l c
    split at h
    · rename_i e hu
      rw [Option.bind_eq_some_iff] at hu
      obtain ⟨t0, ht, hu⟩ := hu
      refine ⟨_, h, fun β w t cs => ?_⟩
      simp [builtin, Builtin.len_, ht, SV.dens, SV.den, hu, underlying, goInt, E.den]
    · exact h.elim
  · rename_i i
    split at h
    · rename_i e0 q e hu hf
      rw [Option.bind_eq_some_iff] at hu
      obtain ⟨t0, ht, hu⟩ := hu
      refine ⟨_, h, fun β w t cs => ?_⟩
      have hm := List.mem_of_find?_eq_some hf
      have he := List.find?_some hf
      simp only [beq_iff_eq] at he
      subst he
      obtain ⟨a, n, c, h1, h2, _⟩ := hP.sl _ hm
      simp only at h1 h2
      have e1 : e.den ρ = (n : Int) := by rw [E.den_is e]; exact h2.symm
      simp only [SV.dens, SV.den, h1, e1]
      simp [builtin, Builtin.len_, ht, hu, underlying, goInt]
    · exact h.elim
  · split at h
    · rename_i n e hu
      rw [Option.bind_eq_some_iff] at hu
      obtain ⟨t0, ht, hu⟩ := hu
      refine ⟨_, h, fun β w t cs => ?_⟩
      simp [builtin, Builtin.len_, ht, SV.dens, SV.den, hu, underlying, goInt, E.den]
    · exact h.elim
  · rename_i k e rest
    unfold opt at h
    split at h
    · rename_i v hv
      refine ⟨v, h, fun β w t cs => ?_⟩
      have := most_run (P := P) (ρ := ρ) hP.bd (g := max) (fun a b => rfl) (max2_run k) β w hv
      simp only [builtin, Builtin.max_, SV.dens, SV.den, Sem.run_bind, this, Result.andThen_ok, Sem.run_pure]
    · exact h.elim
  · rename_i k e rest
    unfold opt at h
    split at h
    · rename_i v hv
      refine ⟨v, h, fun β w t cs => ?_⟩
      have := most_run (P := P) (ρ := ρ) hP.bd (g := min) (fun a b => rfl) (min2_run k) β w hv
      simp only [builtin, Builtin.min_, SV.dens, SV.den, Sem.run_bind, this, Result.andThen_ok, Sem.run_pure]
    · exact h.elim
  · exact h.elim
end
end Sym
end Go.Proofs.Ythfagiihfkjamaa
