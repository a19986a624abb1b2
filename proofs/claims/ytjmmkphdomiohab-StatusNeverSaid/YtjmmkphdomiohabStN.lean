/- Package status: the class at the next time, and the levels of a run. -/
import Derived.Test.YtjmmkphdomiohabStB
import Derived.Test.YtjmmkphdomiohabStC
namespace Go.Proofs.Ytjmmkphdomiohab
open Go.RowKit
theorem stNext_calls (l b t j d : Int) (w : World) (hv : St.Ok l b t) (hj : St.Lev j) (t0 : 0 ≤ t) (t1 : t ≤ 2147483648) (d0 : 0 ≤ d) (d1 : d ≤ 600) :
    Calls Try.prog 15 #[.agg #[.int .i64 l, .int .i64 b], .int .i64 t, .int .i64 j, .int .i64 d] w (GaveC w (St.nl l b t j d) (St.nb l b t j d) 0) := by
  unfold St.nl St.nb St.pb
  by_cases c1 : j ≤ l
  · rw [if_pos c1, if_pos c1]
    exact stNext_A l b t j d w hv hj t0 t1 d0 d1 c1
  · rw [if_neg c1, if_neg c1]
    by_cases cb : b = -1
    · subst cb
      by_cases c2 : 0 < d
      · rw [if_pos rfl, if_pos (by omega), if_pos (by omega)]
        exact stNext_B l t j d w hv hj t0 t1 d0 d1 c1 c2
      · rw [if_pos rfl, if_neg (by omega), if_neg (by omega)]
        by_cases c3 : j = l + 1
        · rw [if_pos c3]
          exact stNext_C l t j d w hv hj t0 t1 d0 d1 c2 c3
        · rw [if_neg c3]
          exact stNext_D l t j d w hv hj t0 t1 d0 d1 c1 c2 c3
    · rw [if_neg cb]
      by_cases c2 : t - b < d
      · rw [if_pos c2, if_pos c2]
        exact stNext_E l b t j d w hv hj t0 t1 d0 d1 c1 cb c2
      · rw [if_neg c2, if_neg c2]
        by_cases c3 : j = l + 1
        · rw [if_pos c3]
          exact stNext_F l b t j d w hv hj t0 t1 d0 d1 cb c2 c3
        · rw [if_neg c3]
          exact stNext_G l b t j d w hv hj t0 t1 d0 d1 c1 cb c2 c3
namespace St
theorem nx_ok {l b t j d : Int} (h : Ok l b t) (hj : Lev j) (t0 : 0 ≤ t) : Ok (nl l b t j d) (nb l b t j d) (t + 1) := by
  obtain ⟨⟨a1, a2⟩, a3, a4, a5⟩ := h
  obtain ⟨j1, j2⟩ := hj
  unfold nl nb
  by_cases c1 : j ≤ l
  · rw [if_pos c1, if_pos c1]
    exact ⟨⟨by omega, by omega⟩, by omega, by omega, fun _ => rfl⟩
  · rw [if_neg c1, if_neg c1]
    have hp : -1 ≤ pb b t ∧ pb b t ≤ t := by unfold pb; split <;> omega
    by_cases c2 : t - pb b t < d
    · rw [if_pos c2, if_pos c2]
      exact ⟨⟨by omega, by omega⟩, by omega, by omega, fun e => by omega⟩
    · rw [if_neg c2, if_neg c2]
      by_cases c3 : j = l + 1
      · rw [if_pos c3]
        exact ⟨⟨by omega, by omega⟩, by omega, by omega, fun _ => rfl⟩
      · rw [if_neg c3]
        exact ⟨⟨by omega, by omega⟩, by omega, by omega, fun e => by omega⟩
/-- the level and the time of the class behind the first k levels that were judged -/
def cl (zs : List Int) (d : Int) : Nat → Int × Int
  | 0 => (1, -1)
  | k + 1 => (nl (cl zs d k).1 (cl zs d k).2 k (zs.getD k 0) d, nb (cl zs d k).1 (cl zs d k).2 k (zs.getD k 0) d)
theorem cl_ok (zs : List Int) (d : Int) (hz : ∀ z ∈ zs, Lev z) (k : Nat) (hk : k ≤ zs.length) : Ok (cl zs d k).1 (cl zs d k).2 k := by
  induction k with
  | zero =>
    show Ok 1 (-1) 0
    decide
  | succ k ih =>
    have hm : zs.getD k 0 ∈ zs := by
      rw [List.getD_eq_getElem?_getD, List.getElem?_eq_getElem (by omega)]
      exact List.getElem_mem _
    exact nx_ok (ih (by omega)) (hz _ hm) (by omega)
end St
end Go.Proofs.Ytjmmkphdomiohab
