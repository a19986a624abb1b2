/- The walk of StatusReaches. -/
import Derived.Test.YtjmmkphdomiohabStSane
namespace Go.Proofs.Ytjmmkphdomiohab
open Go.RowKit
namespace St
theorem n1 (t d : Int) : (nl 1 (-1) t 3 d, nb 1 (-1) t 3 d) = if 0 < d then (1, t) else (2, t) := by
  by_cases h : 0 < d <;> simp [nl, nb, pb, h]
theorem n2 (t d : Int) : (nl 1 0 t 3 d, nb 1 0 t 3 d) = if t < d then (1, 0) else (2, t) := by
  by_cases h : t < d <;> simp [nl, nb, pb, h]
theorem n3 (t b d : Int) (hb : ¬ b = -1) : (nl 2 b t 3 d, nb 2 b t 3 d) = if t - b < d then (2, b) else (3, -1) := by
  by_cases h : t - b < d <;> simp [nl, nb, pb, h, hb]
theorem n4 (t d : Int) : (nl 3 (-1) t 3 d, nb 3 (-1) t 3 d) = (3, -1) := by simp [nl, nb]
def green (d : Int) (k : Nat) : Int × Int := if k = 0 then (1, -1) else if (k : Int) ≤ d then (1, 0) else if (0 < d ∧ 2 * d < k) ∨ (d = 0 ∧ 2 ≤ k) then (3, -1) else (2, d)
theorem green_0 (d : Int) : green d 0 = (1, -1) := rfl
theorem green_1 {d : Int} {k : Nat} (h : k ≠ 0) (h1 : (k : Int) ≤ d) : green d k = (1, 0) := by unfold green; rw [if_neg h, if_pos h1]
theorem green_2 {d : Int} {k : Nat} (h : k ≠ 0) (h1 : ¬ (k : Int) ≤ d) (h2 : ¬ ((0 < d ∧ 2 * d < k) ∨ (d = 0 ∧ 2 ≤ k))) : green d k = (2, d) := by unfold green; rw [if_neg h, if_neg h1, if_neg h2]
theorem green_3 {d : Int} {k : Nat} (h : k ≠ 0) (h1 : ¬ (k : Int) ≤ d) (h2 : (0 < d ∧ 2 * d < k) ∨ (d = 0 ∧ 2 ≤ k)) : green d k = (3, -1) := by unfold green; rw [if_neg h, if_neg h1, if_pos h2]
theorem green_step (d : Int) (d0 : 0 ≤ d) (k : Nat) : (nl (green d k).1 (green d k).2 k 3 d, nb (green d k).1 (green d k).2 k 3 d) = green d (k + 1) := by
  by_cases k0 : k = 0
  · subst k0
    rw [green_0, n1]
    by_cases hd : 0 < d
    · rw [if_pos hd, green_1 (by omega) (by omega)]
      rfl
    · have : d = 0 := by omega
      subst this
      rfl
  · by_cases c1 : (k : Int) ≤ d
    · rw [green_1 k0 c1, n2]
      by_cases c2 : (k : Int) < d
      · rw [if_pos c2, green_1 (by omega) (by omega)]
      · have : (k : Int) = d := by omega
        rw [if_neg c2, green_2 (by omega) (by omega) (by omega), this]
    · by_cases c2 : (0 < d ∧ 2 * d < (k : Int)) ∨ (d = 0 ∧ 2 ≤ k)
      · rw [green_3 k0 c1 c2, n4, green_3 (by omega) (by omega) (by omega)]
      · rw [green_2 k0 c1 c2, n3 _ _ _ (by omega)]
        by_cases c3 : (k : Int) - d < d
        · rw [if_pos c3, green_2 (by omega) (by omega) (by omega)]
        · rw [if_neg c3, green_3 (by omega) (by omega) (by omega)]
theorem cl_green (n : Nat) (d : Int) (d0 : 0 ≤ d) (k : Nat) (hk : k ≤ n) : cl (List.replicate n 3) d k = green d k := by
  induction k with
  | zero => rfl
  | succ k ih =>
    have hz : (List.replicate n (3 : Int)).getD k 0 = 3 := by
      rw [List.getD_eq_getElem?_getD, List.getElem?_replicate, if_pos (by omega)]; rfl
    show (nl _ _ _ _ _, nb _ _ _ _ _) = _
    rw [hz, ih (by omega)]
    exact green_step d d0 k
end St
theorem OutAt.congr {w : World} {g n : Nat} {f f' : Nat → Int} (h : OutAt w g n n f) (e : ∀ j, j < n → f j = f' j) : OutAt w g n n f' :=
  ⟨h.1, h.2.1, fun j hj => by rw [h.2.2 j hj, if_pos hj, if_pos hj, e j hj]⟩
theorem run_green (v : Value) (k : Nat) (D : Int) (w : World) (hv : IntsIn w w.heap.size v .i64 (List.replicate k 3)) (hk : k ≤ 400) (d0 : 0 ≤ D) (d1 : D ≤ 600) :
    Calls Try.prog 20 #[v, .int .i64 D] w fun e w' => ∃ g, e = .returned (.tuple #[.slice (some ⟨g, 0, none⟩) k k, .int .i64 0]) ∧ OutAt w' g k k (fun i => (St.green D (i + 1)).1) ∧ Below w.heap.size w w' := by
  have hl : (List.replicate k (3 : Int)).length = k := List.length_replicate ..
  refine (stRun_calls v _ D w hv (fun z hz => by rw [(List.mem_replicate.1 hz).2]; decide) (by omega) d0 d1).mono ?_
  rintro e w1 ⟨g, _, rfl, ho, hb⟩
  rw [hl] at ho ⊢
  exact ⟨g, rfl, ho.congr fun j hj => by rw [St.cl_green k D d0 (j + 1) hj], hb⟩
set_option maxHeartbeats 2000000 in
set_option maxRecDepth 100000 in
theorem StatusReaches_walk (w : World) (n : Int) (hn : (Lit.int .u8 n).wf = true) (d : Int) (hd : (Lit.int .u8 d).wf = true) :
    Calls Try.prog 6 #[.int .u8 n, .int .u8 d] w fun e w' => e = .returned (.bool true) ∧ Below w.heap.size w w' := by
  have e3 : IntKind.u8.min = 0 := rfl
  have e4 : IntKind.u8.max = 255 := rfl
  have bn : IntKind.u8.min ≤ n ∧ n ≤ IntKind.u8.max := by simpa [Lit.wf] using hn
  have bd : IntKind.u8.min ≤ d ∧ d ≤ IntKind.u8.max := by simpa [Lit.wf] using hd
  rw [e3, e4] at bn bd
  clear hn hd e3 e4
  obtain ⟨n0, n1⟩ := bn
  obtain ⟨d0, d1⟩ := bd
  go_enter Try.func6, Try.ntmps6
  go_wp2_with (refine wpList_make_full _ rfl _ _ 22 rfl w.heap.size 3 _ (.int .i64 0) 1 rfl rfl rfl rfl _ _ _ _ (2 * (d % 60) + 1 + n % 20).toNat rfl rfl (by omega) (by omega) ?_ ?_ ?_ ?_)
  · show 8 * _ ≤ _
    omega
  · unfold maxLen
    omega
  · simp
  obtain ⟨m, hm⟩ : ∃ m : Nat, (2 * (d % 60) + 1 + n % 20).toNat = m := ⟨_, rfl⟩
  have m1 : m ≤ 150 := by omega
  rw [hm]
  obtain ⟨hm2, D, hD⟩ : 2 * (d % 60) + 1 + n % 20 = m ∧ ∃ D, d % 60 = D := ⟨by omega, _, rfl⟩
  have D0 : 0 ≤ D := by omega
  have D1 : D < 60 := by omega
  rw [hm2, hD]
  clear hm hm2 hD
  intro w1 hown hgrow
  have ho := outAt_made (f := fun _ => 3) hown
  have sB : Below w.heap.size w w1 := ⟨hgrow.os, hgrow.tape, hgrow.output, hgrow.size, fun i hi => hgrow.block i hi (by simp)⟩
  clear hown hgrow
  generalize hg : w.heap.size = g at ho sB ⊢
  go_wp2_with (fail)
  go_loopw [25, 7] (fun i s wr => ∃ k : Nat, k ≤ m ∧ i = .int .i64 k ∧ OutAt wr g m k (fun _ => 3) ∧ Below g w wr) (fun i _ _ => m - (intOf i).toNat)
  case atStart => exact ⟨0, by omega, rfl, ho, sB⟩
  case round =>
    clear ho sB
    obtain ⟨k, hk, rfl, ho, sB⟩ := hrel
    by_cases hlt : k < m
    · have hk0 := ho.2.2 k hlt
      have hk1 := ho.2.1 k hlt
      rw [if_neg (Nat.lt_irrefl k)] at hk0
      go_wp2_with (fail)
      go_roundw
      case rel => exact ⟨k + 1, by omega, by go_num, ho.set hlt, sB.setCell (Nat.le_refl _) _⟩
      case measure => simp [intOf]; omega
    · have hk' : k = m := by omega
      subst hk'
      have hi := (ho.ints wr.heap.size ho.1 (by omega))
      have er : (List.range k).map (fun _ => (3 : Int)) = List.replicate k 3 := by rw [List.map_const', List.length_range]
      rw [er] at hi
      clear er
      go_wp2_with (fail)
      refine (run_green _ k D _ hi (by omega) D0 (by omega)).mono ?_
      rintro e w2 ⟨h, rfl, ho2, hb⟩
      replace sB : Below g w w2 := sB.trans (hb.mono (by have := ho.1; omega))
      clear hi ho hb hk
      go_wp2_with (fail)
      go_loop [42] (fun i => ∃ j : Nat, j ≤ k ∧ i = .int .i64 j) (fun i => k - (intOf i).toNat)
      case atStart => exact ⟨0, by omega, rfl⟩
      case round =>
        obtain ⟨j, hj, rfl⟩ := hrel
        by_cases hlt : j < k
        · have hcell : w2.cell? ⟨h, j, none⟩ = some (.int .i64 (St.green D (j + 1)).1) := by
            have := ho2.2.2 j hlt
            rw [if_pos hlt] at this
            exact this
          clear ho2
          by_cases c1 : (j : Int) < D
          · have hX : (St.green D (j + 1)).1 = 1 := by rw [St.green_1 (by omega) (by omega)]
            rw [hX] at hcell
            clear hX
            go_wp2_with (fail)
            all_goals first | (exfalso; omega) | skip
            all_goals
              go_round
              case rel => exact ⟨j + 1, by omega, by go_num⟩
              case measure => simp [intOf]; omega
          · by_cases c2 : D = 0
            · by_cases c3 : j = 0
              · have hX : (St.green D (j + 1)).1 = 2 := by rw [St.green_2 (by omega) (by omega) (by omega)]
                rw [hX] at hcell
                clear hX
                subst c2 c3
                go_wp2_with (fail)
                all_goals first | (exfalso; omega) | skip
                all_goals
                  go_round
                  case rel => exact ⟨0 + 1, by omega, by first | rfl | go_num⟩
                  case measure => simp [intOf]; omega
              · have hX : (St.green D (j + 1)).1 = 3 := by rw [St.green_3 (by omega) (by omega) (by omega)]
                rw [hX] at hcell
                clear hX
                go_wp2_with (fail)
                all_goals first | (exfalso; omega) | skip
                all_goals
                  go_round
                  case rel => exact ⟨j + 1, by omega, by go_num⟩
                  case measure => simp [intOf]; omega
            · by_cases c3 : 2 * D ≤ j
              · have hX : (St.green D (j + 1)).1 = 3 := by rw [St.green_3 (by omega) (by omega) (by omega)]
                rw [hX] at hcell
                clear hX
                go_wp2_with (fail)
                all_goals first | (exfalso; omega) | skip
                all_goals
                  go_round
                  case rel => exact ⟨j + 1, by omega, by go_num⟩
                  case measure => simp [intOf]; omega
              · have hX : (St.green D (j + 1)).1 = 2 := by rw [St.green_2 (by omega) (by omega) (by omega)]
                rw [hX] at hcell
                clear hX
                go_wp2_with (fail)
                all_goals first | (exfalso; omega) | skip
                all_goals
                  go_round
                  case rel => exact ⟨j + 1, by omega, by go_num⟩
                  case measure => simp [intOf]; omega
        · go_wp2_with (fail)
          refine (stSane_calls _).mono ?_
          rintro e w3 ⟨rfl, hb⟩
          go_wp2_with (fail)
          go_ret
          exact ⟨rfl, hg ▸ sB.trans (hb.mono (by rw [← hg]; exact (hg ▸ sB).size))⟩
end Go.Proofs.Ytjmmkphdomiohab
