/- A region that draws its order, each of whose operations leaves one and the same value whatever has been carried out before it, and keeps a condition S on the world: it may be walked once, in the order of the text. Calls that make memory are let in. -/
import Derived.OrdersHeld
import Derived.WalkKit
import Derived.Calls
namespace Go.Proofs.Ythfagiihfkjamaa
section
variable {P : Program} {ops : Array Oper} {Q : Exit → Act → World → Prop} {md : Region.Mode} {S : World → Prop}
/-- the run of one operation leaves v, and a world that meets S -/
def SteadyR (P : Program) (S : World → Prop) (v : Value) : Result Next → Prop
  | .ok (.value u) w' => u = v ∧ S w'
  | .ok .skip w' => v = undef ∧ S w'
  | .ok (.enter f args) w' => Calls P f args w' fun e w'' => e = .returned v ∧ S w''
  | _ => False
theorem steadyR_value {v u : Value} {w : World} (h : u = v) (hS : S w) : SteadyR P S v (.ok (.value u) w) := ⟨h, hS⟩
theorem steadyR_skip {v : Value} {w : World} (h : v = undef) (hS : S w) : SteadyR P S v (.ok .skip w) := ⟨h, hS⟩
theorem steadyR_enter {v : Value} {w : World} {f : FuncId} {args : Array Value} (h : Calls P f args w fun e w'' => e = .returned v ∧ S w'') : SteadyR P S v (.ok (.enter f args) w) := h
def Steady (P : Program) (ops : Array Oper) (S : World → Prop) (o : Oper) (v : Value) (a : Act) : Prop :=
  (Region.wanted o (yielded ops a.tmps) = true ∧ ∀ w, S w → SteadyR P S v ((execOp a.eval o).run P w)) ∨
  (Region.wanted o (yielded ops a.tmps) = false ∧ v = undef)
theorem Steady.same {o : Oper} {v : Value} {a a' : Act} (hy : Steady P ops S o v a) (he : execOp a'.eval o = execOp a.eval o)
    (hw : Region.wanted o (yielded ops a'.tmps) = Region.wanted o (yielded ops a.tmps)) : Steady P ops S o v a' := by
  unfold Steady at *
  rw [he, hw]
  exact hy
theorem Steady.op {i : Nat} {o : Oper} {v : Value} {a : Act} (hi : ops[i]? = some o) (hy : Steady P ops S o v a)
    {K : Act → World → Prop} {w : World} (hS : S w) (h : ∀ w', S w' → K (a.put o.dst v) w') : wpOp P ops Q i K a w := by
  unfold wpOp
  simp only [hi]
  rcases hy with ⟨hw, hv⟩ | ⟨hw, rfl⟩
  · simp only [hw, if_true]
    left
    have k := hv w hS
    unfold Oper.wp
    generalize (execOp a.eval o).run P w = r at k
    cases r with
    | ok n w' =>
      cases n <;> simp only [SteadyR, Oper.upon] at k ⊢
      case value u => obtain ⟨rfl, k⟩ := k; exact h _ k
      case skip => obtain ⟨rfl, k⟩ := k; exact h _ k
      case enter f args => exact Calls.mono k fun e w'' he => by obtain ⟨rfl, k⟩ := he; exact h _ k
    | halt x w' => simp only [SteadyR] at k
  · simp only [hw, Bool.false_eq_true, if_false]
    exact h _ hS
/-- Any run of an operation 'o' from a state with 'v' laid into a temporary 'd' that is not its own goes the same way from the state without it; 'Inv' is what the state keeps. -/
theorem upon_behind {o : Oper} {d : Option Tmp} {v : Value} (hcomm : ∀ (a : Act) (u : Value), (a.put d v).put o.dst u = (a.put o.dst u).put d v)
    {Inv : Act → Prop} (hput : ∀ a, Inv a → ∀ u, Inv (a.put o.dst u)) (hdef : ∀ a, Inv a → ∀ x, Inv { a with defers := x :: a.defers })
    (hQ : ∀ c a w, Q (.panic c) (a.put d v) w → Q (.panic c) a w) {K : Act → World → Prop} {a : Act} (ha : Inv a) :
    ∀ r : Result Next, o.upon P (a.put d v) K Q r → o.upon P a (fun a' w' => Inv a' ∧ K (a'.put d v) w') Q r := by
  have one : ∀ u w', K ((a.put d v).put o.dst u) w' → Inv (a.put o.dst u) ∧ K ((a.put o.dst u).put d v) w' := fun u w' h => ⟨hput a ha u, hcomm a u ▸ h⟩
  intro r h
  match r, h with
  | .ok (.value u) w', h => exact one u w' h
  | .ok .skip w', h => exact one undef w' h
  | .ok (.defer x) w', h =>
    refine ⟨hput _ (hdef a ha x) _, ?_⟩
    have e : { a.put d v with defers := x :: (a.put d v).defers } = ({ a with defers := x :: a.defers } : Act).put d v := by cases d <;> rfl
    have h' : K (({ a.put d v with defers := x :: (a.put d v).defers } : Act).put o.dst undef) w' := h
    rw [e, hcomm] at h'
    exact h'
  | .ok (.enter f args) w', h =>
    refine Calls.mono h fun e w'' he => ?_
    match e, he with
    | .returned u, he => exact one u w'' he
    | .panicked c, he => exact hQ _ _ _ he
    | .outgrown, he => exact he
  | .ok (.row row args) w', h => exact Rows.mono h fun u w'' he => one u w'' he
  | .halt (.panic u) w', h => exact hQ _ _ _ h
/-- an operation apart from 'oi' runs the same whether 'oi' has been carried out or not, and leaves 'oi' as steady as it was -/
theorem steady_behind {j : Nat} {oi oj : Oper} {v : Value} (hj : ops[j]? = some oj) (hap : oi.apart ops oj = true)
    (hsi : ∀ cs b, oi.op ≠ .select cs b) (hsj : ∀ cs b, oj.op ≠ .select cs b)
    (hQ : ∀ c a w, Q (.panic c) (a.put oi.dst v) w → Q (.panic c) a w) {K : Act → World → Prop} {a : Act} {w : World}
    (hy : Steady P ops S oi v a) (h : wpOp P ops Q j K (a.put oi.dst v) w) :
    wpOp P ops Q j (fun a' w' => Steady P ops S oi v a' ∧ K (a'.put oi.dst v) w') a w := by
  obtain ⟨h1, h2, h3⟩ := Oper.apart_spec hap
  have stays : ∀ a : Act, Steady P ops S oi v a → ∀ u, Steady P ops S oi v (a.put oj.dst u) := fun a k u => k.same (execOp_put oi hsi a oj.dst u h3) (wanted_put oi a oj.dst u h3)
  have comm : ∀ (a : Act) (u : Value), (a.put oi.dst v).put oj.dst u = (a.put oj.dst u).put oi.dst v := fun a u => Act.put_comm a v u h2
  have same := execOp_put oj hsj a oi.dst v h1
  unfold wpOp at h ⊢
  simp only [hj, wanted_put oj a oi.dst v h1] at h ⊢
  by_cases hw : Region.wanted oj (yielded ops a.tmps) = true
  · rw [if_pos hw] at h ⊢
    refine h.imp (fun k => ?_) (fun k => ⟨?_, k.2⟩)
    · unfold Oper.wp at k ⊢
      rw [same] at k
      exact upon_behind comm stays (fun a k x => k.same rfl rfl) hQ hy _ k
    · have k1 := k.1
      unfold Oper.asks at k1 ⊢
      rw [same] at k1
      exact k1
  · rw [if_neg hw] at h ⊢
    exact ⟨stays a hy _, comm a undef ▸ h⟩
/-- whatever order is picked, from any world that meets S -/
def wpAnyS (P : Program) (md : Region.Mode) (ops : Array Oper) (Q : Exit → Act → World → Prop) (S : World → Prop) : Nat → Array Bool → Act → Prop
  | 0, listed, a => Region.ready md ops listed = [] ∧ ∀ w, S w → Q .normal a w
  | fuel + 1, listed, a =>
    (Region.ready md ops listed = [] → ∀ w, S w → Q .normal a w) ∧
    ∀ i ∈ Region.ready md ops listed, ∀ w, S w → wpOp P ops Q i (fun a' w' => S w' ∧ wpAnyS P md ops Q S fuel (listed.setIfInBounds i true) a') a w
theorem wpAny_of_steady : ∀ (fuel : Nat) (listed : Array Bool) (a : Act) (w : World), S w → wpAnyS P md ops Q S fuel listed a → wpAny P md ops Q fuel listed a w
  | 0, _, _, w, hS, h => ⟨h.1, h.2 w hS⟩
  | fuel + 1, _, _, w, hS, h => ⟨fun hr => h.1 hr w hS, fun i hi => wpOp_mono (fun a' w' h' => wpAny_of_steady fuel _ a' w' h'.1 h'.2) (h.2 i hi w hS)⟩
/-- whoever has not come up and does not wait for number i is apart from it -/
def Loose (ops : Array Oper) (md : Region.Mode) (i : Nat) (oi : Oper) (listed : Array Bool) : Prop :=
  ∀ j oj, ops[j]? = some oj → j ≠ i → listed.getD j true = false → (∀ e ∈ oj.after, Region.binds md e = true → e.on ≠ i) → oi.apart ops oj = true
theorem Loose.set {i j : Nat} {oi : Oper} {listed : Array Bool} (h : Loose ops md i oi listed) (hj : listed.getD j true = false) : Loose ops md i oi (listed.setIfInBounds j true) := by
  intro k ok hk hki hun
  refine h k ok hk hki ?_
  rcases Nat.decEq j k with e | e
  · rwa [getD_set_ne true e] at hun
  · exact e ▸ hj
/-- number i may come up now: so nobody who may come up now waits for it -/
theorem Loose.at_ {i j : Nat} {oi oj : Oper} {listed : Array Bool} (h : Loose ops md i oi listed) (hr : i ∈ Region.ready md ops listed) (hj : j ∈ Region.ready md ops listed) (ho : ops[j]? = some oj) (hne : j ≠ i) :
    oi.apart ops oj = true := by
  obtain ⟨hun, o, ho', hall⟩ := mem_ready.1 hj
  obtain rfl : o = oj := by rw [ho] at ho'; injection ho' with e; exact e.symm
  refine h j o ho hne hun fun e he hb heq => ?_
  have k1 := hall e he hb
  have k0 := (mem_ready.1 hr).1
  rw [heq] at k1
  by_cases hs : i < listed.size
  · simp [hs] at k0 k1
    rw [k0] at k1; cases k1
  · simp [Array.getElem?_eq_none (Nat.le_of_not_lt hs)] at k1
theorem wpAnyS_first {i : Nat} {oi : Oper} {v : Value} (hi : ops[i]? = some oi) (hsel : ∀ (j : Nat) (o : Oper) cs b, ops[j]? = some o → o.op ≠ .select cs b)
    (hQ : ∀ c a w, Q (.panic c) (a.put oi.dst v) w → Q (.panic c) a w) (fuel : Nat) :
    ∀ (listed : Array Bool) (a : Act), Loose ops md i oi listed → i ∈ Region.ready md ops listed → Steady P ops S oi v a →
      wpAnyS P md ops Q S fuel (listed.setIfInBounds i true) (a.put oi.dst v) → wpAnyS P md ops Q S (fuel + 1) listed a := by
  induction fuel with
  | zero =>
    intro listed a _ hr hy H
    constructor
    · intro h
      rw [h] at hr; cases hr
    intro j hj w hS
    rcases Nat.decEq j i with hne | rfl
    · have k := ready_mono hj hne
      rw [H.1] at k; cases k
    · exact hy.op hi hS fun w' hS' => ⟨hS', H⟩
  | succ fuel ih =>
    intro listed a hl hr hy H
    constructor
    · intro h
      rw [h] at hr; cases hr
    intro j hj w hS
    rcases Nat.decEq j i with hne | rfl
    · obtain ⟨hun, oj, hoj, _⟩ := mem_ready.1 hj
      have step := steady_behind hoj (hl.at_ hr hj hoj hne) (fun cs b => hsel i oi cs b hi) (fun cs b => hsel j oj cs b hoj) hQ hy (H.2 j (ready_mono hj hne) w hS)
      refine wpOp_mono (fun a' w' k => ⟨k.2.1, ih _ a' (hl.set hun) (ready_mono hr (Ne.symm hne)) k.1 ?_⟩) step
      rw [Array.setIfInBounds_comm _ _ hne]
      exact k.2.2
    · exact hy.op hi hS fun w' hS' => ⟨hS', H⟩
/-- the next operation of the text -/
theorem wpAnyS_take {i : Nat} {oi : Oper} {v : Value} {fuel : Nat} {listed : Array Bool} {a : Act} (hi : ops[i]? = some oi)
    (hs : Region.noSelect ops = true) (hf : Region.free md ops listed i = true) (hr : (Region.ready md ops listed).contains i = true)
    (hQ : ∀ c a w, Q (.panic c) (a.put oi.dst v) w → Q (.panic c) a w) (hy : Steady P ops S oi v a)
    (h : wpAnyS P md ops Q S fuel (listed.setIfInBounds i true) (a.put oi.dst v)) : wpAnyS P md ops Q S (fuel + 1) listed a :=
  wpAnyS_first hi (Region.noSelect_spec hs) hQ fuel listed a (Region.free_spec hi hf) (by simpa using hr) hy h
/-- the operations in the order of the text, each with the value that it leaves -/
def wpSteady (P : Program) (ops : Array Oper) (S : World → Prop) (Q : Exit → Act → World → Prop) : List Oper → Act → Prop
  | [], a => ∀ w, S w → Q .normal a w
  | o :: rest, a => ∃ v, Steady P ops S o v a ∧ wpSteady P ops S Q rest (a.put o.dst v)
theorem wpSteady_skip {o : Oper} {rest : List Oper} {a : Act} (hw : Region.wanted o (yielded ops a.tmps) = false) (h : wpSteady P ops S Q rest (a.put o.dst undef)) : wpSteady P ops S Q (o :: rest) a :=
  ⟨undef, .inr ⟨hw, rfl⟩, h⟩
theorem wpSteady_step {o : Oper} {rest : List Oper} {a : Act} {v : Value} (hw : Region.wanted o (yielded ops a.tmps) = true) (hv : ∀ w, S w → SteadyR P S v ((execOp a.eval o).run P w))
    (h : wpSteady P ops S Q rest (a.put o.dst v)) : wpSteady P ops S Q (o :: rest) a :=
  ⟨v, .inl ⟨hw, hv⟩, h⟩
theorem wpSteady_nil {a : Act} (h : ∀ w, S w → Q .normal a w) : wpSteady P ops S Q [] a := h
def upto (n i : Nat) : Array Bool := ((List.range n).map fun k => decide (k < i)).toArray
theorem upto_zero (n : Nat) : upto n 0 = Array.replicate n false := by
  apply Array.ext
  · simp [upto]
  · intro i h1 h2; simp [upto]
theorem upto_succ (n i : Nat) : (upto n i).setIfInBounds i true = upto n (i + 1) := by
  unfold upto
  rw [List.setIfInBounds_toArray]
  congr 1
  refine List.ext_getElem (by simp) fun k h1 h2 => ?_
  rw [List.getElem_set]
  by_cases e : i = k
  · subst e; simp
  · rw [if_neg e]
    simp only [List.getElem_map, List.getElem_range]
    exact Bool.eq_iff_iff.2 (by simp; omega)
/-- the text's order is one of the orders, and at each step the next operation may be carried out first -/
def regular (md : Region.Mode) (ops : Array Oper) : Bool :=
  Region.noSelect ops && (List.range ops.size).all (fun i => Region.free md ops (upto ops.size i) i && (Region.ready md ops (upto ops.size i)).contains i) && (Region.ready md ops (upto ops.size ops.size)).isEmpty
theorem wpAnyS_of_list (hreg : regular md ops = true) (hQ : ∀ (d : Tmp) v c a w, Q (.panic c) (a.put (some d) v) w → Q (.panic c) a w) :
    ∀ (rest : List Oper) (k : Nat) (a : Act), k + rest.length = ops.size → ops.toList.drop k = rest → wpSteady P ops S Q rest a → wpAnyS P md ops Q S rest.length (upto ops.size k) a := by
  simp only [regular, Bool.and_eq_true, List.all_eq_true, List.mem_range] at hreg
  obtain ⟨⟨hs, hall⟩, hend⟩ := hreg
  intro rest
  induction rest with
  | nil =>
    intro k a hk _ h
    have e : k = ops.size := by simpa using hk
    subst e
    exact ⟨by simpa using hend, h⟩
  | cons o rest ih =>
    intro k a hk hd h
    obtain ⟨v, hy, h⟩ := h
    have hlt : k < ops.size := by simp at hk; omega
    have hi : ops[k]? = some o := by
      have e : (ops.toList.drop k)[0]? = some o := by rw [hd]; rfl
      simpa using e
    refine wpAnyS_take hi hs (hall k hlt).1 (hall k hlt).2 (fun c a w hp => by
      cases hdst : o.dst with
      | none => rw [hdst] at hp; exact hp
      | some d => rw [hdst] at hp; exact hQ d v c a w hp) hy ?_
    rw [upto_succ]
    refine ih (k + 1) _ (by simp at hk; omega) ?_ h
    rw [← List.drop_drop, hd]
    rfl
theorem region_steady (S : World → Prop) {id : Nat} {a : Act} {w : World} (hm : P.follows .mixedOrders = true) (hreg : regular .any ops = true)
    (hQ : ∀ (d : Tmp) v c a w, Q (.panic c) (a.put (some d) v) w → Q (.panic c) a w) (hS : S w.drew)
    (h : wpSteady P ops S Q ops.toList a) : (Code.region id ops true).wp P Q a w :=
  wp_region_any hm (wpAny_of_steady _ _ _ _ hS (upto_zero ops.size ▸ wpAnyS_of_list hreg hQ ops.toList 0 a (by simp) (by simp) h))
end
end Go.Proofs.Ythfagiihfkjamaa
