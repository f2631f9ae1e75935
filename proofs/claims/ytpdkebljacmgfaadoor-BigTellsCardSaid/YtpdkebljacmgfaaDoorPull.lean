/- A region that draws its order and holds calls whose results are addresses: what only reads is taken ahead, whatever comes between, as long as each operation leaves a world of a class in which the reads read the same. What is left comes up in its orders, few if any. No program stands in it. -/
import Derived.Deep.Quiet
import Derived.RegionTactic
namespace Go.Proofs.YtpdkebljacmgfaaDoor
open Go
set_option linter.unusedVariables false

/-- Operations that are no calls: each has a value, or ends. -/
def valueOp : Op → Bool
  | .move _ | .assign _ | .pick _ _ _ | .load _ _ | .binOp _ _ _ _ _ | .unOp _ _ _ | .build _ _ | .fieldAddr _ _ _ | .field _ _ _ | .indexAddr _ _ _ | .index _ _ _ | .extract _ _ | .convert _ _ _ | .slice _ _ _ _ _ => true
  | _ => false
theorem value_run {P : Program} {w : World} (s : Sem Value) (f : FuncId) (args : Array Value) (w' : World) : (do pure (Next.value (← s)) : Sem Next).run P w ≠ .ok (.enter f args) w' := by
  rw [Sem.run_bind]
  cases s.run P w with
  | ok a w2 => rw [Result.andThen, Sem.run_pure]; intro h; cases h
  | halt x w2 => intro h; cases h
theorem value_only {P : Program} {o : Oper} (h : valueOp o.op = true) (ρ : Operand → Value) (w : World) (f : FuncId) (args : Array Value) (w' : World) : (execOp ρ o).run P w ≠ .ok (.enter f args) w' := by
  unfold execOp
  cases ho : o.op
  all_goals (rw [ho] at h; first | cases h | skip)
  case move => intro h; cases h
  case assign => intro h; cases h
  case pick c a b =>
    simp only []
    rw [Sem.run_bind]
    cases (asBool (ρ c)).run P w with
    | ok a w2 => rw [Result.andThen, Sem.run_pure]; intro h; cases h
    | halt x w2 => intro h; cases h
  all_goals exact value_run _ f args w'

/-- In every world of the class it has the value v, and leaves that world. -/
def YieldsC (P : Program) (ops : Array Oper) (C : World → Prop) (o : Oper) (v : Value) (a : Act) : Prop :=
  (Region.wanted o (yielded ops a.tmps) = true ∧ ∀ w, C w → (execOp a.eval o).run P w = .ok (.value v) w ∨ ((execOp a.eval o).run P w = .ok .skip w ∧ v = undef)) ∨
  (Region.wanted o (yielded ops a.tmps) = false ∧ v = undef)
theorem YieldsC.of {P : Program} {ops : Array Oper} {C : World → Prop} {o : Oper} {v : Value} {a : Act} (hv : valueOp o.op = true) (h : YieldsIn P ops C o v a) : YieldsC P ops C o v a := by
  rcases h with ⟨hw, h⟩ | h
  · refine .inl ⟨hw, fun w hC => ?_⟩
    have h1 := h w hC
    have h2 := value_only (P := P) hv a.eval w
    unfold Oper.quietAt at h1
    generalize (execOp a.eval o).run P w = r at *
    cases r with
    | halt x w' => simp only [Oper.quietUpon] at h1
    | ok n w' =>
      cases n <;> simp only [Oper.quietUpon] at h1
      case value u => exact .inl (by rw [h1.1, h1.2])
      case skip => exact .inr ⟨by rw [h1.1], h1.2⟩
      case enter f args => exact absurd rfl (h2 f args w')
  · exact .inr h
theorem YieldsC.of_same {P : Program} {ops : Array Oper} {C : World → Prop} {o : Oper} {v : Value} {a a' : Act} (hy : YieldsC P ops C o v a) (he : execOp a'.eval o = execOp a.eval o) (hw : Region.wanted o (yielded ops a'.tmps) = Region.wanted o (yielded ops a.tmps)) : YieldsC P ops C o v a' := by
  unfold YieldsC at *
  rw [he, hw]
  exact hy
theorem YieldsC.wpOp {P : Program} {ops : Array Oper} {C : World → Prop} {Q : Exit → Act → World → Prop} {i : Nat} {o : Oper} {v : Value} {a : Act} (hi : ops[i]? = some o) (hy : YieldsC P ops C o v a) {K : Act → World → Prop} {w : World} (hC : C w) (h : K (a.put o.dst v) w) : wpOp P ops Q i K a w := by
  unfold Go.wpOp
  simp only [hi]
  rcases hy with ⟨hw, hv⟩ | ⟨hw, rfl⟩
  · rcases hv w hC with h1 | ⟨h1, rfl⟩
    · simp only [hw, if_true, Oper.wp, h1, Oper.upon]; exact .inl h
    · simp only [hw, if_true, Oper.wp, h1, Oper.upon]; exact .inl h
  · simp only [hw, Bool.false_eq_true, if_false]; exact h
theorem wpOp_putC {P : Program} {ops : Array Oper} {C : World → Prop} {Q : Exit → Act → World → Prop} {j : Nat} {x y : Oper} {v : Value} (hj : ops[j]? = some y) (hap : x.apart ops y = true) (hsx : ∀ cs b, x.op ≠ .select cs b) (hsy : ∀ cs b, y.op ≠ .select cs b)
    (hQ : ∀ c a w, Q (.panic c) (a.put x.dst v) w → Q (.panic c) a w) {K : Act → World → Prop} {a : Act} {w : World} (hy : YieldsC P ops C x v a) (h : wpOp P ops Q j K (a.put x.dst v) w) :
    wpOp P ops Q j (fun a' w' => YieldsC P ops C x v a' ∧ K (a'.put x.dst v) w') a w := by
  obtain ⟨h1, h2, h3⟩ := Oper.apart_spec hap
  have keep : ∀ (a : Act), YieldsC P ops C x v a → ∀ u, YieldsC P ops C x v (a.put y.dst u) := fun a hy u => hy.of_same (execOp_put x hsx a y.dst u h3) (wanted_put x a y.dst u h3)
  have keepD : ∀ d, YieldsC P ops C x v { a with defers := d :: a.defers } := fun d => hy.of_same rfl rfl
  have swap : ∀ u, (a.put y.dst u).put x.dst v = (a.put x.dst v).put y.dst u := fun u => (Act.put_comm a v u h2).symm
  unfold Go.wpOp at *
  simp only [hj] at *
  rw [wanted_put y a x.dst v h1] at h
  split
  · rename_i hw
    simp only [hw, if_true] at h
    rcases h with h | ⟨hasks, hlets⟩
    case inr => exact .inr ⟨by unfold Oper.asks at *; rw [execOp_put y hsy a x.dst v h1] at hasks; exact hasks, hlets⟩
    left
    unfold Oper.wp at *
    rw [execOp_put y hsy a x.dst v h1] at h
    generalize (execOp a.eval y).run P w = r at *
    cases r with
    | halt e w' =>
      cases e <;> simp only [Oper.upon] at h ⊢
      case panic u => exact hQ _ _ _ h
    | ok n w' =>
      cases n <;> simp only [Oper.upon] at h ⊢
      case value u => exact ⟨keep a hy u, by rw [swap]; exact h⟩
      case skip => exact ⟨keep a hy _, by rw [swap]; exact h⟩
      case defer d =>
        refine ⟨keep _ (keepD d) _, ?_⟩
        rw [← Act.put_comm _ v undef h2, ← Act.put_defers]
        exact h
      case enter f args =>
        refine Calls.mono h fun e w'' he => ?_
        cases e with
        | returned u => exact ⟨keep a hy u, by rw [swap]; exact he⟩
        | panicked c => exact hQ _ _ _ he
        | outgrown => exact he
      case row row args => exact Rows.mono h fun u w'' he => ⟨keep a hy u, by rw [swap]; exact he⟩
  · rename_i hw
    simp only [hw] at h
    exact ⟨keep a hy _, by rw [swap]; exact h⟩

/-- Whatever comes up, a world of the class is left. -/
def anyC (P : Program) (md : Region.Mode) (ops : Array Oper) (C : World → Prop) (Q : Exit → Act → World → Prop) : Nat → Array Bool → Act → World → Prop
  | 0, listed, a, w => Region.ready md ops listed = [] ∧ Q .normal a w
  | f + 1, listed, a, w => (Region.ready md ops listed = [] → Q .normal a w) ∧ ∀ i, i ∈ Region.ready md ops listed → wpOp P ops Q i (fun a' w' => C w' ∧ anyC P md ops C Q f (listed.setIfInBounds i true) a' w') a w
theorem any_of_anyC {P : Program} {md : Region.Mode} {ops : Array Oper} {C : World → Prop} {Q : Exit → Act → World → Prop} : ∀ (f : Nat) (listed : Array Bool) (a : Act) (w : World), anyC P md ops C Q f listed a w → wpAny P md ops Q f listed a w := by
  intro f
  induction f with
  | zero => intro listed a w h; exact h
  | succ f ih => intro listed a w h; exact ⟨h.1, fun i hi => wpOp_mono (fun a' w' h' => ih _ a' w' h'.2) (h.2 i hi)⟩

theorem anyC_first {P : Program} {md : Region.Mode} {ops : Array Oper} {C : World → Prop} {Q : Exit → Act → World → Prop} {i : Nat} {o : Oper} {v : Value} (ho : ops[i]? = some o) (hsel : ∀ (j : Nat) (o : Oper) cs b, ops[j]? = some o → o.op ≠ .select cs b)
    (hQ : ∀ c a w, Q (.panic c) (a.put o.dst v) w → Q (.panic c) a w) :
    ∀ (f : Nat) (listed : Array Bool) (a : Act) (w : World), C w →
      (∀ j oj, ops[j]? = some oj → j ≠ i → listed.getD j true = false → (∀ e ∈ oj.after, Region.binds md e = true → e.on ≠ i) → o.apart ops oj = true) →
      i ∈ Region.ready md ops listed → YieldsC P ops C o v a → anyC P md ops C Q f (listed.setIfInBounds i true) (a.put o.dst v) w → anyC P md ops C Q (f + 1) listed a w := by
  intro f
  induction f with
  | zero =>
    intro listed a w hC _ hr hy H
    refine ⟨fun h => (by rw [h] at hr; cases hr), fun j hj => ?_⟩
    by_cases e : j = i
    · subst e; exact hy.wpOp ho hC ⟨hC, H⟩
    · have := ready_mono hj e
      rw [H.1] at this
      cases this
  | succ f ih =>
    intro listed a w hC hfree hr hy H
    refine ⟨fun h => (by rw [h] at hr; cases hr), fun j hj => ?_⟩
    by_cases e : j = i
    · subst e; exact hy.wpOp ho hC ⟨hC, H⟩
    · have h1 := H.2 j (ready_mono hj e)
      obtain ⟨hjun, oj, hoj, hall⟩ := mem_ready.1 hj
      have hnot : ∀ e ∈ oj.after, Region.binds md e = true → e.on ≠ i := fun x hx hb heq => by
        have h1 := hall x hx hb
        have h0 := (mem_ready.1 hr).1
        rw [heq] at h1
        rcases Nat.lt_or_ge i listed.size with h' | h'
        · simp [h'] at h0 h1; rw [h0] at h1; cases h1
        · simp [Array.getElem?_eq_none h'] at h1
      refine wpOp_mono (fun a' w' h3 => ⟨h3.2.1, ih (listed.setIfInBounds j true) a' w' h3.2.1 (fun k ok hk hki hun hno => hfree k ok hk hki ?_ hno) (ready_mono hr (Ne.symm e)) h3.1 ?_⟩) (wpOp_putC hoj (hfree j oj hoj e hjun hnot) (fun cs b => hsel i o cs b ho) (fun cs b => hsel j oj cs b hoj) hQ hy h1)
      · by_cases hjk : j = k
        · subst hjk; exact hjun
        · rw [getD_set_ne true hjk] at hun; exact hun
      · rw [Array.setIfInBounds_comm _ _ e]
        exact h3.2.2

/-- May the first n operations be taken ahead, in their order? -/
def pullB (md : Region.Mode) (ops : Array Oper) : Nat → Nat → Array Bool → Bool
  | 0, _, _ => true
  | n + 1, k, listed => (match ops[k]? with | some o => valueOp o.op | none => false) && (Region.ready md ops listed).contains k && Region.free md ops listed k && pullB md ops n (k + 1) (listed.setIfInBounds k true)
/-- What is listed behind them. -/
def pulled : Nat → Nat → Array Bool → Array Bool
  | 0, _, listed => listed
  | n + 1, k, listed => pulled n (k + 1) (listed.setIfInBounds k true)

theorem anyC_pull {P : Program} {md : Region.Mode} {ops : Array Oper} {C : World → Prop} {Q : Exit → Act → World → Prop} {f : Nat} (hsel : Region.noSelect ops = true) (hQ : ∀ (d : Option Tmp) v c a w, Q (.panic c) (a.put d v) w → Q (.panic c) a w) :
    ∀ (l : List Oper) (k : Nat) (listed : Array Bool) (a : Act) (w : World), C w → (∀ j, j < l.length → l[j]? = ops[k + j]?) → pullB md ops l.length k listed = true →
      wpQuiet P ops C (fun a' => anyC P md ops C Q f (pulled l.length k listed) a' w) l a → anyC P md ops C Q (f + l.length) listed a w := by
  intro l
  induction l with
  | nil => intro k listed a w _ _ _ h; exact h
  | cons o l ih =>
    intro k listed a w hC hl hB h
    have h0 : ops[k]? = some o := by simpa using (hl 0 (by simp)).symm
    simp only [List.length_cons, pullB, h0, Bool.and_eq_true] at hB
    obtain ⟨⟨⟨hv, hr⟩, hf⟩, hB2⟩ := hB
    have hq : qOp P ops C k (wpQuiet P ops C (fun a' => anyC P md ops C Q f (pulled (o :: l).length k listed) a' w) l) a := by unfold qOp; simp only [h0]; exact h
    obtain ⟨v, hy, hK⟩ := yieldsIn_of_qOp h0 hq
    rw [List.length_cons, ← Nat.add_assoc]
    refine anyC_first h0 (Region.noSelect_spec hsel) (fun c a w => hQ _ _ c a w) (f + l.length) listed a w hC (Region.free_spec h0 hf) (by simpa using hr) (YieldsC.of hv hy) ?_
    refine ih (k + 1) _ _ w hC (fun j hj => ?_) hB2 hK
    have := hl (j + 1) (by simp; omega)
    simpa [Nat.add_assoc, Nat.add_comm 1 j] using this

/-- What is left comes up in the order of the text. -/
def wpC (P : Program) (ops : Array Oper) (C : World → Prop) (Q : Exit → Act → World → Prop) : List Oper → Act → World → Prop
  | [], a, w => Q .normal a w
  | o :: l, a, w => if Region.wanted o (yielded ops a.tmps) = true then o.wp P a w (fun a' w' => C w' ∧ wpC P ops C Q l a' w') Q else C w ∧ wpC P ops C Q l (a.put o.dst undef) w
def orderB (md : Region.Mode) (ops : Array Oper) : Nat → Nat → Array Bool → Bool
  | 0, _, listed => (Region.ready md ops listed).isEmpty
  | g + 1, k, listed => decide (Region.ready md ops listed = [k]) && orderB md ops g (k + 1) (listed.setIfInBounds k true)
theorem anyC_order {P : Program} {md : Region.Mode} {ops : Array Oper} {C : World → Prop} {Q : Exit → Act → World → Prop} : ∀ (l : List Oper) (k : Nat) (listed : Array Bool) (a : Act) (w : World), (∀ j, j < l.length → l[j]? = ops[k + j]?) → orderB md ops l.length k listed = true →
    wpC P ops C Q l a w → anyC P md ops C Q l.length listed a w := by
  intro l
  induction l with
  | nil => intro k listed a w _ hB h; exact ⟨by simpa [orderB] using hB, h⟩
  | cons o l ih =>
    intro k listed a w hl hB h
    have h0 : ops[k]? = some o := by simpa using (hl 0 (by simp)).symm
    simp only [List.length_cons, orderB, Bool.and_eq_true, decide_eq_true_eq] at hB
    refine ⟨fun h1 => (by rw [hB.1] at h1; cases h1), fun i hi => ?_⟩
    rw [hB.1] at hi
    obtain rfl : i = k := by simpa using hi
    have hl2 : ∀ j, j < l.length → l[j]? = ops[i + 1 + j]? := fun j hj => by
      have := hl (j + 1) (by simp; omega)
      simpa [Nat.add_assoc, Nat.add_comm 1 j] using this
    unfold Go.wpOp
    simp only [h0]
    rw [wpC] at h
    split
    · rename_i hw
      rw [if_pos hw] at h
      exact .inl (Oper.wp_mono (fun a' w' h' => ⟨h'.1, ih (i + 1) _ a' w' hl2 hB.2 h'.2⟩) h)
    · rename_i hw
      rw [if_neg hw] at h
      exact ⟨h.1, ih (i + 1) _ _ w hl2 hB.2 h.2⟩

theorem wpC_step {P : Program} {ops : Array Oper} {C : World → Prop} {Q : Exit → Act → World → Prop} {o : Oper} {l : List Oper} {a : Act} {w : World}
    (h : ∀ K : Act → World → Prop, (∀ a' w', C w' → wpC P ops C Q l a' w' → K a' w') → if Region.wanted o (yielded ops a.tmps) = true then o.wp P a w K Q else K (a.put o.dst undef) w) : wpC P ops C Q (o :: l) a w :=
  h _ (fun a' w' hc h' => ⟨hc, h'⟩)
theorem wpC_nil {P : Program} {ops : Array Oper} {C : World → Prop} {Q : Exit → Act → World → Prop} {a : Act} {w : World} (h : Q .normal a w) : wpC P ops C Q [] a w := h
theorem quiet_weak {P : Program} {ops : Array Oper} {C : World → Prop} {Q Q' : Act → Prop} (hQ : ∀ a, Q a → Q' a) : ∀ (l : List Oper) (a : Act), wpQuiet P ops C Q l a → wpQuiet P ops C Q' l a := by
  intro l
  induction l with
  | nil => intro a h; exact hQ a h
  | cons o l ih =>
    intro a h
    unfold wpQuiet at h ⊢
    split
    · rename_i hw
      rw [if_pos hw] at h
      exact Oper.quiet_mono ih h
    · rename_i hw
      rw [if_neg hw] at h
      exact ih _ h

/-- The whole: the first n operations only read (in the class), the others come up in their order behind them. -/
theorem wp_region_pull {P : Program} {C : World → Prop} {id : Nat} {Q : Exit → Act → World → Prop} {a : Act} {w : World} {l : List Oper} (n : Nat) (hm : P.follows .mixedOrders = true)
    (hB : (Region.noSelect l.toArray && decide (n ≤ l.length) && pullB .any l.toArray n 0 (Array.replicate l.toArray.size false) && orderB .any l.toArray (l.length - n) n (pulled n 0 (Array.replicate l.toArray.size false))) = true)
    (hQ : ∀ (d : Option Tmp) v c a w, Q (.panic c) (a.put d v) w → Q (.panic c) a w) (hC : C { w with drawn := w.drawn + 1 })
    (h : wpQuiet P l.toArray C (fun a' => wpC P l.toArray C Q (l.drop n) a' { w with drawn := w.drawn + 1 }) (l.take n) a) : (Code.region id l.toArray true).wp P Q a w := by
  simp only [Bool.and_eq_true, decide_eq_true_eq] at hB
  obtain ⟨⟨⟨hsel, hn⟩, hp⟩, ho⟩ := hB
  have e1 : (l.take n).length = n := by rw [List.length_take]; omega
  have e2 : (l.drop n).length = l.length - n := List.length_drop
  refine wp_region_any hm (any_of_anyC (C := C) _ _ _ _ ?_)
  have H := anyC_pull (md := .any) (f := l.length - n) hsel hQ (l.take n) 0 (Array.replicate l.toArray.size false) a _ hC (fun j hj => by
    have : j < n := by rw [e1] at hj; exact hj
    simp [this]) (by rw [e1]; exact hp) (quiet_weak (fun a' h' => by
      have := anyC_order (md := .any) (l.drop n) n (pulled n 0 (Array.replicate l.toArray.size false)) a' { w with drawn := w.drawn + 1 } (fun j hj => by simp [List.getElem?_drop]) (by rw [e2]; exact ho) h'
      rw [e2] at this
      rw [e1]
      exact this) _ _ h)
  rw [e1, show l.length - n + n = l.toArray.size by simp; omega] at H
  exact H
end Go.Proofs.YtpdkebljacmgfaaDoor
