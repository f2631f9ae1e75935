/- What only reads is taken ahead, whichever operations these are; what is left comes up in one order. No program stands in it. -/
import Derived.Test.YtpdkebljacmgfaaDoorPull
namespace Go.Proofs.YtpdkebljacmgfaaDoor
open Go
set_option linter.unusedVariables false

/-- The operations of these numbers. -/
def sel (ops : List Oper) (l : List Nat) : List Oper := l.filterMap fun i => ops[i]?
def pullL (md : Region.Mode) (ops : Array Oper) : List Nat → Array Bool → Bool
  | [], _ => true
  | k :: l, listed => (match ops[k]? with | some o => valueOp o.op | none => false) && (Region.ready md ops listed).contains k && Region.free md ops listed k && pullL md ops l (listed.setIfInBounds k true)
def pulledL : List Nat → Array Bool → Array Bool
  | [], listed => listed
  | k :: l, listed => pulledL l (listed.setIfInBounds k true)
def orderL (md : Region.Mode) (ops : Array Oper) : List Nat → Array Bool → Bool
  | [], listed => (Region.ready md ops listed).isEmpty
  | k :: l, listed => decide (Region.ready md ops listed = [k]) && orderL md ops l (listed.setIfInBounds k true)

theorem anyC_pullL {P : Program} {md : Region.Mode} {C : World → Prop} {Q : Exit → Act → World → Prop} {f : Nat} {ops : List Oper} (hsel : Region.noSelect ops.toArray = true) (hQ : ∀ (d : Option Tmp) v c a w, Q (.panic c) (a.put d v) w → Q (.panic c) a w) :
    ∀ (l : List Nat) (listed : Array Bool) (a : Act) (w : World), C w → pullL md ops.toArray l listed = true →
      wpQuiet P ops.toArray C (fun a' => anyC P md ops.toArray C Q f (pulledL l listed) a' w) (sel ops l) a → anyC P md ops.toArray C Q (f + l.length) listed a w := by
  intro l
  induction l with
  | nil => intro listed a w _ _ h; exact h
  | cons k l ih =>
    intro listed a w hC hB h
    rw [pullL, Bool.and_eq_true, Bool.and_eq_true, Bool.and_eq_true] at hB
    obtain ⟨⟨⟨hv, hr⟩, hf⟩, hB2⟩ := hB
    cases h0 : ops.toArray[k]? with
    | none => rw [h0] at hv; cases hv
    | some o =>
      rw [h0] at hv
      have h0' : ops[k]? = some o := by simpa using h0
      rw [show sel ops (k :: l) = o :: sel ops l by simp [sel, h0']] at h
      have hq : qOp P ops.toArray C k (wpQuiet P ops.toArray C (fun a' => anyC P md ops.toArray C Q f (pulledL (k :: l) listed) a' w) (sel ops l)) a := by unfold qOp; simp only [h0]; exact h
      obtain ⟨v, hy, hK⟩ := yieldsIn_of_qOp h0 hq
      rw [List.length_cons, ← Nat.add_assoc]
      refine anyC_first h0 (Region.noSelect_spec hsel) (fun c a w => hQ _ _ c a w) (f + l.length) listed a w hC (Region.free_spec h0 hf) (by simpa using hr) (YieldsC.of hv hy) ?_
      exact ih _ _ w hC hB2 hK

theorem anyC_orderL {P : Program} {md : Region.Mode} {C : World → Prop} {Q : Exit → Act → World → Prop} {ops : List Oper} : ∀ (l : List Nat) (listed : Array Bool) (a : Act) (w : World), orderL md ops.toArray l listed = true →
    wpC P ops.toArray C Q (sel ops l) a w → anyC P md ops.toArray C Q l.length listed a w := by
  intro l
  induction l with
  | nil => intro listed a w hB h; exact ⟨by simpa [orderL] using hB, h⟩
  | cons k l ih =>
    intro listed a w hB h
    rw [orderL, Bool.and_eq_true, decide_eq_true_eq] at hB
    refine ⟨fun h1 => (by rw [hB.1] at h1; cases h1), fun i hi => ?_⟩
    rw [hB.1] at hi
    obtain rfl : i = k := by simpa using hi
    have hmem : i ∈ Region.ready md ops.toArray listed := by rw [hB.1]; simp
    obtain ⟨_, o, h0, _⟩ := mem_ready.1 hmem
    have h0' : ops[i]? = some o := by simpa using h0
    rw [show sel ops (i :: l) = o :: sel ops l by simp [sel, h0']] at h
    unfold Go.wpOp
    simp only [h0]
    rw [wpC] at h
    split
    · rename_i hw
      rw [if_pos hw] at h
      exact .inl (Oper.wp_mono (fun a' w' h' => ⟨h'.1, ih _ a' w' hB.2 h'.2⟩) h)
    · rename_i hw
      rw [if_neg hw] at h
      exact ⟨h.1, ih _ _ w hB.2 h.2⟩

/-- hs: what only reads (in the class); ts: the others, in the order in which they come up behind it. -/
theorem wp_region_pullL {P : Program} {C : World → Prop} {id : Nat} {Q : Exit → Act → World → Prop} {a : Act} {w : World} {l : List Oper} (hs ts : List Nat) (hm : P.follows .mixedOrders = true)
    (hB : (Region.noSelect l.toArray && decide (ts.length + hs.length = l.length) && pullL .any l.toArray hs (Array.replicate l.toArray.size false) && orderL .any l.toArray ts (pulledL hs (Array.replicate l.toArray.size false))) = true)
    (hQ : ∀ (d : Option Tmp) v c a w, Q (.panic c) (a.put d v) w → Q (.panic c) a w) (hC : C { w with drawn := w.drawn + 1 })
    (h : wpQuiet P l.toArray C (fun a' => wpC P l.toArray C Q (sel l ts) a' { w with drawn := w.drawn + 1 }) (sel l hs) a) : (Code.region id l.toArray true).wp P Q a w := by
  simp only [Bool.and_eq_true, decide_eq_true_eq] at hB
  obtain ⟨⟨⟨hsel, hn⟩, hp⟩, ho⟩ := hB
  refine wp_region_any hm (any_of_anyC (C := C) _ _ _ _ ?_)
  have H := anyC_pullL (md := .any) (f := ts.length) hsel hQ hs (Array.replicate l.toArray.size false) a _ hC hp (quiet_weak (fun a' h' => anyC_orderL (md := .any) ts _ a' { w with drawn := w.drawn + 1 } ho h') _ _ h)
  rw [hn, show l.length = l.toArray.size by simp] at H
  exact H
end Go.Proofs.YtpdkebljacmgfaaDoor
