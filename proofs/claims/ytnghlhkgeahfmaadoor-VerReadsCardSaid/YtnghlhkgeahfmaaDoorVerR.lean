/- A range over a function whose each part is told with what lies in memory: what the body is told of it is had from the iterator. No program stands in it. -/
import Derived.RangeFuncNested
namespace Go.Proofs.YtnghlhkgeahfmaaDoor
open Go Go.RowKit
set_option linter.unusedVariables false

/-- How a round may end: it goes on, or the function returns; what lay from n0 on stands. -/
def endX (n0 : Nat) (I : Nat → World → Prop) (Ix : World → Prop) (k : Nat) (W : World) : Exit → Act → World → Prop
  | .normal, _, W' => (W.heap.size ≤ W'.heap.size ∧ ∀ j, n0 ≤ j → j < W.heap.size → W'.heap[j]? = W.heap[j]?) ∧ I (k + 1) W'
  | .ret, _, W' => (W.heap.size ≤ W'.heap.size ∧ ∀ j, n0 ≤ j → j < W.heap.size → W'.heap[j]? = W.heap[j]?) ∧ Ix W'
  | _, _, _ => False

theorem range_x {F : Fence} {n : Nat} {P : Program} {α : Type} {g : Operand} {ps : Array Tmp} {assign body : Code} {Q : Exit → Act → World → Prop} {a : Act} {w : World}
    (hro : F.round = none) (h1 : 1 ≤ n) {gf : Nat} {lb : Array Value} (hg : a.eval g = .func (.func gf) #[] lb) (hFg : F.fn gf) (eg : ∀ args w, (callFunc gf args).run P w = .ok (.enter gf args) w)
    (xs : List α) (enc : Nat → α → Value) (X : Nat → α → World → Prop) (M : World → Prop) (hps : ps.size = 1)
    (hseq : ∀ (l : Nat) (J : Nat → World → Prop) (Jx : World → Prop) (W : World), Below w.heap.size w W → (∀ k A B, J k A → Below A.heap.size A B → J k B) → (∀ k A, J k A → M A) →
      (∀ k b x W1, J k W1 → xs[k]? = some x → X b x W1 → YieldAt F (n - 1 - 1) P l #[enc b x] W1 fun e W' => (e = .returned (.bool true) ∧ J (k + 1) W') ∨ (e = .returned (.bool false) ∧ Jx W')) →
      J 0 W → CallsIn F (n - 1) P gf (#[.func (.yield l) #[] #[]] ++ lb) W fun e W' => (∃ v, e = .returned v) ∧ (J xs.length W' ∨ Jx W'))
    (hX : ∀ b x A k r o, X b x A → A.heap[k]? = some (.loop r) → X b x (A.putObj k o))
    (I : Nat → World → Prop) (Ix : World → Prop) (hI : ∀ k A B, I k A → Below w.heap.size A B → I k B) (hIx : ∀ A B, Ix A → Below w.heap.size A B → Ix B) (hM : ∀ k A, I k A → M A)
    (h0 : I 0 w) (a₁ : Nat → α → Act)
    (hassign : ∀ (l b : Nat) (x : α) (W : World) (K : Act → World → Prop), K (a₁ b x) W →
      assign.wpIn (F.inRound l) (n - 1 - 1) P (Exit.then K (fun _ _ _ => False)) { tmps := (ps.zip #[enc b x]).foldl (fun t (p, v) => t.setIfInBounds p v) a.tmps, defers := [] } W)
    (hbody : ∀ (l k b : Nat) (x : α) (W : World), I k W → xs[k]? = some x → X b x W → w.heap.size ≤ W.heap.size → body.wpIn (F.inRound l) (n - 1 - 1) P (endX w.heap.size I Ix k W) (a₁ b x) W)
    (hdone : ∀ W : World, I xs.length W → W.heap[w.heap.size]? = some (.deferred (some [])) → Q .normal { a with defers := { target := .collected w.heap.size, args := #[] } :: a.defers } W)
    (hstop : ∀ W : World, Ix W → W.heap[w.heap.size]? = some (.deferred (some [])) → Code.ret.wpIn F n P Q { a with defers := { target := .collected w.heap.size, args := #[] } :: a.defers } W) :
    (Code.rangeFunc g ps assign body).wpIn F n P Q a w := by
  refine wpIn_rangeFunc fun fn hfn => ?_
  rw [hro]
  obtain ⟨rec, hrec⟩ : ∃ rec : LoopState → Option Code → Loop, rec = fun st pe => { state := st, pending := pe, fn, tmps := a.tmps, params := ps, assign, body, defers := w.heap.size } := ⟨_, rfl⟩
  obtain ⟨L, hLe⟩ : ∃ L, L = w.heap.size + 1 := ⟨_, rfl⟩
  obtain ⟨W1, hW1⟩ : ∃ W1, (w.alloc (.deferred (some []))).alloc (.loop (rec .ready none)) = W1 := ⟨_, rfl⟩
  have hb1 : Below w.heap.size w W1 := by
    rw [← hW1]; exact ((Below.refl _ w).alloc (Nat.le_refl _) _).alloc (by simp) _
  have hL1 : W1.heap[L]? = some (.loop (rec .ready none)) := by
    rw [← hW1, hLe]; have := World.alloc_heap_new (w.alloc (.deferred (some []))) (.loop (rec .ready none)); rwa [World.size_alloc] at this
  have hD1 : W1.heap[w.heap.size]? = some (.deferred (some [])) := by
    rw [← hW1]; exact (Below.heap_alloc _ _ _ (by simp)).trans (World.alloc_heap_new w _)
  have stand : ∀ (A : World) (o : Obj) (r : Loop), A.heap[L]? = some (.loop r) → A.heap[w.heap.size]? = some (.deferred (some [])) →
      Below w.heap.size A (A.putObj L o) ∧ (A.putObj L o).heap[L]? = some o ∧ (A.putObj L o).heap[w.heap.size]? = some (.deferred (some [])) := fun A o r hl hd =>
    ⟨belowK_b (Nat.le_refl _) A L _ o (by omega) hl rfl rfl, World.putObj_heap_same (Array.getElem?_eq_some_iff.1 hl).1, (World.putObj_heap_other (by omega)).trans hd⟩
  refine ⟨L, [{ target := .collected w.heap.size, args := #[] }], W1, { target := .fn (.func gf) lb, args := #[.func (.yield L) #[] #[]] }, W1, gf, #[.func (.yield L) #[] #[]] ++ lb, W1, ?_, ?_, ?_, ?_, fun _ => h1, ?_⟩
  · rw [← hW1, hrec, hLe]; exact run_enterLoop_outer _ _ _ _ _
  · simp only [resolve, hg]
    simp [go_sem]
  · intro f' hf'; simp [Target.leads] at hf'; subst hf'; exact hFg
  · simp [invoke, go_sem, eg]
  refine (hseq L (fun k W => I k W ∧ W.heap[L]? = some (.loop (rec .ready none)) ∧ W.heap[w.heap.size]? = some (.deferred (some [])))
    (fun W => Ix W ∧ W.heap[L]? = some (.loop (rec .done (some .ret))) ∧ W.heap[w.heap.size]? = some (.deferred (some []))) W1 hb1 ?_ (fun k A h => hM k A h.1) ?_ ⟨hI _ _ _ h0 hb1, hL1, hD1⟩).mono ?_
  · rintro k A B ⟨hi, hl, hd⟩ hb
    have s1 := (Array.getElem?_eq_some_iff.1 hl).1
    exact ⟨hI k A B hi (hb.mono (by omega)), (hb.block L s1).trans hl, (hb.block _ (by omega)).trans hd⟩
  · rintro k b x W ⟨hi, hl, hd⟩ hx hXx
    have hy := run_yield (P := P) (args := #[enc b x]) hl (by rw [hrec]; exact hps.symm)
    rw [hrec] at hy
    refine ⟨fn, _, assign, body, hy, roundIn_of_wpIn hfn (hassign _ b x W _ ⟨_, run_beginRound hl (by rw [hrec]), ?_⟩)⟩
    have sW : L < W.heap.size := (Array.getElem?_eq_some_iff.1 hl).1
    obtain ⟨b2, l2, d2⟩ := stand W (.loop { rec .ready none with state := .busy }) _ hl hd
    have hs2 : L < (W.putObj L (.loop { rec .ready none with state := .busy })).heap.size := (Array.getElem?_eq_some_iff.1 l2).1
    refine wpIn_mono (hbody L k b x _ (hI k _ _ hi b2) hx (hX b x W L _ _ hXx hl) (Nat.le_trans (Nat.le_of_lt (by omega)) b2.size)) ?_
    generalize W.putObj L (.loop { rec .ready none with state := .busy }) = V at *
    intro e a3 W3 hp
    have close : ∀ jump : Option Code, (∀ j, w.heap.size ≤ j → j < V.heap.size → W3.heap[j]? = V.heap[j]?) →
        ∃ W4, (Instr.endRound L jump).run P W3 = .ok (.bool jump.isNone) W4 ∧ Below w.heap.size W3 W4 ∧ W4.heap[L]? = some (.loop (rec (if jump.isNone then .ready else .done) jump)) ∧ W4.heap[w.heap.size]? = some (.deferred (some [])) := fun jump hk => by
      have hl3 : W3.heap[L]? = _ := (hk L (by omega) hs2).trans l2
      have hd3 : W3.heap[w.heap.size]? = _ := (hk _ (Nat.le_refl _) (by omega)).trans d2
      obtain ⟨b4, l4, d4⟩ := stand W3 (.loop (rec (if jump.isNone then .ready else .done) jump)) _ hl3 hd3
      refine ⟨_, ?_, b4, l4, d4⟩
      have := run_endRound (P := P) jump hl3
      rw [hrec] at this ⊢
      exact this
    cases e with
    | normal =>
      obtain ⟨W4, h4, b4, l4, d4⟩ := close none hp.1.2
      exact ⟨_, W4, h4, .inl ⟨rfl, hI _ _ _ hp.2 b4, l4, d4⟩⟩
    | ret =>
      obtain ⟨W4, h4, b4, l4, d4⟩ := close (some .ret) hp.1.2
      exact ⟨_, W4, h4, .inr ⟨rfl, hIx _ _ hp.2 b4, l4, d4⟩⟩
    | exit id => exact hp.elim
    | goto t => exact hp.elim
    | panic ch => exact hp.elim
    | outgrown => exact hp.elim
  · rintro e W2 ⟨⟨v, rfl⟩, (⟨hi, hl, hd⟩ | ⟨hi, hl, hd⟩)⟩
    · obtain ⟨b4, l4, d4⟩ := stand W2 (.loop { rec .ready none with state := .exhausted }) _ hl hd
      refine ⟨none, _, ?_, hdone _ (hI _ _ _ hi b4) d4⟩
      have := run_endLoop (P := P) hl (by rw [hrec]; simp)
      rw [hrec] at this ⊢
      exact this
    · obtain ⟨b4, l4, d4⟩ := stand W2 (.loop { rec .done (some .ret) with state := .exhausted }) _ hl hd
      refine ⟨some .ret, _, ?_, hstop _ (hIx _ _ hi b4) d4⟩
      have := run_endLoop (P := P) hl (by rw [hrec]; simp)
      rw [hrec] at this ⊢
      exact this
end Go.Proofs.YtnghlhkgeahfmaaDoor
