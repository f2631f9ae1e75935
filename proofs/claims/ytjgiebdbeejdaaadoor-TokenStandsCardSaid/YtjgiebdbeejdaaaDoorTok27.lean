/- TokenLong: the walk. -/
import Derived.Test.YtjgiebdbeejdaaaDoorTok26
namespace Go.Proofs.YtjgiebdbeejdaaaDoor
open Go.RowKit Go.Joins
set_option linter.unusedVariables false

theorem uint8_info : (Tryd.prog.info? 5).map (fun i => (i.zero, i.size, i.bytes)) = some (some (.int .u8 0), 1, 1) := by kernel_rfl

/-- A row of bytes of the call's own, of which the first i are c. -/
def Filled (w : World) (b k i : Nat) (c : Nat) : Prop := ∃ cur, w.heap[b]? = some (.cells cur 5 (0, 0)) ∧ cur.size = k ∧ (∀ j, j < k → ∃ x : Int, cur[j]? = some (.int .u8 x)) ∧ ∀ j, j < i → cur[j]? = some (.int .u8 c)

theorem cells_set {w : World} {b i : Nat} {cur : Array Value} {e : TypeId} (h : w.heap[b]? = some (.cells cur e (0, 0))) (v : Value) : (w.setCell ⟨b, i, none⟩ v).heap[b]? = some (.cells (cur.setIfInBounds i v) e (0, 0)) := by
  have hlt := lt_of_block h
  have h' : w.heap[b] = .cells cur e (0, 0) := by simpa [Array.getElem?_eq_getElem hlt] using h
  show (w.heap.modify b _)[b]? = _
  rw [Array.getElem?_eq_getElem (by simpa using hlt), Array.getElem_modify_self, h']
  rfl

theorem Filled.cell {w : World} {b k i c : Nat} (h : Filled w b k i c) (hi : i < k) : ∃ x : Int, w.cell? ⟨b, i, none⟩ = some (.int .u8 x) ∧ w.frozen? ⟨b, i, none⟩ = false := by
  obtain ⟨cur, h1, h2, h3, h4⟩ := h
  obtain ⟨x, hx⟩ := h3 i hi
  exact ⟨x, by simp [World.cell?, h1, hx], by simp [World.frozen?, h1]⟩
theorem Filled.store {w : World} {b k i c : Nat} (h : Filled w b k i c) (hi : i < k) : Filled (w.setCell ⟨b, i, none⟩ (.int .u8 c)) b k (i + 1) c := by
  obtain ⟨cur, h1, h2, h3, h4⟩ := h
  refine ⟨_, cells_set h1 _, by simpa using h2, fun j hj => ?_, fun j hj => ?_⟩
  · rw [Array.getElem?_setIfInBounds]
    by_cases e : i = j
    · subst e; exact ⟨c, by simp [h2, hi]⟩
    · rw [if_neg e]; exact h3 j hj
  · rw [Array.getElem?_setIfInBounds]
    by_cases e : i = j
    · subst e; simp [h2, hi]
    · rw [if_neg e]; exact h4 j (by omega)
theorem Filled.text {w : World} {b k c : Nat} (h : Filled w b k k c) (hc : c < 256) : Text w (some ⟨b, 0, none⟩) (repB k (UInt8.ofNat c)) := by
  obtain ⟨cur, h1, h2, h3, h4⟩ := h
  refine .inr ⟨b, 0, rfl, lt_of_block h1, fun i hi => ?_⟩
  rw [repB_size] at hi
  have e : (repB k (UInt8.ofNat c))[i]'(by rw [repB_size]; exact hi) = UInt8.ofNat c := by
    show (Array.replicate k (UInt8.ofNat c))[i]'(by simpa using hi) = _
    simp
  rw [e, Nat.zero_add]
  simp only [World.cell?, h1]
  simp [h4 i hi]
  omega

set_option maxHeartbeats 2000000 in
set_option maxRecDepth 100000 in
theorem long_walk (n c : Int) (w : World) (hn : (Lit.int .u16 n).wf = true) (hc : (Lit.int .u8 c).wf = true) (hT : Tabs w) (hm : MaxLen w) :
    Calls Tryd.prog 9 #[.int .u16 n, .int .u8 c] w fun e w' => e = .returned (.bool true) ∧ Below w.heap.size w w' := by
  have hn := bounds_u16 hn
  have hc := bounds_u8 hc
  obtain ⟨n, rfl⟩ : ∃ m : Nat, n = m := ⟨n.toNat, by omega⟩
  obtain ⟨c, rfl⟩ : ∃ m : Nat, c = m := ⟨c.toNat, by omega⟩
  have hn : n < 65536 := by omega
  have hc : c < 256 := by omega
  have HT := Lib.hid hT
  have HM := Lib.hid hm
  clear hT hm
  obtain ⟨k, hk⟩ : ∃ k : Nat, k = 65530 + n % 12 := ⟨_, rfl⟩
  have hkI : (65530 + (n : Int) % 12) = (k : Int) := by omega
  have hk1 : 65530 ≤ k ∧ k ≤ 65541 := by omega
  have hmk := run_make_row' (P := Tryd.prog) 22 5 (.int .u8 0) 1 Tryd.underlying22 uint8_info rfl .i64 .i64 k (by omega) (by omega)
  clear hk
  go_enter Tryd.func9, Tryd.ntmps9
  have HF0 : Hid (Filled (w.alloc (.cells (madeCells #[.int .u8 0] k) 5)) w.heap.size k 0 c) := by
    refine ⟨_, heap_alloc_new w _, by simp [madeCells], fun j hj => ⟨0, ?_⟩, fun j hj => by omega⟩
    have := congrArg (·[j]?) (toList_madeCells_one (.int .u8 0) k)
    simpa [List.getElem?_replicate, hj] using this
  have HB0 := Lib.hid ((Below.refl w.heap.size w).alloc (Nat.le_refl _) (.cells (madeCells #[.int .u8 0] k) 5))
  go_wp2
  go_loopw [7] (fun v wr => ∃ i : Nat, v = .int .i64 i ∧ i ≤ k ∧ Hid (Below w.heap.size w wr) ∧ Hid (Filled wr w.heap.size k i c)) (fun v _ => k - (intOf v).toNat)
  case atStart => exact ⟨0, rfl, Nat.zero_le _, HB0, HF0⟩
  case round =>
    obtain ⟨i, rfl, hi, HBr, HFr⟩ := hrel
    by_cases hlt : i < k
    · have gi : decide (i < k) = true := decide_eq_true hlt
      obtain ⟨x, c0, f0⟩ := HFr.out.cell hlt
      have HFs := Lib.hid (HFr.out.store hlt)
      have HBs := Lib.hid (HBr.out.setCell (p := ⟨w.heap.size, i, none⟩) (Nat.le_refl _) (.int .u8 c))
      go_wp2
      go_roundw
      case rel => exact ⟨i + 1, by go_num, hlt, HBs.out, HFs.out⟩
      case measure => simp [intOf]; omega
    · have gi : decide (i < k) = false := decide_eq_false hlt
      obtain rfl : i = k := by omega
      have hz := repB_size i (UInt8.ofNat c)
      have htx := HFr.out.text hc
      have h1 := toks_any (repB i (UInt8.ofNat c)) _ i wr htx (HT.out.below HBr.out) (HM.out.below HBr.out) (by omega)
      unfold ToksEnds at h1
      rw [hz] at h1
      have H1 := Lib.hid h1
      have HX := Lib.hid htx
      clear h1 htx
      go_wp2_with fail
      refine H1.out.mono ?_
      rintro e w1 ⟨hb, vt, rfl, hrow⟩
      obtain ⟨a1, c1, rfl, hc1, hm1, hta⟩ := tokAt_of_row hrow
      have HB := Lib.hid (HBr.out.trans (hb.mono HBr.out.size))
      have HX1 := Lib.hid (HX.out.below hb)
      clear hb hrow hta H1
      by_cases hbig : 65536 < i
      · have gb : decide ((65536 : Int) < i) = true := decide_eq_true (by omega)
        have es := scan_longer (repB i (UInt8.ofNat c)) (by omega)
        have h2 := notes_any (repB i (UInt8.ofNat c)) _ i w1 HX1.out (HT.out.below HB.out) (HM.out.below HB.out) (by omega)
        unfold NotesEnds at h2
        rw [hz] at h2
        rw [es] at h2 ⊢
        have H2 := Lib.hid h2
        clear h2
        dsimp only [st0, List.length_nil] at *
        go_wp2_with fail
        refine H2.out.mono ?_
        rintro e w2 ⟨hb2, vn, rfl, hrow2⟩
        obtain ⟨a2, c2, rfl, -, -, -⟩ := tokAt_of_row hrow2
        have HB2 := Lib.hid (HB.out.trans (hb2.mono HB.out.size))
        clear hb2 hrow2
        go_wp2_with fail
        refine (awake_any w2 (HT.out.below HB2.out) (HM.out.below HB2.out)).mono ?_
        rintro e w3 ⟨rfl, hb3⟩
        have HB3 := Lib.hid (HB2.out.trans (hb3.mono HB2.out.size))
        clear hb3
        go_wp2
        go_ret
        exact ⟨rfl, HB3.out⟩
      · have gb : decide ((65536 : Int) < i) = false := decide_eq_false (by omega)
        have e12 := scan_err (repB i (UInt8.ofNat c)) (by omega)
        by_cases h97 : c = 97
        · subst h97
          obtain ⟨r1, r2⟩ := rep_scan i (by omega) (by omega)
          have r1' : (scanR (repB i (UInt8.ofNat 97))).err = 0 := r1
          have r2' : (scanR (repB i (UInt8.ofNat 97))).st.toks.length = 2 := r2
          rw [r1', r2']
          clear r1 r2 r1' r2' e12
          generalize scanR (repB i (UInt8.ofNat 97)) = o at *
          go_wp2_with fail
          refine (awake_any w1 (HT.out.below HB.out) (HM.out.below HB.out)).mono ?_
          rintro e w3 ⟨rfl, hb3⟩
          have HB3 := Lib.hid (HB.out.trans (hb3.mono HB.out.size))
          clear hb3
          go_wp2
          go_ret
          exact ⟨rfl, HB3.out⟩
        · have g97 : (((c : Nat) : Int) == 97) = false := beq_eq_false_iff_ne.2 (by omega)
          have g98 : (((c : Nat) : Int) != 97) = true := by rw [bne, g97]; rfl
          generalize scanR (repB i (UInt8.ofNat c)) = o at *
          obtain ⟨err, pos, at_, toks, notes⟩ := o
          dsimp only at *
          have g12 : (err == 12) = false := beq_eq_false_iff_ne.2 e12
          have g13 : (err != 12) = true := by rw [bne, g12]; rfl
          generalize toks.length = m at *
          clear h97
          go_wp2_with fail
          refine (awake_any w1 (HT.out.below HB.out) (HM.out.below HB.out)).mono ?_
          rintro e w3 ⟨rfl, hb3⟩
          have HB3 := Lib.hid (HB.out.trans (hb3.mono HB.out.size))
          clear hb3
          go_wp2
          go_ret
          exact ⟨rfl, HB3.out⟩
end Go.Proofs.YtjgiebdbeejdaaaDoor
