/- demoticlaw03.LitLong: the walk. -/
import Derived.Test.YtnophgicbmamdaaDoorLit20
import Derived.Test.YtnophgicbmamdaaDoorText
import Derived.Deep.OwnRows
namespace Go.Proofs.YtnophgicbmamdaaDoor
open Go.RowKit
set_option linter.unusedVariables false

def repB (k : Nat) (c : UInt8) : ByteArray := ⟨Array.replicate k c⟩
theorem repB_size (k : Nat) (c : UInt8) : (repB k c).size = k := by show (Array.replicate k c).size = k; simp
theorem repB_bt (k : Nat) (c : UInt8) (i : Nat) (h : i < k) : bt (repB k c) i = c.toNat := by
  rw [bt_eq _ _ (by rw [repB_size]; exact h)]
  show ((Array.replicate k c)[i]'(by simpa using h)).toNat = _
  simp

theorem uint8_info : (Tryd.prog.info? 5).map (fun i => (i.zero, i.size, i.bytes)) = some (some (.int .u8 0), 1, 1) := by kernel_rfl

/-- A row of bytes of the call's own, of which the first i are c. -/
def Filled (w : World) (b k i : Nat) (c : Nat) : Prop := ∃ cur, w.heap[b]? = some (.cells cur 5 (0, 0)) ∧ cur.size = k ∧ (∀ j, j < k → ∃ x : Int, cur[j]? = some (.int .u8 x)) ∧ ∀ j, j < i → cur[j]? = some (.int .u8 c)

theorem cells_set {w : World} {b i : Nat} {cur : Array Value} {e : TypeId} (h : w.heap[b]? = some (.cells cur e (0, 0))) (v : Value) : (w.setCell ⟨b, i, none⟩ v).heap[b]? = some (.cells (cur.setIfInBounds i v) e (0, 0)) := by
  have hlt := lt_of_block h
  have h' : w.heap[b] = .cells cur e (0, 0) := by simpa [Array.getElem?_eq_getElem hlt] using h
  show (w.heap.modify b _)[b]? = _
  rw [Array.getElem?_eq_getElem (by simpa using hlt), Array.getElem_modify_self, h']
  rfl

theorem Filled.cell {w : World} {b k i c : Nat} (h : Filled w b k i c) (hi : i < k) : ∃ x : Int, w.cell? ⟨b, i, none⟩ = some (.int .u8 x) ∧ w.frozen? ⟨b, i, none⟩ = false := by
  obtain ⟨cur, h1, h2, h3, h4⟩ := h
  obtain ⟨x, hx⟩ := h3 i hi
  exact ⟨x, by simp [World.cell?, h1, hx], by simp [World.frozen?, h1]⟩
theorem Filled.store {w : World} {b k i c : Nat} (h : Filled w b k i c) (hi : i < k) : Filled (w.setCell ⟨b, i, none⟩ (.int .u8 c)) b k (i + 1) c := by
  obtain ⟨cur, h1, h2, h3, h4⟩ := h
  refine ⟨_, cells_set h1 _, by simpa using h2, fun j hj => ?_, fun j hj => ?_⟩
  · rw [Array.getElem?_setIfInBounds]
    by_cases e : i = j
    · subst e; exact ⟨c, by simp [h2, hi]⟩
    · rw [if_neg e]; exact h3 j hj
  · rw [Array.getElem?_setIfInBounds]
    by_cases e : i = j
    · subst e; simp [h2, hi]
    · rw [if_neg e]; exact h4 j (by omega)
theorem Filled.text {w : World} {b k c : Nat} (h : Filled w b k k c) (hc : c < 256) : Text w (some ⟨b, 0, none⟩) (repB k (UInt8.ofNat c)) := by
  obtain ⟨cur, h1, h2, h3, h4⟩ := h
  refine .inr ⟨b, 0, rfl, lt_of_block h1, fun i hi => ?_⟩
  rw [repB_size] at hi
  have e : (repB k (UInt8.ofNat c))[i]'(by rw [repB_size]; exact hi) = UInt8.ofNat c := by
    show (Array.replicate k (UInt8.ofNat c))[i]'(by simpa using hi) = _
    simp
  rw [e, Nat.zero_add]
  simp only [World.cell?, h1]
  simp [h4 i hi]
  omega

theorem made_filled (k c : Nat) (w : World) : Filled (w.alloc (.cells (madeCells #[.int .u8 0] k) 5)) w.heap.size k 0 c := by
  refine ⟨_, heap_alloc_new w _, by simp [madeCells], fun j hj => ⟨0, ?_⟩, fun j hj => by omega⟩
  have := congrArg (·[j]?) (toList_madeCells_one (.int .u8 0) k)
  simpa [List.getElem?_replicate, hj] using this
theorem made_zero (k : Nat) (w : World) : Filled (w.alloc (.cells (madeCells #[.int .u8 0] k) 5)) w.heap.size k k 0 := by
  refine ⟨_, heap_alloc_new w _, by simp [madeCells], fun j hj => ⟨0, ?_⟩, fun j hj => ?_⟩
  all_goals
    have := congrArg (·[j]?) (toList_madeCells_one (.int .u8 0) k)
    simpa [List.getElem?_replicate, hj] using this
theorem make_rep (k : Nat) (hk : k ≤ 100000) (w : World) : ∃ w', (Instr.makeSlice 33 (.int .i64 k) (.int .i64 k)).run Tryd.prog w = .ok (.slice (some ⟨w.heap.size, 0, none⟩) k k) w' ∧ Text w' (some ⟨w.heap.size, 0, none⟩) (repB k 0) ∧ Below w.heap.size w w' := by
  have h := run_make_row' (P := Tryd.prog) 33 5 (.int .u8 0) 1 Tryd.underlying33 uint8_info rfl .i64 .i64 k (by omega) (by omega)
  exact ⟨_, h w, (made_zero k w).text (by decide), (Below.refl _ _).alloc (Nat.le_refl _) _⟩
theorem txt_longer (k : Nat) (h : 65536 < k) : txtR (repB k 0) = (⟨#[]⟩, 12) := by unfold txtR; rw [repB_size, if_pos h]

set_option maxHeartbeats 2000000 in
set_option maxRecDepth 100000 in
theorem litlong_walk (n g : Int) (w : World) (hn : (Lit.int .u16 n).wf = true) (hg : (Lit.int .u8 g).wf = true) (hT : Tabs w) :
    Calls Tryd.prog 9 #[.int .u16 n, .int .u8 g] w fun e w' => e = .returned (.bool true) ∧ Below w.heap.size w w' := by
  have hn := bounds_u16 hn
  have hg := bounds_u8 hg
  obtain ⟨n, rfl⟩ : ∃ m : Nat, n = m := ⟨n.toNat, by omega⟩
  obtain ⟨g, rfl⟩ : ∃ m : Nat, g = m := ⟨g.toNat, by omega⟩
  have hn : n < 65536 := by omega
  have hg : g < 256 := by omega
  have HT := Lib.hid hT
  clear hT
  obtain ⟨k, hk⟩ : ∃ k : Nat, k = n % 210 + 1 := ⟨_, rfl⟩
  obtain ⟨f, hf⟩ : ∃ f : Nat, f = g % 9 + 1 := ⟨_, rfl⟩
  have hkI : ((n : Int) % 210 + 1) = (k : Int) := by omega
  have hfI : (49 + (g : Int) % 9) = ((48 + f : Nat) : Int) := by omega
  have hk1 : 1 ≤ k ∧ k ≤ 210 := by omega
  have hf1 : 1 ≤ f ∧ f ≤ 9 := by omega
  have hmk := run_make_row' (P := Tryd.prog) 33 5 (.int .u8 0) 1 Tryd.underlying33 uint8_info rfl .i64 .i64 k (by omega) (by omega)
  clear hk hf
  have HF0 := Lib.hid (made_filled k (48 + f) w)
  have HB0 := Lib.hid ((Below.refl w.heap.size w).alloc (Nat.le_refl _) (.cells (madeCells #[.int .u8 0] k) 5))
  go_enter Tryd.func9, Tryd.ntmps9
  go_wp2
  go_loopw [7] (fun v wr => ∃ i : Nat, v = .int .i64 i ∧ i ≤ k ∧ Hid (Below w.heap.size w wr) ∧ Hid (Filled wr w.heap.size k i (48 + f))) (fun v _ => k - (intOf v).toNat)
  case atStart => exact ⟨0, rfl, Nat.zero_le _, HB0, HF0⟩
  case round =>
    obtain ⟨i, rfl, hi, HBr, HFr⟩ := hrel
    by_cases hlt : i < k
    · have gi : decide (i < k) = true := decide_eq_true hlt
      obtain ⟨x, c0, f0⟩ := HFr.out.cell hlt
      have HFs := Lib.hid (HFr.out.store hlt)
      have HBs := Lib.hid (HBr.out.setCell (p := ⟨w.heap.size, i, none⟩) (Nat.le_refl _) (.int .u8 ((48 + f : Nat) : Int)))
      go_wp2
      go_roundw
      case rel => exact ⟨i + 1, by go_num, hlt, HBs.out, HFs.out⟩
      case measure => simp [intOf]; omega
    · have gi : decide (i < k) = false := decide_eq_false hlt
      obtain rfl : i = k := by omega
      have hz := repB_size i (UInt8.ofNat (48 + f))
      have htx := HFr.out.text (by omega)
      have kc1 := htx.conv i
      rw [hz] at kc1
      have HX := Lib.hid htx
      have hnb : i ≤ 200 → numR (repB i (UInt8.ofNat (48 + f))) = (repB i (UInt8.ofNat (48 + f)), 0) := fun h => num_same _ f hf1.1 hf1.2 (fun j hj => by
        rw [hz] at hj
        rw [repB_bt _ _ _ hj, UInt8.toNat_ofNat']
        omega) (by omega) (by omega)
      have hnl : 200 < i → numR (repB i (UInt8.ofNat (48 + f))) = (⟨#[]⟩, 12) := fun h => by unfold numR; rw [hz, if_pos h]
      have HNB := Lib.hid hnb
      have HNL := Lib.hid hnl
      clear htx hnb hnl hmk HF0 HB0 gi hlt
      generalize repB i (UInt8.ofNat (48 + f)) = s at *
      have HZ := Lib.hid hz
      clear hz
      go_wp2_with fail
      refine (num_any s wr).mono ?_
      rintro e w1 ⟨rfl, hb1⟩
      have HB1 := Lib.hid (HBr.out.trans (hb1.mono HBr.out.size))
      have HX1 := Lib.hid (HX.out.below hb1)
      clear hb1 HBr HX kc1 HFr
      obtain ⟨w2, hm2, ht2, hb2⟩ := make_rep 65537 (by omega) w1
      have hl2 := txt_longer 65537 (by omega)
      have hz2 := repB_size 65537 0
      have kc2 := ht2.conv 65537
      rw [hz2] at kc2
      rw [show ((65537 : Nat) : Int) = 65537 from rfl] at hm2
      have HB2 := Lib.hid (HB1.out.trans (hb2.mono HB1.out.size))
      have HX2 := Lib.hid (HX1.out.below hb2)
      have HT2 := Lib.hid (txt_any (repB 65537 0) w2 (HT.out.below HB2.out))
      rw [hl2] at HT2
      clear ht2 hb2 hl2 hz2 HB1 HX1
      generalize repB 65537 0 = z at *
      go_wp2_with fail
      refine HT2.out.mono ?_
      rintro e w3 ⟨rfl, hb3⟩
      have HB3 := Lib.hid (HB2.out.trans (hb3.mono HB2.out.size))
      have HX3 := Lib.hid (HX2.out.below hb3)
      clear hb3 HT2 HB2 HX2 hm2 kc2
      by_cases hbig : 200 < i
      · have gb : decide ((200 : Int) < i) = true := decide_eq_true (by omega)
        rw [HNL.out hbig]
        go_wp2_with fail
        refine (awake_any w3 (HT.out.below HB3.out)).mono ?_
        rintro e w4 ⟨rfl, hb4⟩
        have HB4 := Lib.hid (HB3.out.trans (hb4.mono HB3.out.size))
        clear hb4
        go_wp2
        go_ret
        exact ⟨rfl, HB4.out⟩
      · have gb : decide ((200 : Int) < i) = false := decide_eq_false (by omega)
        rw [HNB.out (by omega)]
        have kc3 := HX3.out.conv i
        rw [HZ.out] at kc3
        go_wp2_with fail
        refine (awake_any w3 (HT.out.below HB3.out)).mono ?_
        rintro e w4 ⟨rfl, hb4⟩
        have HB4 := Lib.hid (HB3.out.trans (hb4.mono HB3.out.size))
        clear hb4
        go_wp2
        go_ret
        exact ⟨rfl, HB4.out⟩
end Go.Proofs.YtnophgicbmamdaaDoor
