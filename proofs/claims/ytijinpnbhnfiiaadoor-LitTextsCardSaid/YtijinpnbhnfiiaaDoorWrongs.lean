/- place.Wrong tells the first byte at which the plain walk finds that the bytes cease to be a text; -1, if it finds none. -/
import Derived.Test.YtijinpnbhnfiiaaDoorTabs
import Derived.Test.YtijinpnbhnfiiaaDoorBase
namespace Go.Proofs.YtijinpnbhnfiiaaDoor
open Go.RowKit

/-! ### What is left of a text behind a byte -/
def dropB (s : ByteArray) (p : Nat) : ByteArray := ⟨(s.data.toList.drop p).toArray⟩
theorem dropB_size (s : ByteArray) (p : Nat) : (dropB s p).size = s.size - p := by
  show (s.data.toList.drop p).toArray.size = _
  simp
theorem dropB_bt (s : ByteArray) (p k : Nat) (h : p + k < s.size) : bt (dropB s p) k = bt s (p + k) := by
  refine bt_of_list _ _ (UInt8.ofNat (bt s (p + k))) ?_ |>.trans (by have := bt_lt s (p + k); simp; omega)
  show (s.data.toList.drop p)[k]? = _
  rw [List.getElem?_drop, bt_list s (p + k) h]
theorem dropB_cont (s : ByteArray) (p i : Nat) : cont (dropB s p) 0 i = cont s p i := by
  unfold cont
  rw [dropB_size]
  rcases Nat.lt_or_ge (p + i) s.size with h | h
  · rw [Nat.zero_add, dropB_bt s p i h, decide_eq_true (show i < s.size - p by omega), decide_eq_true h]
  · rw [decide_eq_false (show ¬ 0 + i < s.size - p by omega), decide_eq_false (show ¬ p + i < s.size by omega)]
    simp
theorem dropB_dec (s : ByteArray) (p : Nat) (h : p < s.size) : Utf8.decode (dropB s p) 0 = Utf8.decode s p := by
  have v : ∀ i, cont (dropB s p) 0 i = true → bt (dropB s p) (0 + i) = bt s (p + i) := fun i hc => by
    rw [Nat.zero_add]
    exact dropB_bt s p i (cont_lt s p i (dropB_cont s p i ▸ hc))
  exact dec_same _ _ _ _ (dropB_bt s p 0 h) (dropB_cont s p 1) (v 1) (fun _ => dropB_cont s p 2) (fun _ => v 2) (fun _ _ => dropB_cont s p 3) (fun _ _ => v 3)
theorem dropB_go (s : ByteArray) (p : Nat) (h : p < s.size) : Lib.decodeGo (dropB s p) = (sig s p, wid s p) := by
  unfold Lib.decodeGo
  rw [if_neg (by rw [dropB_size]; omega), dropB_dec s p h]
  rfl

theorem broken_any (s : ByteArray) (b o cap p : Nat) (w : World) (hT : Tabs w) (hB : Lib.Bytes w b o s) (hp : p < s.size) :
    Calls Tryd.prog 46 #[.slice (some ⟨b, o + p, none⟩) (s.size - p) cap] w fun e w' => e = .returned (.bool (decide (wid s p = 1))) ∧ Below w.heap.size w w' := by
  have h := decodeRune_any (dropB s p) b (o + p) cap w hT (fun j hj => by
    rw [dropB_size] at hj
    rw [dropB_bt s p j (by omega), Nat.add_assoc]
    exact Text.byte hB (p + j) (by omega))
  rw [dropB_go s p hp, dropB_size] at h
  have H := Lib.hid h
  clear h hT hB
  go_enter Tryd.func46, Tryd.ntmps46
  go_wp2_with fail
  refine H.out.mono ?_
  rintro e w' ⟨rfl, hb⟩
  go_wp2
  go_ret
  refine ⟨?_, hb⟩
  show Ending.returned (.bool ((wid s p : Int) == 1)) = _
  congr 2
  rw [Bool.eq_iff_iff]
  simp
  omega

/-! ### The closure -/
def bad (s : ByteArray) (p : Nat) (r : Int) : Bool := r == 0 || (r == 65279 && decide (0 < p)) || (r == 65533 && decide (wid s p = 1))
theorem But.one {b : Nat} {u w : World} (h : But b u w) (v : Value) : But b u (w.setCell ⟨b, 0, none⟩ v) := h.setCell (.inr rfl) v
def wrClo (s : ByteArray) : Clo Int where
  go x p r _ _ := decide ((if bad s p r then (p : Int) else x) < 0)
  next x p r _ _ := if bad s p r then (p : Int) else x

/-- Where the walk from p on finds what is no text; -1: nowhere. -/
def wrongF (s : ByteArray) : Nat → Nat → Int
  | 0, _ => -1
  | f + 1, p => if p < s.size then (if bad s p (sig s p) then (p : Int) else wrongF s f (p + wid s p)) else -1
def wrongR (s : ByteArray) : Int := wrongF s s.size 0

theorem wrClo_run (s : ByteArray) : ∀ f p l c, s.size ≤ p + f → (wrClo s).run s f (-1) p l c = wrongF s f p
  | 0, p, l, c, hf => by
    rw [Clo.run, wrongF]
    have e : bad s s.size (-1) = false := by unfold bad; simp
    show (if bad s s.size (-1) = true then (s.size : Int) else -1) = _
    rw [e]; rfl
  | f + 1, p, l, c, hf => by
    rw [Clo.run, wrongF]
    have e : bad s s.size (-1) = false := by unfold bad; simp
    by_cases h : p < s.size
    · have hw := wid_pos s p
      rw [if_pos h, if_pos h]
      cases hb : bad s p (sig s p)
      · have e1 : (wrClo s).next (-1) p (sig s p) l c = -1 := by show (if bad s p (sig s p) = true then _ else _) = _; rw [hb]; rfl
        have e2 : (wrClo s).go (-1) p (sig s p) l c = true := by show decide ((if bad s p (sig s p) = true then _ else _) < 0) = _; rw [hb]; rfl
        rw [if_pos e2, e1]
        simp only [Bool.false_eq_true, if_false]
        exact wrClo_run s f _ _ _ (by omega)
      · have e1 : (wrClo s).next (-1) p (sig s p) l c = p := by show (if bad s p (sig s p) = true then _ else _) = _; rw [hb]; rfl
        have e2 : (wrClo s).go (-1) p (sig s p) l c = false := by show decide ((if bad s p (sig s p) = true then _ else _) < 0) = _; rw [hb]; simp
        rw [if_neg (by rw [e2]; simp), e1]
        simp
    · rw [if_neg h, if_neg h]
      show (if bad s s.size (-1) = true then (s.size : Int) else -1) = _
      rw [e]; rfl

def WrGood (ba bf : Nat) (a : Option Addr) (s : ByteArray) (cap : Nat) (x : Int) (w : World) : Prop :=
  w.heap[ba]? = some (.cells #[.slice a s.size cap] 33 (0, 0)) ∧ w.heap[bf]? = some (.cells #[.int .i64 x] 3 (0, 0)) ∧ Text w a s ∧ Tabs w

theorem Text.keep {w W : World} {a : Option Addr} {s : ByteArray} (h : Text w a s) (hk : 0 < s.size → ∀ b o, a = some ⟨b, o, none⟩ → b < w.heap.size → W.heap[b]? = w.heap[b]?) : Text W a s := by
  by_cases h0 : s.size = 0
  · exact .inl h0
  rcases h with h | ⟨b, o, rfl, hlt, h⟩
  · exact .inl h
  · have e := hk (by omega) b o rfl hlt
    refine .inr ⟨b, o, rfl, ?_, fun i hi => (World.cell?_of_block (w := w) e).trans (h i hi)⟩
    rw [Array.getElem?_eq_getElem hlt] at e
    exact lt_of_block e
theorem Tabs.keep {w W : World} (h : Tabs w) (h1 : W.heap[0]? = w.heap[0]?) (h2 : W.heap[1]? = w.heap[1]?) : Tabs W :=
  ⟨fun c hc => (World.cell?_of_block (w := w) (a := ⟨0, c, none⟩) h1).trans (h.1 c hc), fun i hi => ⟨(World.cell?_of_block (w := w) (a := ⟨1, 2 * i, none⟩) h2).trans (h.2 i hi).1, (World.cell?_of_block (w := w) (a := ⟨1, 2 * i + 1, none⟩) h2).trans (h.2 i hi).2⟩⟩
theorem Tabs.lt {w : World} (h : Tabs w) : 0 < w.heap.size ∧ 1 < w.heap.size := by
  have lt : ∀ {a : Addr} {v : Value}, w.cell? a = some v → a.block < w.heap.size := fun {a v} hc => by
    rcases Nat.lt_or_ge a.block w.heap.size with h' | h'
    · exact h'
    · simp [World.cell?, Array.getElem?_eq_none h'] at hc
  exact ⟨lt (h.1 0 (by omega)), lt (h.2 0 (by omega)).1⟩

set_option maxHeartbeats 400000 in
theorem wrClo_any (ba bf : Nat) (a : Option Addr) (s : ByteArray) (cap : Nat) (hcap : s.size ≤ cap) (hne : ba ≠ bf) (hbf : 0 < s.size → ∀ b o, a = some ⟨b, o, none⟩ → b ≠ bf) (x : Int) (p : Nat) (r : Int) (l c : Nat) (w : World) (hG : WrGood ba bf a s cap x w)
    (hT0 : bf ≠ 0 ∧ bf ≠ 1) (hr : (p < s.size ∧ r = (sig s p : Int)) ∨ (p = s.size ∧ r = -1)) :
    Calls Tryd.prog 45 #[.int .i64 p, .int .i32 r, .agg #[.int .i64 l, .int .i64 c], .pointer (some ⟨ba, 0, none⟩), .pointer (some ⟨bf, 0, none⟩)] w
      fun e w' => e = .returned (.bool ((wrClo s).go x p r l c)) ∧ WrGood ba bf a s cap ((wrClo s).next x p r l c) w' ∧ But bf w w' := by
  obtain ⟨ha, hf, ht, hT⟩ := hG
  have cf := cell_of_one hf
  have zf := free_of_one hf
  have ca := cell_of_one ha
  have hla := lt_of_block ha
  have hlf := lt_of_block hf
  have kb : ∀ w1 : World, But bf w w1 → ∀ y : Int, w1.heap[bf]? = some (.cells #[.int .i64 y] 3 (0, 0)) → WrGood ba bf a s cap y w1 := fun w1 hb y hy => by
    exact ⟨(hb.block ba hla hne).trans ha, hy, ht.keep (fun h0 b o e hlt => hb.block b hlt (hbf h0 b o e)), hT.keep (hb.block _ hT.lt.1 (Ne.symm hT0.1)) (hb.block _ hT.lt.2 (Ne.symm hT0.2))⟩
  have KB := Lib.hid kb
  have HT := Lib.hid ht
  have HTb := Lib.hid hT
  have HA := Lib.hid ha
  have HF := Lib.hid hf
  have HR := Lib.hid hr
  clear kb ht hT ha hf hr hbf hT0
  have fin_no : bad s p r = false → (wrClo s).go x p r l c = decide (x < 0) ∧ (wrClo s).next x p r l c = x := fun h => by
    constructor
    · show decide ((if bad s p r = true then _ else _) < 0) = _; rw [h]; rfl
    · show (if bad s p r = true then _ else _) = _; rw [h]; rfl
  have fin_yes : bad s p r = true → (wrClo s).go x p r l c = decide ((p : Int) < 0) ∧ (wrClo s).next x p r l c = p := fun h => by
    constructor
    · show decide ((if bad s p r = true then _ else _) < 0) = _; rw [h]; rfl
    · show (if bad s p r = true then _ else _) = _; rw [h]; rfl
  have FN := Lib.hid fin_no
  have FY := Lib.hid fin_yes
  clear fin_no fin_yes
  have hyes : ∀ y : Int, ((w.setCell ⟨bf, 0, none⟩ (.int .i64 y)).alloc (.cells #[.int .i64 l, .int .i64 c] 78)).heap[bf]? = some (.cells #[.int .i64 y] 3 (0, 0)) := fun y => by
    rw [Below.heap_alloc _ _ _ (by simpa [World.setCell] using hlf)]; exact one_setCell HF.out
  have hno : (w.alloc (.cells #[.int .i64 l, .int .i64 c] 78)).heap[bf]? = some (.cells #[.int .i64 x] 3 (0, 0)) := (Below.heap_alloc _ _ _ hlf).trans HF.out
  have HYES := Lib.hid hyes
  have HNO := Lib.hid hno
  clear hyes hno
  by_cases h1 : r = 0
  · have hb : Hid (bad s p r = true) := by show _ = _; unfold bad; simp [h1]
    have e1 : (r == 0) = true := by simp [h1]
    clear h1
    go_enter Tryd.func45, Tryd.ntmps45
    go_wp2
    go_ret
    have hbut := ((But.refl bf w).one (.int .i64 p)).alloc (.cells #[.int .i64 l, .int .i64 c] 78)
    exact ⟨by rw [(FY.out hb.out).1]; rfl, by rw [(FY.out hb.out).2]; exact KB.out _ hbut _ (HYES.out p), hbut⟩
  have e1 : (r == 0) = false := beq_eq_false_iff_ne.2 h1
  by_cases h2 : r = 65279
  · have e2 : (r == 65279) = true := by simp [h2]
    have e3 : (r == 65533) = false := by rw [h2]; decide
    by_cases h0 : 0 < p
    · have hb : Hid (bad s p r = true) := by show _ = _; unfold bad; simp [h2, h0]
      have d : (0 : Int) < p := by omega
      clear h1 h2
      go_enter Tryd.func45, Tryd.ntmps45
      go_wp2
      go_ret
      have hbut := ((But.refl bf w).one (.int .i64 p)).alloc (.cells #[.int .i64 l, .int .i64 c] 78)
      exact ⟨by rw [(FY.out hb.out).1]; rfl, by rw [(FY.out hb.out).2]; exact KB.out _ hbut _ (HYES.out p), hbut⟩
    · have hb : Hid (bad s p r = false) := by show _ = _; unfold bad; simp [h2, h0]
      have d : ¬ (0 : Int) < p := by omega
      clear h1 h2
      go_enter Tryd.func45, Tryd.ntmps45
      go_wp2
      go_ret
      have hbut := (But.refl bf w).alloc (.cells #[.int .i64 l, .int .i64 c] 78)
      exact ⟨by rw [(FN.out hb.out).1]; rfl, by rw [(FN.out hb.out).2]; exact KB.out _ hbut _ HNO.out, hbut⟩
  have e2 : (r == 65279) = false := beq_eq_false_iff_ne.2 h2
  by_cases h3 : r = 65533
  · have e3 : (r == 65533) = true := by simp [h3]
    have hp : p < s.size := by
      rcases HR.out with h | h
      · exact h.1
      · omega
    obtain ⟨b, o, rfl, hlt, hB⟩ : ∃ b o, a = some ⟨b, o, none⟩ ∧ b < w.heap.size ∧ Lib.Bytes w b o s := by
      rcases HT.out with h | h
      · omega
      · exact h
    have hW := (Below.refl w.heap.size w).alloc (Nat.le_refl _) (.cells #[.int .i64 l, .int .i64 c] 78)
    have K := broken_any s b o (cap - p) p _ (HTb.out.below hW) (fun i hi => (hW.cell (p := ⟨b, o + i, none⟩) hlt).trans (hB i hi)) hp
    have HK := Lib.hid K
    have HW := Lib.hid hW
    have d1 : (p : Int) ≤ (s.size : Int) := by omega
    have d2 : (p : Int) < (cap : Int) := by omega
    clear K hW hB hlt
    by_cases h4 : wid s p = 1
    · have hb : Hid (bad s p r = true) := by show _ = _; unfold bad; simp [h3, h4]
      have HD : Hid (decide (wid s p = 1) = true) := by show _ = _; simp [h4]
      clear h1 h2 h3 h4
      go_enter Tryd.func45, Tryd.ntmps45
      go_wp2_with fail
      refine HK.out.mono ?_
      rintro e w1 ⟨rfl, hb1⟩
      rw [HD.out]
      have hf1 := (hb1.block bf (by simp; omega)).trans HNO.out
      have hbw := (But.of_below (b := bf) (HW.out.trans (hb1.mono (by simp))))
      have g1 := cell_of_one hf1
      have g2 := free_of_one hf1
      have HF1 := Lib.hid hf1
      have HBW := Lib.hid hbw
      clear hb1 hf1 hbw
      go_wp2
      go_ret
      have hbut := HBW.out.one (.int .i64 p)
      exact ⟨by rw [(FY.out hb.out).1]; rfl, by rw [(FY.out hb.out).2]; exact KB.out _ hbut _ (one_setCell HF1.out), hbut⟩
    · have hb : Hid (bad s p r = false) := by show _ = _; unfold bad; simp [h3, h4]
      have HD : Hid (decide (wid s p = 1) = false) := by show _ = _; simp [h4]
      clear h1 h2 h3 h4
      go_enter Tryd.func45, Tryd.ntmps45
      go_wp2_with fail
      refine HK.out.mono ?_
      rintro e w1 ⟨rfl, hb1⟩
      rw [HD.out]
      have hf1 := (hb1.block bf (by simp; omega)).trans HNO.out
      have hbw := (But.of_below (b := bf) (HW.out.trans (hb1.mono (by simp))))
      have g1 := cell_of_one hf1
      have g2 := free_of_one hf1
      have HF1 := Lib.hid hf1
      have HBW := Lib.hid hbw
      clear hb1 hf1 hbw
      go_wp2
      go_ret
      exact ⟨by rw [(FN.out hb.out).1]; rfl, by rw [(FN.out hb.out).2]; exact KB.out _ HBW.out _ HF1.out, HBW.out⟩
  · have hb : Hid (bad s p r = false) := by show _ = _; unfold bad; simp [h1, h2, h3]
    have e3 : (r == 65533) = false := beq_eq_false_iff_ne.2 h3
    clear h1 h2 h3
    go_enter Tryd.func45, Tryd.ntmps45
    go_wp2
    go_ret
    have hbut := (But.refl bf w).alloc (.cells #[.int .i64 l, .int .i64 c] 78)
    exact ⟨by rw [(FN.out hb.out).1]; rfl, by rw [(FN.out hb.out).2]; exact KB.out _ hbut _ HNO.out, hbut⟩

theorem fits45 : ∀ args W, (callFunc 45 args).run Tryd.prog W = .ok (.enter 45 args) W := fun _ _ => by kernel_rfl

theorem wrong_any (s : ByteArray) (a : Option Addr) (cap : Nat) (w : World) (hs : s.size ≤ 1000000) (ht : Text w a s) (hT : Tabs w) (hcap : s.size ≤ cap) :
    Calls Tryd.prog 35 #[.slice a s.size cap] w fun e w' => e = .returned (.int .i64 (wrongR s)) ∧ Below w.heap.size w w' := by
  have hW : Below w.heap.size w ((w.alloc (.cells #[.slice a s.size cap] 33)).alloc (.cells #[.int .i64 (-1)] 3)) := ((Below.refl _ w).alloc (Nat.le_refl _) _).alloc (by simp) _
  have q1 : ((w.alloc (.cells #[.slice a s.size cap] 33)).alloc (.cells #[.int .i64 (-1)] 3)).heap[w.heap.size]? = some (.cells #[.slice a s.size cap] 33 (0, 0)) := by
    rw [Below.heap_alloc _ _ _ (by simp)]; exact heap_alloc_new _ _
  have q2 : ((w.alloc (.cells #[.slice a s.size cap] 33)).alloc (.cells #[.int .i64 (-1)] 3)).heap[w.heap.size + 1]? = some (.cells #[.int .i64 (-1)] 3 (0, 0)) := by
    have h := heap_alloc_new (w.alloc (.cells #[.slice a s.size cap] 33)) (.cells #[.int .i64 (-1)] 3)
    rw [World.size_alloc] at h; exact h
  have ht1 := ht.below hW
  have hT1 := hT.below hW
  have hlt := hT.lt
  have hab : 0 < s.size → ∀ b o, a = some ⟨b, o, none⟩ → b < w.heap.size := fun h0 b o h => by
    rcases ht with h' | ⟨b', o', h', hb', _⟩
    · omega
    · rw [h] at h'; cases h'; exact hb'
  have K := signs_any (wrClo s) (-1) 45 (.pointer (some ⟨w.heap.size, 0, none⟩)) (.pointer (some ⟨w.heap.size + 1, 0, none⟩)) (w.heap.size + 1) (WrGood w.heap.size (w.heap.size + 1) a s cap) s a cap _ hs (by simp) (fun W hW => (ht1.below hW).conv cap)
    (fun x W W' hx hsz hk => ⟨(hk _ (by simp <;> omega)).trans hx.1, (hk _ (by simp)).trans hx.2.1, hx.2.2.1.keep (fun h0 b o e _ => hk b (by have := hab h0 b o e; simp; omega)), hx.2.2.2.keep (hk _ (by simp <;> omega)) (hk _ (by simp <;> omega))⟩) ⟨q1, q2, ht1, hT1⟩ fits45
    (fun x p r l c W hx _ _ hr => wrClo_any w.heap.size (w.heap.size + 1) a s cap hcap (by omega) (fun h0 b o h => by have := hab h0 b o h; omega) x p r l c W hx (by omega) hr)
  have HK := Lib.hid K
  have HW := Lib.hid hW
  clear K ht hT hW q1 q2 ht1 hT1 hab
  go_enter Tryd.func35, Tryd.ntmps35
  go_wp2_with ((with_reducible refine HK.out.mono ?_); rintro e w' ⟨rfl, hG, hb⟩; have c0 := cell_of_one hG.2.1)
  go_ret
  refine ⟨?_, HW.out.trans (hb.below (by omega) (by simp; omega))⟩
  rw [wrClo_run s s.size 0 1 1 (by omega)]
  rfl
end Go.Proofs.YtijinpnbhnfiiaaDoor
