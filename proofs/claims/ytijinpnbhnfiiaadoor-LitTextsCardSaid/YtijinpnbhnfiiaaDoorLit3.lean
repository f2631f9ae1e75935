/- package lit: quoted, Quote. -/
import Derived.Test.YtijinpnbhnfiiaaDoorLit2
import Derived.Test.YtijinpnbhnfiiaaDoorIdx
namespace Go.Proofs.YtijinpnbhnfiiaaDoor
open Go.RowKit
set_option linter.unusedVariables false

def hexT : ByteArray := ⟨#[48, 49, 50, 51, 52, 53, 54, 55, 56, 57, 97, 98, 99, 100, 101, 102]⟩
/-- A byte as it stands in a text that is written plainly. -/
def quotedB (c : Nat) : ByteArray := if c = 34 then ⟨#[92, 34]⟩ else if c = 92 then ⟨#[92, 92]⟩ else if c = 10 then ⟨#[92, 110]⟩ else if c = 9 then ⟨#[92, 116]⟩ else if 32 ≤ c ∧ c ≤ 126 then ⟨#[UInt8.ofNat c]⟩
  else ⟨#[92, 120]⟩ ++ hexT.extract (c / 16) (c / 16 + 1) ++ hexT.extract (c % 16) (c % 16 + 1)

theorem encode_small (c : Nat) (h : c < 128) : Utf8.encode (c : Int) = ⟨#[UInt8.ofNat c]⟩ := by
  have : ∀ k : Fin 128, Utf8.encode ((k.val : Nat) : Int) = ⟨#[UInt8.ofNat k.val]⟩ := by decide +kernel
  exact this ⟨c, h⟩

set_option maxRecDepth 100000 in
theorem quoted_any (c : Nat) (hc : c < 256) (w : World) : Calls Tryd.prog 26 #[.int .u8 c] w fun e w' => e = .returned (.string (quotedB c)) ∧ Below w.heap.size w w' := by
  by_cases c34 : c = 34
  · subst c34
    rw [show quotedB 34 = ⟨#[92, 34]⟩ from rfl]
    go_enter Tryd.func26, Tryd.ntmps26
    go_wp2
    go_ret
    exact ⟨rfl, Below.refl _ w⟩
  by_cases c92 : c = 92
  · subst c92
    rw [show quotedB 92 = ⟨#[92, 92]⟩ from rfl]
    go_enter Tryd.func26, Tryd.ntmps26
    go_wp2
    go_ret
    exact ⟨rfl, Below.refl _ w⟩
  by_cases c10 : c = 10
  · subst c10
    rw [show quotedB 10 = ⟨#[92, 110]⟩ from rfl]
    go_enter Tryd.func26, Tryd.ntmps26
    go_wp2
    go_ret
    exact ⟨rfl, Below.refl _ w⟩
  by_cases c9 : c = 9
  · subst c9
    rw [show quotedB 9 = ⟨#[92, 116]⟩ from rfl]
    go_enter Tryd.func26, Tryd.ntmps26
    go_wp2
    go_ret
    exact ⟨rfl, Below.refl _ w⟩
  have g34 : (((c : Nat) : Int) == 34) = false := beq_eq_false_iff_ne.2 (by omega)
  have g92 : (((c : Nat) : Int) == 92) = false := beq_eq_false_iff_ne.2 (by omega)
  have g10 : (((c : Nat) : Int) == 10) = false := beq_eq_false_iff_ne.2 (by omega)
  have g9 : (((c : Nat) : Int) == 9) = false := beq_eq_false_iff_ne.2 (by omega)
  have hI : ((c : Nat) : Int) < 256 := by omega
  by_cases hp : 32 ≤ c ∧ c ≤ 126
  · have he : quotedB c = ⟨#[UInt8.ofNat c]⟩ := by
      unfold quotedB
      rw [if_neg c34, if_neg c92, if_neg c10, if_neg c9, if_pos hp]
    have HE := Lib.hid (encode_small c (by omega))
    rw [he]
    have d1 : decide ((32 : Int) ≤ c) = true := decide_eq_true (by omega)
    have d2 : decide ((c : Int) ≤ 126) = true := decide_eq_true (by omega)
    go_enter Tryd.func26, Tryd.ntmps26
    go_wp2
    go_ret
    rw [HE.out]
    exact ⟨rfl, Below.refl _ w⟩
  · have he : quotedB c = ⟨#[92, 120]⟩ ++ hexT.extract (c / 16) (c / 16 + 1) ++ hexT.extract (c % 16) (c % 16 + 1) := by
      unfold quotedB
      rw [if_neg c34, if_neg c92, if_neg c10, if_neg c9, if_neg hp]
    rw [he]
    by_cases h32 : 32 ≤ c
    · have d1 : decide ((32 : Int) ≤ c) = true := decide_eq_true (by omega)
      have d2 : decide ((c : Int) ≤ 126) = false := decide_eq_false (by omega)
      go_enter Tryd.func26, Tryd.ntmps26
      go_wp2_with fail
      go_region
      all_goals
        go_wp2
        go_ret
        exact ⟨rfl, (Below.refl _ w).drew⟩
    · have d1 : decide ((32 : Int) ≤ c) = false := decide_eq_false (by omega)
      go_enter Tryd.func26, Tryd.ntmps26
      go_wp2_with fail
      go_region
      all_goals
        go_wp2
        go_ret
        exact ⟨rfl, (Below.refl _ w).drew⟩

theorem owns_below {B : Nat} {e : TypeId} {size : Nat} {v : Value} {n : Nat} {xs : List Value} {w W : World} (h : w.ownsRow B e size v n xs) (hb : Below w.heap.size w W) : W.ownsRow B e size v n xs := by
  refine ⟨h.1, ?_⟩
  rcases h.2 with h' | ⟨g, cap, cur, hv, hB, hg, r⟩
  · exact .inl h'
  · exact .inr ⟨g, cap, cur, hv, hB, (hb.block g (lt_of_block hg)).trans hg, r⟩
theorem bldAt_below {B b : Nat} {p : Value} {bs : List Value} {w W : World} (h : Lib.BuilderAt 46 5 B b p bs w) (hb : Below w.heap.size w W) : Lib.BuilderAt 46 5 B b p bs W := by
  obtain ⟨h1, v, h2, h3, h4⟩ := h
  exact ⟨h1, v, (hb.block b (lt_of_block h2)).trans h2, owns_below h3 hb, h4⟩
theorem Bld.below {B b : Nat} {bs : List Value} {w W : World} (h : Bld B b bs w) (hb : Below w.heap.size w W) : Bld B b bs W :=
  h.imp (fun h => bldAt_below h hb) (fun h => bldAt_below h hb)

/-- A text's parts, written plainly. -/
def quoteL (s : ByteArray) : Nat → Nat → List UInt8
  | 0, _ => []
  | k + 1, p => if p < s.size then (quotedB (bt s p)).data.toList ++ quoteL s k (p + 1) else []
def quoteB (s : ByteArray) : ByteArray := ⟨(34 :: (quoteL s s.size 0 ++ [34])).toArray⟩

theorem quotedB_size (c : Nat) (hc : c < 256) : (quotedB c).data.toList.length ≤ 4 := by
  have : ∀ k : Fin 256, (quotedB k.val).data.toList.length ≤ 4 := by decide +kernel
  exact this ⟨c, hc⟩

theorem bytes_str (l : List UInt8) (s : ByteArray) : Lib.byteCells l ++ Lib.strCells s = Lib.byteCells (l ++ s.data.toList) := by
  unfold Lib.byteCells Lib.strCells
  rw [List.map_append]

set_option maxHeartbeats 1000000 in
set_option maxRecDepth 100000 in
theorem quote_any (s : ByteArray) (hs : s.size ≤ 2000) (w : World) : Calls Tryd.prog 14 #[.string s] w fun e w' => e = .returned (.string (quoteB s)) ∧ Below w.heap.size w w' := by
  have HQ : Hid (quoteB s = ⟨(34 :: (quoteL s s.size 0 ++ [34])).toArray⟩) := rfl
  go_enter Tryd.func14, Tryd.ntmps14
  go_wp2_with fail
  have hf : Bld w.heap.size w.heap.size (Lib.byteCells []) (w.alloc (.cells #[.pointer none, .slice none 0 0] 46)) := Lib.fresh_isBuilder 46 5 w
  have HB0 := Lib.hid ((Below.refl w.heap.size w).alloc (Nat.le_refl _) (.cells #[.pointer none, .slice none 0 0] 46))
  refine (wbyte_any w.heap.size w.heap.size (Lib.byteCells []) 34 _ hf (by simp [Lib.byteCells]) HB0.out.size).mono ?_
  rintro e w1 ⟨rfl, hbl, hb⟩
  have HL : Hid (Bld w.heap.size w.heap.size (Lib.byteCells [34]) w1) := hbl
  have HB := Lib.hid (HB0.out.trans hb)
  clear hf HB0 hbl hb
  go_wp2
  go_loopw [8] (fun v wr => ∃ (i k : Nat) (l : List UInt8), v = .int .i64 i ∧ i ≤ s.size ∧ s.size ≤ i + k ∧ l.length ≤ 4 * i ∧ Hid (Bld w.heap.size w.heap.size (Lib.byteCells (34 :: l)) wr) ∧ Hid (Below w.heap.size w wr) ∧ Hid (l ++ quoteL s k i = quoteL s s.size 0)) (fun v _ => s.size - (intOf v).toNat)
  case atStart => exact ⟨0, s.size, [], rfl, Nat.zero_le _, by omega, by simp, HL, HB, rfl⟩
  case round =>
    obtain ⟨i, k, l, rfl, hi, hk, hl, HLr, HBr, HE⟩ := hrel
    by_cases hlt : i < s.size
    · have gi : decide (i < s.size) = true := decide_eq_true hlt
      obtain ⟨k, rfl⟩ : ∃ k', k = k' + 1 := ⟨k - 1, by omega⟩
      have eb := bt_eq s i hlt
      have hbl := bt_lt s i
      have hsz := quotedB_size (bt s i) hbl
      have HE2 : Hid ((l ++ (quotedB (bt s i)).data.toList) ++ quoteL s k (i + 1) = quoteL s s.size 0) := by
        show _ = _
        rw [← HE.out, quoteL, if_pos hlt, List.append_assoc]
      clear HE
      go_wp2_with fail
      rw [← eb]
      refine (quoted_any (bt s i) hbl wr).mono ?_
      rintro e w2 ⟨rfl, hb2⟩
      generalize quotedB (bt s i) = q at *
      have HL2 := Lib.hid (HLr.out.below hb2)
      have HB2 := Lib.hid (HBr.out.trans (hb2.mono HBr.out.size))
      clear hb2 eb
      have hq : q.size ≤ 4 := hsz
      go_wp2_with fail
      refine (wstring_any w.heap.size w.heap.size (Lib.byteCells (34 :: l)) q w2 HL2.out (by rw [Lib.byteCells_length]; simp; omega) HB2.out.size).mono ?_
      rintro e w3 ⟨rfl, hbl3, hb3⟩
      rw [bytes_str] at hbl3
      have HL3 : Hid (Bld w.heap.size w.heap.size (Lib.byteCells (34 :: (l ++ q.data.toList))) w3) := hbl3
      have HB3 := Lib.hid (HB2.out.trans hb3)
      clear hbl3 hb3
      go_wp2
      go_roundw
      case rel => exact ⟨i + 1, k, l ++ q.data.toList, by go_num, hlt, by omega, by rw [List.length_append]; omega, HL3.out, HB3.out, HE2.out⟩
      case measure => simp [intOf]; omega
    · have gi : decide (i < s.size) = false := decide_eq_false hlt
      have HE3 : Hid (l = quoteL s s.size 0) := by
        show _ = _
        rw [← HE.out]
        cases k with
        | zero => rw [quoteL, List.append_nil]
        | succ k => rw [quoteL, if_neg hlt, List.append_nil]
      clear HE
      go_wp2_with fail
      refine (wbyte_any w.heap.size w.heap.size (Lib.byteCells (34 :: l)) 34 wr HLr.out (by rw [Lib.byteCells_length]; simp; omega) HBr.out.size).mono ?_
      rintro e w3 ⟨rfl, hbl3, hb3⟩
      have HL3 : Hid (Bld w.heap.size w.heap.size (Lib.byteCells (34 :: (l ++ [34]))) w3) := by
        have e : Lib.byteCells (34 :: l) ++ [Value.int .u8 34] = Lib.byteCells (34 :: (l ++ [34])) := by
          show _ = Lib.byteCells ((34 :: l) ++ [34])
          unfold Lib.byteCells
          rw [List.map_append]
          rfl
        rw [← e]
        exact hbl3
      have HB3 := Lib.hid (HBr.out.trans hb3)
      clear hbl3 hb3
      go_wp2_with fail
      refine (Tryd.Builder_String_any w.heap.size w.heap.size (34 :: (l ++ [34])) w3 HL3.out HB3.out.size).mono ?_
      rintro e w4 ⟨rfl, hb4⟩
      have HB4 := Lib.hid (HB3.out.trans hb4)
      clear hb4
      go_wp2
      go_ret
      rw [HQ.out, ← HE3.out]
      exact ⟨rfl, HB4.out⟩
end Go.Proofs.YtijinpnbhnfiiaaDoor
