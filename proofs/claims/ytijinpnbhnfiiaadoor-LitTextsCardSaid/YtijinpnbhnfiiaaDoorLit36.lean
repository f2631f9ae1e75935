/- The document's texts: Sign. -/
import Derived.Test.YtijinpnbhnfiiaaDoorLit35
import Derived.Test.YtijinpnbhnfiiaaDoorText
namespace Go.Proofs.YtijinpnbhnfiiaaDoor
open Go.RowKit
set_option linter.unusedVariables false

def signB (n : Nat) : ByteArray :=
  if 1114111 < n ∨ (55296 ≤ n ∧ n ≤ 57343) then ⟨#[]⟩
  else if n < 128 then ⟨#[UInt8.ofNat n]⟩
  else if n < 2048 then ⟨#[UInt8.ofNat (192 + n / 64), UInt8.ofNat (128 + n % 64)]⟩
  else if n < 65536 then ⟨#[UInt8.ofNat (224 + n / 4096), UInt8.ofNat (128 + n / 64 % 64), UInt8.ofNat (128 + n % 64)]⟩
  else ⟨#[UInt8.ofNat (240 + n / 262144), UInt8.ofNat (128 + n / 4096 % 64), UInt8.ofNat (128 + n / 64 % 64), UInt8.ofNat (128 + n % 64)]⟩
/-- Bytes as a slice. -/
def BytesEnd (w : World) (l : ByteArray) (e : Ending) (w' : World) : Prop := ∃ a cap, e = .returned (.slice a l.size cap) ∧ Text w' a l ∧ Below w.heap.size w w'

theorem byte_val (k : Nat) (h : k < 256) : Value.int .u8 (((UInt8.ofNat k).toNat : Nat) : Int) = .int .u8 (k : Int) := by
  rw [show (UInt8.ofNat k).toNat = k from by rw [UInt8.toNat_ofNat']; exact Nat.mod_eq_of_lt h]
theorem text_fresh (w : World) (l : List UInt8) (vs : Array Value) (T : TypeId) (h : vs = (l.map fun b => Value.int .u8 (b.toNat : Int)).toArray) : Text (w.alloc (.cells vs T)) (some ⟨w.heap.size, 0, none⟩) ⟨l.toArray⟩ := by
  refine .inr ⟨_, 0, rfl, by simp, fun i hi => ?_⟩
  subst h
  have hi' : i < l.length := by
    have : (ByteArray.mk l.toArray).size = l.length := by rw [ByteArray.size]; simp
    omega
  have hc : (w.alloc (.cells (l.map fun b => Value.int .u8 (b.toNat : Int)).toArray T)).heap[w.heap.size]? = some (.cells (l.map fun b => Value.int .u8 (b.toNat : Int)).toArray T) := (show (w.heap.push _)[w.heap.size]? = some _ from Array.getElem?_push_size)
  show (match (w.alloc (.cells (l.map fun b => Value.int .u8 (b.toNat : Int)).toArray T)).heap[w.heap.size]? with
    | some (.cells c _ _) => if (none : Option Nat).isSome then none else c[0 + i]?
    | _ => none) = _
  rw [hc, Nat.zero_add]
  show (l.map fun b => Value.int .u8 (b.toNat : Int)).toArray[i]? = _
  rw [List.getElem?_toArray, List.getElem?_map, List.getElem?_eq_getElem hi']
  rfl
theorem fresh_end (w : World) (l : List UInt8) (vs : Array Value) (T : TypeId) (cap : Nat) (h : vs = (l.map fun b => Value.int .u8 (b.toNat : Int)).toArray) (s : ByteArray) (hs : s = ⟨l.toArray⟩) : BytesEnd w s (.returned (.slice (some ⟨w.heap.size, 0, none⟩) l.length cap)) (w.alloc (.cells vs T)) := by
  subst hs
  refine ⟨_, cap, ?_, text_fresh w l vs T h, (Below.refl _ w).alloc (Nat.le_refl _) _⟩
  rw [show (ByteArray.mk l.toArray).size = l.length from by rw [ByteArray.size]; simp]

theorem refSign_none (w : World) : Calls Tryd.prog 40 #[.int .i64 (-1)] w fun e w' => e = .returned (.slice none 0 0) ∧ w = w' := by
  go_enter Tryd.func40, Tryd.ntmps40
  go_wp2
  go_ret
  exact ⟨rfl, rfl⟩

set_option maxHeartbeats 1000000 in
set_option maxRecDepth 1000000 in
theorem refSign_any (n : Nat) (hn : n < 4294967296) (w : World) : Calls Tryd.prog 40 #[.int .i64 n] w fun e w' => BytesEnd w (signB n) e w' := by
  have HS : Hid (signB n = if 1114111 < n ∨ (55296 ≤ n ∧ n ≤ 57343) then ⟨#[]⟩
  else if n < 128 then ⟨#[UInt8.ofNat n]⟩
  else if n < 2048 then ⟨#[UInt8.ofNat (192 + n / 64), UInt8.ofNat (128 + n % 64)]⟩
  else if n < 65536 then ⟨#[UInt8.ofNat (224 + n / 4096), UInt8.ofNat (128 + n / 64 % 64), UInt8.ofNat (128 + n % 64)]⟩
  else ⟨#[UInt8.ofNat (240 + n / 262144), UInt8.ofNat (128 + n / 4096 % 64), UInt8.ofNat (128 + n / 64 % 64), UInt8.ofNat (128 + n % 64)]⟩) := rfl
  by_cases h1 : 1114111 < n
  · have HE : Hid (signB n = ⟨#[]⟩) := by show _ = _; rw [HS.out, if_pos (.inl h1)]
    have g1 : decide ((1114111 : Int) < n) = true := decide_eq_true (by omega)
    go_enter Tryd.func40, Tryd.ntmps40
    go_wp2
    go_ret
    rw [HE.out]
    exact ⟨none, 0, rfl, .inl rfl, Below.refl _ w⟩
  have g1 : decide ((1114111 : Int) < n) = false := decide_eq_false (by omega)
  by_cases h2 : 55296 ≤ n ∧ n ≤ 57343
  · have HE : Hid (signB n = ⟨#[]⟩) := by show _ = _; rw [HS.out, if_pos (.inr h2)]
    have g2 : decide ((55296 : Int) ≤ n) = true := decide_eq_true (by omega)
    have g3 : decide ((n : Int) ≤ 57343) = true := decide_eq_true (by omega)
    go_enter Tryd.func40, Tryd.ntmps40
    go_wp2
    go_ret
    rw [HE.out]
    exact ⟨none, 0, rfl, .inl rfl, Below.refl _ w⟩
  have hg : decide ((55296 : Int) ≤ n) = false ∨ (decide ((55296 : Int) ≤ n) = true ∧ decide ((n : Int) ≤ 57343) = false) := by
    by_cases h : 55296 ≤ n
    · exact .inr ⟨decide_eq_true (by omega), decide_eq_false (by omega)⟩
    · exact .inl (decide_eq_false (by omega))
  by_cases h3 : n < 128
  · have HE : Hid (signB n = ⟨#[UInt8.ofNat n]⟩) := by show _ = _; rw [HS.out, if_neg (by omega), if_pos h3]
    clear HS
    go_enter Tryd.func40, Tryd.ntmps40
    go_wp2
    go_ret
    rw [HE.out]
    refine fresh_end w [UInt8.ofNat n] _ _ 1 ?_ _ rfl
    show _ = #[_]
    dsimp only
    rw [byte_val n (by omega)]
  by_cases h4 : n < 2048
  · have HE : Hid (signB n = ⟨#[UInt8.ofNat (192 + n / 64), UInt8.ofNat (128 + n % 64)]⟩) := by show _ = _; rw [HS.out, if_neg (by omega), if_neg h3, if_pos h4]
    clear HS
    go_enter Tryd.func40, Tryd.ntmps40
    go_wp2
    go_ret
    rw [HE.out]
    refine fresh_end w [UInt8.ofNat (192 + n / 64), UInt8.ofNat (128 + n % 64)] _ _ 2 ?_ _ rfl
    show _ = #[_, _]
    dsimp only
    rw [byte_val (192 + n / 64) (by omega), byte_val (128 + n % 64) (by omega)]
    rfl
  by_cases h5 : n < 65536
  · have HE : Hid (signB n = ⟨#[UInt8.ofNat (224 + n / 4096), UInt8.ofNat (128 + n / 64 % 64), UInt8.ofNat (128 + n % 64)]⟩) := by show _ = _; rw [HS.out, if_neg (by omega), if_neg h3, if_neg h4, if_pos h5]
    clear HS
    rcases hg with g2 | ⟨g2, g3⟩
    all_goals
      go_enter Tryd.func40, Tryd.ntmps40
      go_wp2
      go_ret
      rw [HE.out]
      refine fresh_end w [UInt8.ofNat (224 + n / 4096), UInt8.ofNat (128 + n / 64 % 64), UInt8.ofNat (128 + n % 64)] _ _ 3 ?_ _ rfl
      show _ = #[_, _, _]
      dsimp only
      rw [byte_val (224 + n / 4096) (by omega), byte_val (128 + n / 64 % 64) (by omega), byte_val (128 + n % 64) (by omega)]
      rfl
  · have HE : Hid (signB n = ⟨#[UInt8.ofNat (240 + n / 262144), UInt8.ofNat (128 + n / 4096 % 64), UInt8.ofNat (128 + n / 64 % 64), UInt8.ofNat (128 + n % 64)]⟩) := by show _ = _; rw [HS.out, if_neg (by omega), if_neg h3, if_neg h4, if_neg h5]
    clear HS
    have g2 : decide ((55296 : Int) ≤ n) = true := decide_eq_true (by omega)
    have g3 : decide ((n : Int) ≤ 57343) = false := decide_eq_false (by omega)
    go_enter Tryd.func40, Tryd.ntmps40
    go_wp2
    go_ret
    rw [HE.out]
    refine fresh_end w [UInt8.ofNat (240 + n / 262144), UInt8.ofNat (128 + n / 4096 % 64), UInt8.ofNat (128 + n / 64 % 64), UInt8.ofNat (128 + n % 64)] _ _ 4 ?_ _ rfl
    show _ = #[_, _, _, _]
    dsimp only
    rw [byte_val (240 + n / 262144) (by omega), byte_val (128 + n / 4096 % 64) (by omega), byte_val (128 + n / 64 % 64) (by omega), byte_val (128 + n % 64) (by omega)]
    rfl
end Go.Proofs.YtijinpnbhnfiiaaDoor
