/- package lit: split, grown, written. -/
import Derived.Test.YtijinpnbhnfiiaaDoorLit3
import Derived.OwnWalk
import Derived.Laws.OwnMore
namespace Go.Proofs.YtijinpnbhnfiiaaDoor
open Go.RowKit
set_option linter.unusedVariables false

/-- In which base a number is written, and where its digits begin. -/
def splitN (s : ByteArray) : Nat × Nat := if s.size < 2 ∨ bt s 0 ≠ 48 then (10, 0) else if bt s 1 = 120 ∨ bt s 1 = 88 then (16, 2) else if bt s 1 = 98 ∨ bt s 1 = 66 then (2, 2) else if bt s 1 = 111 ∨ bt s 1 = 79 then (8, 2) else (8, 1)
theorem extract_whole (s : ByteArray) : s.extract 0 s.size = s := by
  apply ByteArray.ext
  simp

def SplitEnds (s : ByteArray) (r : Nat × Nat) (w : World) (e : Ending) (w' : World) : Prop := e = .returned (.tuple #[.int .i64 r.1, .string (s.extract r.2 s.size)]) ∧ Below w.heap.size w w'

set_option maxRecDepth 100000 in
theorem split_short (s : ByteArray) (h : s.size < 2) (w : World) : Calls Tryd.prog 30 #[.string s] w fun e w' => SplitEnds s (splitN s) w e w' := by
  have hr : splitN s = (10, 0) := by unfold splitN; rw [if_pos (.inl h)]
  rw [hr]
  have g : decide ((s.size : Int) < 2) = true := decide_eq_true (by omega)
  go_enter Tryd.func30, Tryd.ntmps30
  go_wp2
  go_ret2
  exact ⟨by rw [extract_whole]; rfl, Below.refl _ w⟩

set_option maxRecDepth 100000 in
theorem split_ten (s : ByteArray) (h : 2 ≤ s.size) (h0 : bt s 0 ≠ 48) (w : World) : Calls Tryd.prog 30 #[.string s] w fun e w' => SplitEnds s (splitN s) w e w' := by
  have hr : splitN s = (10, 0) := by unfold splitN; rw [if_pos (.inr h0)]
  rw [hr]
  have g : decide ((s.size : Int) < 2) = false := decide_eq_false (by omega)
  have hp : 0 < s.size := by omega
  rw [bt_eq s 0 hp] at h0
  have g0 : (((s[0].toNat : Nat) : Int) == 48) = false := beq_eq_false_iff_ne.2 (by omega)
  clear h0
  go_enter Tryd.func30, Tryd.ntmps30
  go_wp2
  go_ret2
  exact ⟨by rw [extract_whole]; rfl, Below.refl _ w⟩

set_option maxRecDepth 100000 in
theorem split_120 (s : ByteArray) (h : 2 ≤ s.size) (h0 : bt s 0 = 48) (h1 : bt s 1 = 120) (w : World) : Calls Tryd.prog 30 #[.string s] w fun e w' => SplitEnds s (splitN s) w e w' := by
  have hr : splitN s = (16, 2) := by unfold splitN; rw [if_neg (by omega), h1]; rfl
  rw [hr]
  have g : decide ((s.size : Int) < 2) = false := decide_eq_false (by omega)
  have hp : 0 < s.size := by omega
  have hp1 : 1 < s.size := by omega
  rw [bt_eq s 0 hp] at h0
  rw [bt_eq s 1 hp1] at h1
  go_enter Tryd.func30, Tryd.ntmps30
  go_wp2_with fail
  go_region
  all_goals
    go_wp2
    go_ret2
    exact ⟨rfl, (Below.refl _ w).drew⟩

set_option maxRecDepth 100000 in
theorem split_88 (s : ByteArray) (h : 2 ≤ s.size) (h0 : bt s 0 = 48) (h1 : bt s 1 = 88) (w : World) : Calls Tryd.prog 30 #[.string s] w fun e w' => SplitEnds s (splitN s) w e w' := by
  have hr : splitN s = (16, 2) := by unfold splitN; rw [if_neg (by omega), h1]; rfl
  rw [hr]
  have g : decide ((s.size : Int) < 2) = false := decide_eq_false (by omega)
  have hp : 0 < s.size := by omega
  have hp1 : 1 < s.size := by omega
  rw [bt_eq s 0 hp] at h0
  rw [bt_eq s 1 hp1] at h1
  go_enter Tryd.func30, Tryd.ntmps30
  go_wp2_with fail
  go_region
  all_goals
    go_wp2
    go_ret2
    exact ⟨rfl, (Below.refl _ w).drew⟩

set_option maxRecDepth 100000 in
theorem split_98 (s : ByteArray) (h : 2 ≤ s.size) (h0 : bt s 0 = 48) (h1 : bt s 1 = 98) (w : World) : Calls Tryd.prog 30 #[.string s] w fun e w' => SplitEnds s (splitN s) w e w' := by
  have hr : splitN s = (2, 2) := by unfold splitN; rw [if_neg (by omega), h1]; rfl
  rw [hr]
  have g : decide ((s.size : Int) < 2) = false := decide_eq_false (by omega)
  have hp : 0 < s.size := by omega
  have hp1 : 1 < s.size := by omega
  rw [bt_eq s 0 hp] at h0
  rw [bt_eq s 1 hp1] at h1
  go_enter Tryd.func30, Tryd.ntmps30
  go_wp2_with fail
  go_region
  all_goals
    go_wp2
    go_ret2
    exact ⟨rfl, (Below.refl _ w).drew⟩

set_option maxRecDepth 100000 in
theorem split_66 (s : ByteArray) (h : 2 ≤ s.size) (h0 : bt s 0 = 48) (h1 : bt s 1 = 66) (w : World) : Calls Tryd.prog 30 #[.string s] w fun e w' => SplitEnds s (splitN s) w e w' := by
  have hr : splitN s = (2, 2) := by unfold splitN; rw [if_neg (by omega), h1]; rfl
  rw [hr]
  have g : decide ((s.size : Int) < 2) = false := decide_eq_false (by omega)
  have hp : 0 < s.size := by omega
  have hp1 : 1 < s.size := by omega
  rw [bt_eq s 0 hp] at h0
  rw [bt_eq s 1 hp1] at h1
  go_enter Tryd.func30, Tryd.ntmps30
  go_wp2_with fail
  go_region
  all_goals
    go_wp2
    go_ret2
    exact ⟨rfl, (Below.refl _ w).drew⟩

set_option maxRecDepth 100000 in
theorem split_111 (s : ByteArray) (h : 2 ≤ s.size) (h0 : bt s 0 = 48) (h1 : bt s 1 = 111) (w : World) : Calls Tryd.prog 30 #[.string s] w fun e w' => SplitEnds s (splitN s) w e w' := by
  have hr : splitN s = (8, 2) := by unfold splitN; rw [if_neg (by omega), h1]; rfl
  rw [hr]
  have g : decide ((s.size : Int) < 2) = false := decide_eq_false (by omega)
  have hp : 0 < s.size := by omega
  have hp1 : 1 < s.size := by omega
  rw [bt_eq s 0 hp] at h0
  rw [bt_eq s 1 hp1] at h1
  go_enter Tryd.func30, Tryd.ntmps30
  go_wp2_with fail
  go_region
  all_goals
    go_wp2
    go_ret2
    exact ⟨rfl, (Below.refl _ w).drew⟩

set_option maxRecDepth 100000 in
theorem split_79 (s : ByteArray) (h : 2 ≤ s.size) (h0 : bt s 0 = 48) (h1 : bt s 1 = 79) (w : World) : Calls Tryd.prog 30 #[.string s] w fun e w' => SplitEnds s (splitN s) w e w' := by
  have hr : splitN s = (8, 2) := by unfold splitN; rw [if_neg (by omega), h1]; rfl
  rw [hr]
  have g : decide ((s.size : Int) < 2) = false := decide_eq_false (by omega)
  have hp : 0 < s.size := by omega
  have hp1 : 1 < s.size := by omega
  rw [bt_eq s 0 hp] at h0
  rw [bt_eq s 1 hp1] at h1
  go_enter Tryd.func30, Tryd.ntmps30
  go_wp2_with fail
  go_region
  all_goals
    go_wp2
    go_ret2
    exact ⟨rfl, (Below.refl _ w).drew⟩

set_option maxRecDepth 100000 in
theorem split_else (s : ByteArray) (h : 2 ≤ s.size) (h0 : bt s 0 = 48) (h1 : bt s 1 ≠ 120 ∧ bt s 1 ≠ 88 ∧ bt s 1 ≠ 98 ∧ bt s 1 ≠ 66 ∧ bt s 1 ≠ 111 ∧ bt s 1 ≠ 79) (w : World) : Calls Tryd.prog 30 #[.string s] w fun e w' => SplitEnds s (splitN s) w e w' := by
  have hr : splitN s = (8, 1) := by unfold splitN; rw [if_neg (by omega), if_neg (by omega), if_neg (by omega), if_neg (by omega)]
  rw [hr]
  have g : decide ((s.size : Int) < 2) = false := decide_eq_false (by omega)
  have hp : 0 < s.size := by omega
  have hp1 : 1 < s.size := by omega
  rw [bt_eq s 0 hp] at h0
  rw [bt_eq s 1 hp1] at h1
  have g120 : (((s[1].toNat : Nat) : Int) == 120) = false := beq_eq_false_iff_ne.2 (by omega)
  have g88 : (((s[1].toNat : Nat) : Int) == 88) = false := beq_eq_false_iff_ne.2 (by omega)
  have g98 : (((s[1].toNat : Nat) : Int) == 98) = false := beq_eq_false_iff_ne.2 (by omega)
  have g66 : (((s[1].toNat : Nat) : Int) == 66) = false := beq_eq_false_iff_ne.2 (by omega)
  have g111 : (((s[1].toNat : Nat) : Int) == 111) = false := beq_eq_false_iff_ne.2 (by omega)
  have g79 : (((s[1].toNat : Nat) : Int) == 79) = false := beq_eq_false_iff_ne.2 (by omega)
  clear h1
  go_enter Tryd.func30, Tryd.ntmps30
  go_wp2_with fail
  go_region
  all_goals
    go_wp2
    go_ret2
    exact ⟨rfl, (Below.refl _ w).drew⟩

theorem split_any (s : ByteArray) (w : World) : Calls Tryd.prog 30 #[.string s] w fun e w' => SplitEnds s (splitN s) w e w' := by
  by_cases h : s.size < 2
  · exact split_short s h w
  by_cases h0 : bt s 0 = 48
  case neg => exact split_ten s (by omega) h0 w
  by_cases h120 : bt s 1 = 120
  · exact split_120 s (by omega) h0 h120 w
  by_cases h88 : bt s 1 = 88
  · exact split_88 s (by omega) h0 h88 w
  by_cases h98 : bt s 1 = 98
  · exact split_98 s (by omega) h0 h98 w
  by_cases h66 : bt s 1 = 66
  · exact split_66 s (by omega) h0 h66 w
  by_cases h111 : bt s 1 = 111
  · exact split_111 s (by omega) h0 h111 w
  by_cases h79 : bt s 1 = 79
  · exact split_79 s (by omega) h0 h79 w
  exact split_else s (by omega) h0 ⟨h120, h88, h98, h66, h111, h79⟩ w

/-! ### Figures -/
def nums (l : List Nat) : List Value := l.map fun n : Nat => Value.int .u8 (n : Int)
theorem nums_append (l m : List Nat) : nums (l ++ m) = nums l ++ nums m := by unfold nums; exact List.map_append
theorem nums_length (l : List Nat) : (nums l).length = l.length := by unfold nums; exact List.length_map _
/-- What is left of a number, figure by figure, the last one first. -/
def tailN : Nat → Nat → List Nat
  | 0, _ => []
  | k + 1, m => if m = 0 then [] else m % 10 :: tailN k (m / 10)
/-- Figures (the last one first) times a base, and more. -/
def growN (base : Nat) : List Nat → Nat → List Nat
  | [], m => tailN m m
  | f :: l, m => (m + f * base) % 10 :: growN base l ((m + f * base) / 10)

theorem tailN_fuel : ∀ k j m, m ≤ k → m ≤ j → tailN k m = tailN j m
  | 0, 0, _, _, _ => rfl
  | 0, j + 1, m, h, _ => by
    have : m = 0 := by omega
    subst this
    rw [tailN, tailN, if_pos rfl]
  | k + 1, 0, m, _, h => by
    have : m = 0 := by omega
    subst this
    rw [tailN, tailN, if_pos rfl]
  | k + 1, j + 1, m, h1, h2 => by
    rw [tailN, tailN]
    split
    · rfl
    · rw [tailN_fuel k j (m / 10) (by omega) (by omega)]
theorem tailN_lt : ∀ k m, ∀ d ∈ tailN k m, d < 10
  | 0, _, d, h => by cases h
  | k + 1, m, d, h => by
    rw [tailN] at h
    split at h
    · cases h
    · rcases List.mem_cons.1 h with h | h
      · omega
      · exact tailN_lt k _ d h
theorem growN_lt (base : Nat) : ∀ l m, ∀ d ∈ growN base l m, d < 10
  | [], m, d, h => tailN_lt m m d h
  | f :: l, m, d, h => by
    rw [growN] at h
    rcases List.mem_cons.1 h with h | h
    · omega
    · exact growN_lt base l _ d h
theorem tailN_len : ∀ k m, m < 100 → (tailN k m).length ≤ 2
  | 0, _, _ => Nat.zero_le _
  | 1, m, h => by
    rw [tailN]
    split
    · exact Nat.zero_le _
    · rw [tailN]; exact Nat.le_succ _
  | k + 2, m, h => by
    rw [tailN]
    split
    · exact Nat.zero_le _
    · rw [tailN]
      split
      · exact Nat.le_succ _
      · have : m / 10 / 10 = 0 := by omega
        rw [this]
        cases k with
        | zero => rw [tailN]; exact Nat.le_refl _
        | succ k => rw [tailN, if_pos rfl]; exact Nat.le_refl _
theorem growN_len (base : Nat) (hb : base ≤ 16) : ∀ l m, m < 16 → (∀ d ∈ l, d < 10) → (growN base l m).length ≤ l.length + 2
  | [], m, h, _ => by rw [growN]; exact tailN_len m m (by omega)
  | f :: l, m, h, hd => by
    rw [growN, List.length_cons, List.length_cons]
    have hf := hd f (List.mem_cons_self ..)
    have hm : f * base ≤ 9 * 16 := Nat.mul_le_mul (by omega) hb
    have := growN_len base hb l ((m + f * base) / 10) (by omega) (fun d h => hd d (List.mem_cons_of_mem _ h))
    omega
end Go.Proofs.YtijinpnbhnfiiaaDoor
