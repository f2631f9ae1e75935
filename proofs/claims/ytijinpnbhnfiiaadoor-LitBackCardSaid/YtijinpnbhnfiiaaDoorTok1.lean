/- package token: what signs are letters, figures, blanks; how long a row of such signs is; names and words. -/
import Derived.Test.YtijinpnbhnfiiaaDoorRows
import Derived.Test.YtijinpnbhnfiiaaDoorBase
import Derived.WalkKit
import Derived.WalkSmall
import Derived.WalkSpells
import Derived.WalkLawsBesides
import Derived.Below
import Derived.Lib.Hide
namespace Go.Proofs.YtijinpnbhnfiiaaDoor
open Go.RowKit

def isLet (r : Int) : Bool := (decide (97 ≤ r) && decide (r ≤ 122)) || (decide (65 ≤ r) && decide (r ≤ 90)) || r == 95
def isFig (r : Int) : Bool := decide (48 ≤ r) && decide (r ≤ 57)
def isIn (r : Int) : Bool := isLet r || isFig r
def isBlank (r : Int) : Bool := r == 32 || r == 9 || r == 13 || r == 65279
def noEnd (r : Int) : Bool := !(r == 10)

theorem letter_any (r : Int) (w : World) : Calls Tryd.prog 66 #[.int .i32 r] w fun e w' => e = .returned (.bool (isLet r)) ∧ w = w' := by
  have H : Hid (isLet r = ((decide (97 ≤ r) && decide (r ≤ 122)) || (decide (65 ≤ r) && decide (r ≤ 90)) || r == 95)) := rfl
  go_enter Tryd.func66, Tryd.ntmps66
  go_wp2
  all_goals
    go_ret
    refine ⟨?_, rfl⟩
    rw [H.out]
    refine congrArg Ending.returned ?_
    show Value.bool _ = Value.bool _
    refine congrArg Value.bool ?_
    rw [Bool.eq_iff_iff]
    simp
    try omega

theorem figure_any (r : Int) (w : World) : Calls Tryd.prog 70 #[.int .i32 r] w fun e w' => e = .returned (.bool (isFig r)) ∧ w = w' := by
  have H : Hid (isFig r = (decide (48 ≤ r) && decide (r ≤ 57))) := rfl
  go_enter Tryd.func70, Tryd.ntmps70
  go_wp2
  all_goals
    go_ret
    refine ⟨?_, rfl⟩
    rw [H.out]
    refine congrArg Ending.returned ?_
    show Value.bool _ = Value.bool _
    refine congrArg Value.bool ?_
    rw [Bool.eq_iff_iff]
    simp
    try omega

theorem noEnd_any (r : Int) (w : World) : Calls Tryd.prog 64 #[.int .i32 r] w fun e w' => e = .returned (.bool (noEnd r)) ∧ w = w' := by
  have H : Hid (noEnd r = !(r == 10)) := rfl
  go_enter Tryd.func64, Tryd.ntmps64
  go_wp2
  go_ret
  rw [H.out]
  exact ⟨rfl, rfl⟩

theorem blank_any (r : Int) (w : World) : Calls Tryd.prog 60 #[.int .i32 r] w fun e w' => e = .returned (.bool (isBlank r)) ∧ w = w' := by
  have H : Hid (isBlank r = (r == 32 || r == 9 || r == 13 || r == 65279)) := rfl
  go_enter Tryd.func60, Tryd.ntmps60
  go_wp2
  all_goals
    go_ret
    refine ⟨?_, rfl⟩
    rw [H.out]
    refine congrArg Ending.returned ?_
    show Value.bool _ = Value.bool _
    refine congrArg Value.bool ?_
    first
      | rfl
      | (rw [Bool.eq_iff_iff]; simp; done)
      | (rw [Bool.eq_iff_iff]; simp; omega)

theorem inName_any (r : Int) (w : World) : Calls Tryd.prog 71 #[.int .i32 r] w fun e w' => e = .returned (.bool (isIn r)) ∧ w = w' := by
  have H : Hid (isIn r = (isLet r || isFig r)) := rfl
  cases hl : isLet r
  · have HL := Lib.hid hl
    clear hl
    go_enter Tryd.func71, Tryd.ntmps71
    go_wp2_with fail
    refine (letter_any r w).mono ?_
    rintro e w' ⟨rfl, rfl⟩
    rw [HL.out]
    go_wp2_with fail
    refine (figure_any r w).mono ?_
    rintro e w' ⟨rfl, rfl⟩
    go_wp2
    go_ret
    rw [H.out, HL.out]
    exact ⟨by simp, rfl⟩
  · have HL := Lib.hid hl
    clear hl
    go_enter Tryd.func71, Tryd.ntmps71
    go_wp2_with fail
    refine (letter_any r w).mono ?_
    rintro e w' ⟨rfl, rfl⟩
    rw [HL.out]
    go_wp2
    go_ret
    rw [H.out, HL.out]
    exact ⟨rfl, rfl⟩

/-- How far, from p on, the signs of r are of a sort. -/
def rowF (r : ByteArray) (f : Int → Bool) : Nat → Nat → Nat
  | 0, _ => r.size
  | k + 1, p => if p < r.size then (if f (sig r p) then rowF r f k (p + wid r p) else p) else r.size
def rowN (r : ByteArray) (f : Int → Bool) : Nat := rowF r f r.size 0

theorem rowF_le (r : ByteArray) (f : Int → Bool) : ∀ k p, rowF r f k p ≤ r.size
  | 0, p => Nat.le_refl _
  | k + 1, p => by
    rw [rowF]
    split
    · split
      · exact rowF_le r f k _
      · omega
    · exact Nat.le_refl _

theorem row_any (r : ByteArray) (f : Int → Bool) (F : FuncId) (w : World) (hcf : ∀ args W, (callFunc F args).run Tryd.prog W = .ok (.enter F args) W)
    (hcl : ∀ (x : Int) (W : World), Calls Tryd.prog F #[.int .i32 x] W fun e w' => e = .returned (.bool (f x)) ∧ W = w') :
    Calls Tryd.prog 63 #[.string r, .func (.func F) #[] #[]] w fun e w' => e = .returned (.int .i64 (rowN r f)) ∧ Below w.heap.size w w' := by
  have Hcl := Lib.hid hcl
  clear hcl
  go_enter Tryd.func63, Tryd.ntmps63
  go_wp2
  go_loopw [5] (fun _ wr => ∃ p k : Nat, wr = w.iter r p ∧ p ≤ r.size ∧ r.size ≤ p + k ∧ Hid (rowF r f k p = rowN r f)) (fun _ wr => r.size - wr.iterPos w.heap.size)
  case atStart => exact ⟨0, r.size, rfl, Nat.zero_le _, by omega, rfl⟩
  case round =>
    obtain ⟨p, k, rfl, hp, hk, HR⟩ := hrel
    by_cases hlt : p < r.size
    · have hnx : ∀ ty, (Instr.next (.pointer (some ⟨w.heap.size, 0, none⟩)) true ty).run Tryd.prog (w.iter r p) = _ := fun ty => run_next_any w r p ty hlt
      have hw := wid_pos r p
      have hwl := wid_le r p hlt
      obtain ⟨k, rfl⟩ : ∃ g, k = g + 1 := ⟨k - 1, by omega⟩
      cases hf : f ((Utf8.decode r p).1 : Int)
      · have HE : Hid (rowN r f = p) := by
          show _ = _
          rw [← HR.out, rowF, if_pos hlt, if_neg (by rw [show ((sig r p : Nat) : Int) = ((Utf8.decode r p).1 : Int) from rfl, hf]; simp)]
        have HF := Lib.hid hf
        clear hf
        go_wp2_with ((with_reducible refine (Hcl.out _ _).mono ?_); rintro e w' ⟨rfl, rfl⟩; rw [HF.out])
        go_ret
        rw [HE.out]
        exact ⟨rfl, (Below.refl _ w).alloc (Nat.le_refl _) _⟩
      · have HE : Hid (rowF r f k (p + (Utf8.decode r p).2) = rowN r f) := by
          show _ = _
          have e := HR.out
          rw [rowF, if_pos hlt, if_pos (by exact hf)] at e
          exact e
        have HF := Lib.hid hf
        clear hf
        go_wp2_with ((with_reducible refine (Hcl.out _ _).mono ?_); rintro e w' ⟨rfl, rfl⟩; rw [HF.out])
        go_roundw
        case rel => exact ⟨_, k, rfl, hwl, (by have hq : (Utf8.decode r p).2 = wid r p := rfl; omega), HE.out⟩
        case measure => have hq : (Utf8.decode r p).2 = wid r p := rfl; simp; omega
    · have hnx : ∀ ty, (Instr.next (.pointer (some ⟨w.heap.size, 0, none⟩)) true ty).run Tryd.prog (w.iter r p) = _ := fun ty => run_next_end w r p ty hlt
      have HE : Hid (rowN r f = r.size) := by
        show _ = _
        rw [← HR.out]
        cases k with
        | zero => rfl
        | succ k => rw [rowF, if_neg hlt]
      go_wp2
      go_ret
      rw [HE.out]
      exact ⟨rfl, (Below.refl _ w).alloc (Nat.le_refl _) _⟩

theorem fits66 : ∀ args W, (callFunc 66 args).run Tryd.prog W = .ok (.enter 66 args) W := fun _ _ => by kernel_rfl
theorem fits71 : ∀ args W, (callFunc 71 args).run Tryd.prog W = .ok (.enter 71 args) W := fun _ _ => by kernel_rfl
theorem fits64 : ∀ args W, (callFunc 64 args).run Tryd.prog W = .ok (.enter 64 args) W := fun _ _ => by kernel_rfl

/-- How long the name (or word) is with which r begins; 0 without one. -/
def nameN (r : ByteArray) : Nat := if rowN r isLet = 0 then 0 else rowN r isIn

theorem nameSize_any (r : ByteArray) (w : World) :
    Calls Tryd.prog 67 #[.string r] w fun e w' => e = .returned (.int .i64 (nameN r)) ∧ Below w.heap.size w w' := by
  have H1 := Lib.hid (row_any r isLet 66 w fits66 letter_any)
  have H2 := Lib.hid (fun w1 => row_any r isIn 71 w1 fits71 inName_any)
  by_cases h0 : rowN r isLet = 0
  · have HN : Hid (nameN r = 0) := by show _ = _; unfold nameN; rw [if_pos h0]
    have HZ := Lib.hid h0
    clear h0
    go_enter Tryd.func67, Tryd.ntmps67
    go_wp2_with fail
    refine H1.out.mono ?_
    rintro e w1 ⟨rfl, hb⟩
    rw [HZ.out]
    go_wp2
    go_ret
    rw [HN.out]
    exact ⟨rfl, hb⟩
  · have HN : Hid (nameN r = rowN r isIn) := by show _ = _; unfold nameN; rw [if_neg h0]
    have hz : ((rowN r isLet : Int) == 0) = false := beq_eq_false_iff_ne.2 (by omega)
    clear h0
    go_enter Tryd.func67, Tryd.ntmps67
    go_wp2_with fail
    refine H1.out.mono ?_
    rintro e w1 ⟨rfl, hb⟩
    go_wp2_with fail
    refine (H2.out w1).mono ?_
    rintro e w2 ⟨rfl, hb2⟩
    go_wp2
    go_ret
    rw [HN.out]
    exact ⟨rfl, hb.trans (hb2.mono hb.size)⟩
end Go.Proofs.YtijinpnbhnfiiaaDoor
