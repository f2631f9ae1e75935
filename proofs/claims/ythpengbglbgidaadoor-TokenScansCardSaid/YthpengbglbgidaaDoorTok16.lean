/- The document's answer: words and names, byte by byte. -/
import Derived.Test.YthpengbglbgidaaDoorTokP
namespace Go.Proofs.YthpengbglbgidaaDoor
open Go.RowKit Go.Joins
set_option linter.unusedVariables false

/-- Is a text among some? -/
def among (ws : List (List UInt8)) (l : List UInt8) : Bool := ws.contains l
theorem among_nil (l : List UInt8) : among [] l = false := rfl
theorem among_cons (x : List UInt8) (ws : List (List UInt8)) (l : List UInt8) : among (x :: ws) l = (l == x || among ws l) := List.contains_cons

theorem in_any (s : ByteArray) (ws : List (List UInt8)) (g cap : Nat) (w : World) (hl : ws.length < 1000) (hcap : ws.length ≤ cap) (hc : ∀ i, (hi : i < ws.length) → w.cell? ⟨g, i, none⟩ = some (.string ⟨(ws[i]).toArray⟩)) :
    Calls Tryd.prog 23 #[.string s, .slice (some ⟨g, 0, none⟩) ws.length cap] w fun e w' => e = .returned (.bool (among ws s.toList)) ∧ w = w' := by
  have HC := Lib.hid hc
  clear hc
  go_enter Tryd.func23, Tryd.ntmps23
  go_wp2
  go_loop [5] (fun v => ∃ i : Nat, v = .int .i64 i ∧ i ≤ ws.length ∧ Hid (among (ws.drop i) s.toList = among ws s.toList)) (fun v => ws.length - (intOf v).toNat)
  case atStart => exact ⟨0, rfl, Nat.zero_le _, rfl⟩
  case round =>
    obtain ⟨i, rfl, hi, HR⟩ := hrel
    by_cases hlt : i < ws.length
    · have hcell := HC.out i hlt
      have hd : ws.drop i = ws[i] :: ws.drop (i + 1) := List.drop_eq_getElem_cons hlt
      have hx : (⟨(ws[i]).toArray⟩ : ByteArray).toList = ws[i] := by rw [ByteArray.toList_eq]
      generalize hwi : ws[i] = x at *
      have gi : decide (i < ws.length) = true := decide_eq_true hlt
      cases hq : (x == s.toList)
      · have HE : Hid (among (ws.drop (i + 1)) s.toList = among ws s.toList) := by
          show _ = _
          rw [← HR.out, hd, among_cons, show (s.toList == x) = (x == s.toList) from Bool.beq_comm .., hq, Bool.false_or]
        have HD := Lib.hid hd
        clear hd HR
        go_wp2
        go_round
        case rel => exact ⟨i + 1, by go_num, hlt, HE.out⟩
        case measure => simp [intOf]; omega
      · have HE : Hid (among ws s.toList = true) := by
          show _ = _
          rw [← HR.out, hd, among_cons, show (s.toList == x) = (x == s.toList) from Bool.beq_comm .., hq, Bool.true_or]
        have HD := Lib.hid hd
        clear hd HR
        go_wp2
        go_ret
        rw [HE.out]
        exact ⟨rfl, rfl⟩
    · have gi : decide (i < ws.length) = false := decide_eq_false hlt
      have HE : Hid (among ws s.toList = false) := by
        show _ = _
        rw [← HR.out, List.drop_eq_nil_of_le (by omega)]
        rfl
      go_wp2
      go_ret
      rw [HE.out]
      exact ⟨rfl, rfl⟩

def refWordN (s : ByteArray) : Nat := if among words1 s.toList then 1 else if among words2 s.toList then 2 else 0
theorem refWordN_eq (s : ByteArray) : refWordN s = wordN s := rfl

def arrOf (ws : List (List UInt8)) : Array Value := (ws.map fun l => Value.string ⟨l.toArray⟩).toArray

theorem in_new (s : ByteArray) (ws : List (List UInt8)) (b : Bool) (w : World) (hl : ws.length < 1000) (hb : among ws s.toList = b) :
    Calls Tryd.prog 23 #[.string s, .slice (some ⟨w.heap.size, 0, none⟩) ws.length ws.length] (w.alloc (.cells (arrOf ws) 9)) fun e w' => e = .returned (.bool b) ∧ w.alloc (.cells (arrOf ws) 9) = w' := by
  rw [← hb]
  refine in_any s ws w.heap.size ws.length _ hl (Nat.le_refl _) (fun i hi => ?_)
  have e := heap_alloc_new w (.cells (arrOf ws) 9)
  simp only [World.cell?, e]
  simp [arrOf, hi]

theorem arr1 : arrOf words1 = #[.string ⟨#[98, 114, 101, 97, 107]⟩, .string ⟨#[99, 111, 110, 116, 105, 110, 117, 101]⟩, .string ⟨#[101, 108, 115, 101]⟩, .string ⟨#[102, 111, 114]⟩, .string ⟨#[102, 117, 110, 99]⟩, .string ⟨#[105, 102]⟩, .string ⟨#[105, 109, 112, 111, 114, 116]⟩, .string ⟨#[105, 110, 116, 101, 114, 102, 97, 99, 101]⟩, .string ⟨#[112, 97, 99, 107, 97, 103, 101]⟩, .string ⟨#[114, 97, 110, 103, 101]⟩, .string ⟨#[114, 101, 116, 117, 114, 110]⟩, .string ⟨#[115, 116, 114, 117, 99, 116]⟩, .string ⟨#[116, 121, 112, 101]⟩, .string ⟨#[118, 97, 114]⟩] := by kernel_rfl
theorem arr2 : arrOf words2 = #[.string ⟨#[99, 97, 115, 101]⟩, .string ⟨#[99, 104, 97, 110]⟩, .string ⟨#[99, 111, 110, 115, 116]⟩, .string ⟨#[100, 101, 102, 97, 117, 108, 116]⟩, .string ⟨#[100, 101, 102, 101, 114]⟩, .string ⟨#[102, 97, 108, 108, 116, 104, 114, 111, 117, 103, 104]⟩, .string ⟨#[103, 111]⟩, .string ⟨#[103, 111, 116, 111]⟩, .string ⟨#[109, 97, 112]⟩, .string ⟨#[115, 101, 108, 101, 99, 116]⟩, .string ⟨#[115, 119, 105, 116, 99, 104]⟩] := by kernel_rfl
theorem len1 : words1.length = 14 := rfl
theorem len2 : words2.length = 11 := rfl

set_option maxHeartbeats 1000000 in
set_option maxRecDepth 100000 in
theorem refWord_any (s : ByteArray) (w : World) : Calls Tryd.prog 16 #[.string s] w fun e w' => e = .returned (.int .i64 (wordN s)) ∧ Below w.heap.size w w' := by
  have HW : Hid (wordN s = if among words1 s.toList then 1 else if among words2 s.toList then 2 else 0) := rfl
  cases h1 : among words1 s.toList
  · cases h2 : among words2 s.toList
    · have HE : Hid (wordN s = 0) := by show _ = _; rw [HW.out, h1, h2]; rfl
      have j1 := (in_new s words1 false w (by decide) h1)
      rw [arr1, len1] at j1
      have I1 := Lib.hid j1
      clear j1
      have j2 := (in_new s words2 false (w.alloc (.cells (arrOf words1) 9)) (by decide) h2)
      rw [arr2, len2, arr1, World.size_alloc] at j2
      have I2 := Lib.hid j2
      clear j2
      clear h1 h2
      go_enter Tryd.func16, Tryd.ntmps16
      go_wp2_with fail
      refine I1.out.mono ?_
      rintro e w1 ⟨rfl, rfl⟩
      go_wp2_with fail
      refine I2.out.mono ?_
      rintro e w1 ⟨rfl, rfl⟩
      go_wp2
      go_ret
      rw [HE.out]
      exact ⟨rfl, ((Below.refl _ w).alloc (Nat.le_refl _) _).alloc (by simp) _⟩
    · have HE : Hid (wordN s = 2) := by show _ = _; rw [HW.out, h1, h2]; rfl
      have j1 := (in_new s words1 false w (by decide) h1)
      rw [arr1, len1] at j1
      have I1 := Lib.hid j1
      clear j1
      have j2 := (in_new s words2 true (w.alloc (.cells (arrOf words1) 9)) (by decide) h2)
      rw [arr2, len2, arr1, World.size_alloc] at j2
      have I2 := Lib.hid j2
      clear j2
      clear h1 h2
      go_enter Tryd.func16, Tryd.ntmps16
      go_wp2_with fail
      refine I1.out.mono ?_
      rintro e w1 ⟨rfl, rfl⟩
      go_wp2_with fail
      refine I2.out.mono ?_
      rintro e w1 ⟨rfl, rfl⟩
      go_wp2
      go_ret
      rw [HE.out]
      exact ⟨rfl, ((Below.refl _ w).alloc (Nat.le_refl _) _).alloc (by simp) _⟩
  · have HE : Hid (wordN s = 1) := by show _ = _; rw [HW.out, h1]; rfl
    have j1 := (in_new s words1 true w (by decide) h1)
    rw [arr1, len1] at j1
    have I1 := Lib.hid j1
    clear j1
    clear h1
    go_enter Tryd.func16, Tryd.ntmps16
    go_wp2_with fail
    refine I1.out.mono ?_
    rintro e w1 ⟨rfl, rfl⟩
    go_wp2
    go_ret
    rw [HE.out]
    exact ⟨rfl, (Below.refl _ w).alloc (Nat.le_refl _) _⟩
end Go.Proofs.YthpengbglbgidaaDoor
