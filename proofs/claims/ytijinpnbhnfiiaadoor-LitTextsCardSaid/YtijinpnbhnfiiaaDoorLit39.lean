/- The document's texts: what Text means; where it is wrong ahead of its signs. -/
import Derived.Test.YtijinpnbhnfiiaaDoorLit38
import Derived.Test.YtijinpnbhnfiiaaDoorRefWrong
namespace Go.Proofs.YtijinpnbhnfiiaaDoor
open Go.RowKit
set_option linter.unusedVariables false

/-- The bytes that the text t means from byte k on, behind l, where q stands around it; none: it is no text. -/
def refTxtF (q : Nat) (t : ByteArray) : Nat → Nat → List UInt8 → Option (List UInt8)
  | 0, _, l => some l
  | f + 1, k, l => if k < t.size then
      (if bt t k = q ∨ (q = 34 ∧ bt t k = 10) then none
      else if q = 96 ∧ bt t k = 13 then refTxtF q t f (k + 1) l
      else if q = 34 ∧ bt t k = 92 then (if (partB t (k + 1)).2 = 0 then none else refTxtF q t f (k + (partB t (k + 1)).2 + 1) (l ++ (partB t (k + 1)).1.data.toList))
      else refTxtF q t f (k + 1) (l ++ [UInt8.ofNat (bt t k)]))
    else some l
def refTxtE : Option (List UInt8) → ByteArray × Int
  | none => (⟨#[]⟩, 4)
  | some l => (⟨l.toArray⟩, 0)
def refTxt (s : ByteArray) : ByteArray × Int :=
  if s.size < 2 ∨ bt s 0 ≠ bt s (s.size - 1) ∨ (bt s 0 ≠ 34 ∧ bt s 0 ≠ 96) ∨ 0 ≤ wrongR s then (⟨#[]⟩, 4)
  else refTxtE (refTxtF (bt s 0) (s.extract 1 (s.size - 1)) s.size 0 [])
def TxtEnds (w : World) (r : ByteArray × Int) (e : Ending) (w' : World) : Prop := e = .returned (.tuple #[.string r.1, .int .i64 r.2]) ∧ Below w.heap.size w w'

set_option maxHeartbeats 2000000 in
set_option maxRecDepth 1000000 in
theorem refText_bad (s : ByteArray) (hs : s.size ≤ 500) (w : World) (hbad : s.size < 2 ∨ bt s 0 ≠ bt s (s.size - 1) ∨ (bt s 0 ≠ 34 ∧ bt s 0 ≠ 96)) :
    Calls Tryd.prog 13 #[.string s] w fun e w' => TxtEnds w (refTxt s) e w' := by
  have HE : Hid (refTxt s = (⟨#[]⟩, 4)) := by
    show _ = _
    unfold refTxt
    rw [if_pos (by rcases hbad with h | h | h; exact .inl h; exact .inr (.inl h); exact .inr (.inr (.inl h)))]
  have g0 : decide ((65536 : Int) < (s.size : Int)) = false := decide_eq_false (by omega)
  by_cases h2 : s.size < 2
  · have g2 : decide ((s.size : Int) < 2) = true := decide_eq_true (by omega)
    clear hbad
    go_enter Tryd.func13, Tryd.ntmps13
    go_wp2_with fail
    go_quiet (fail)
    go_wp2
    go_ret2
    rw [HE.out]
    exact ⟨rfl, Go.Proofs.YtijinpnbhnfiiaaDoor.Below.drewN (Below.refl _ w) _⟩
  have g2 : decide ((s.size : Int) < 2) = false := decide_eq_false (by omega)
  have hp : 0 < s.size := by omega
  have hp1 : s.size - 1 < s.size := by omega
  have e0 := bt_eq s 0 hp
  have e1 := bt_eq s (s.size - 1) hp1
  have s1 : (s.size : Int) - 1 = ((s.size - 1 : Nat) : Int) := by omega
  have l0 := bt_lt s 0
  have l1 := bt_lt s (s.size - 1)
  by_cases hq : bt s 0 = bt s (s.size - 1)
  · have hn : bt s 0 ≠ 34 ∧ bt s 0 ≠ 96 := by rcases hbad with h | h | h; exact absurd h h2; exact absurd hq h; exact h
    have q1 : (((s[0].toNat : Nat) : Int) != ((s[s.size - 1].toNat : Nat) : Int)) = false := by rw [← e0, ← e1, hq]; simp
    have q2 : (((s[0].toNat : Nat) : Int) != 34) = true := by rw [← e0]; exact bne_iff_ne.2 (by omega)
    have q3 : (((s[0].toNat : Nat) : Int) != 96) = true := by rw [← e0]; exact bne_iff_ne.2 (by omega)
    clear hbad hn hq e0 e1
    go_enter Tryd.func13, Tryd.ntmps13
    go_wp2_with fail
    go_quiet (fail)
    go_wp2
    go_ret2
    rw [HE.out]
    exact ⟨rfl, Go.Proofs.YtijinpnbhnfiiaaDoor.Below.drewN (Below.refl _ w) _⟩
  · have q1 : (((s[0].toNat : Nat) : Int) != ((s[s.size - 1].toNat : Nat) : Int)) = true := by rw [← e0, ← e1]; exact bne_iff_ne.2 (by omega)
    clear hbad hq e0 e1
    go_enter Tryd.func13, Tryd.ntmps13
    go_wp2_with fail
    go_quiet (fail)
    go_wp2
    go_ret2
    rw [HE.out]
    exact ⟨rfl, Go.Proofs.YtijinpnbhnfiiaaDoor.Below.drewN (Below.refl _ w) _⟩
end Go.Proofs.YtijinpnbhnfiiaaDoor
