/- package token: how long what is closed is, how long a text is. -/
import Derived.Test.YtijinpnbhnfiiaaDoorTok3
import Derived.Test.YtijinpnbhnfiiaaDoorIdx
namespace Go.Proofs.YtijinpnbhnfiiaaDoor
open Go.RowKit

/-- What strings.Index reads of the world: some number there. -/
def MaxLen (w : World) : Prop := ∃ m, w.cell? ⟨2, 0, none⟩ = some (.int .i64 m)

def idx (s t : ByteArray) : Int := Lib.index s.data.toList t.data.toList
def closedN (s : ByteArray) (f : Nat) (t : ByteArray) : Nat := if 0 ≤ idx (s.extract f s.size) t then f + (idx (s.extract f s.size) t).toNat + t.size else 0

theorem closed_any (s : ByteArray) (f : Nat) (t : ByteArray) (hf : f ≤ s.size) (hs : s.size < 100000) (w : World) (hm : MaxLen w) :
    Calls Tryd.prog 65 #[.string s, .int .i64 f, .string t] w fun e w' => e = .returned (.int .i64 (closedN s f t)) ∧ w = w' := by
  obtain ⟨m, hm⟩ := hm
  have hz : (s.extract f s.size).size = s.size - f := by rw [ByteArray.size_extract]; omega
  have H := Lib.hid (Tryd.strings_Index (s.extract f s.size) t m w (by omega) hm)
  clear hm
  by_cases h0 : 0 ≤ idx (s.extract f s.size) t
  · have HE : Hid (closedN s f t = f + (idx (s.extract f s.size) t).toNat + t.size) := by show _ = _; unfold closedN; rw [if_pos h0]
    have HI : Hid (Lib.index (s.extract f s.size).data.toList t.data.toList = ((idx (s.extract f s.size) t).toNat : Int)) := by show _ = _; unfold idx at *; omega
    have hr := Lib.index_room (s.extract f s.size).data.toList t.data.toList h0
    have e1 : ((s.extract f s.size).data.toList.length : Nat) = s.size - f := hz
    have e2 : t.data.toList.length = t.size := rfl
    rw [e1, e2, HI.out] at hr
    generalize hk : (idx (s.extract f s.size) t).toNat = k at *
    clear hk
    go_enter Tryd.func65, Tryd.ntmps65
    go_wp2_with fail
    refine H.out.mono ?_
    rintro e w1 ⟨rfl, rfl⟩
    rw [HI.out]
    go_wp2
    go_ret
    rw [HE.out]
    exact ⟨congrArg (fun z => Ending.returned (Value.int .i64 z)) (by omega : (f : Int) + k + t.size = ((f + k + t.size : Nat) : Int)), rfl⟩
  · have HE : Hid (closedN s f t = 0) := by show _ = _; unfold closedN; rw [if_neg h0]
    have HI : Hid (Lib.index (s.extract f s.size).data.toList t.data.toList = -1) := by
      show _ = _
      have := Lib.index_ge (s.extract f s.size).data.toList t.data.toList
      unfold idx at h0
      omega
    clear h0
    go_enter Tryd.func65, Tryd.ntmps65
    go_wp2_with fail
    refine H.out.mono ?_
    rintro e w1 ⟨rfl, rfl⟩
    rw [HI.out]
    go_wp2
    go_ret
    rw [HE.out]
    exact ⟨rfl, rfl⟩

/-- How long the text is behind its first quote. -/
def textF (r : ByteArray) : Nat → Nat → Bool → Nat
  | 0, _, _ => 0
  | k + 1, p, taken => if p < r.size then
      if sig r p = 10 then 0
      else if taken then textF r k (p + wid r p) false
      else if sig r p = 92 then textF r k (p + wid r p) true
      else if sig r p = 34 then p + 2
      else textF r k (p + wid r p) false
    else 0
def textN (s : ByteArray) : Nat := textF (s.extract 1 s.size) (s.extract 1 s.size).size 0 false

theorem textSize_any (s : ByteArray) (hs : s.size < 100000) (h1 : 1 ≤ s.size) (w : World) : Calls Tryd.prog 72 #[.string s] w fun e w' => e = .returned (.int .i64 (textN s)) ∧ Below w.heap.size w w' := by
  have HT : Hid (textN s = textF (s.extract 1 s.size) (s.extract 1 s.size).size 0 false) := rfl
  have hz : (s.extract 1 s.size).size < 100000 := by rw [ByteArray.size_extract]; omega
  generalize hr : s.extract 1 s.size = r at *
  go_enter Tryd.func72, Tryd.ntmps72
  go_wp2
  go_loopw [3] (fun v wr => ∃ (p k : Nat) (t : Bool), v = .bool t ∧ wr = w.iter r p ∧ p ≤ r.size ∧ r.size ≤ p + k ∧ Hid (textF r k p t = textN s)) (fun _ wr => r.size - wr.iterPos w.heap.size)
  case atStart => exact ⟨0, r.size, false, rfl, rfl, Nat.zero_le _, by omega, HT.out.symm⟩
  case round =>
    obtain ⟨p, k, t, rfl, rfl, hp, hk, HR⟩ := hrel
    by_cases hlt : p < r.size
    · have hnx : ∀ ty, (Instr.next (.pointer (some ⟨w.heap.size, 0, none⟩)) true ty).run Tryd.prog (w.iter r p) = _ := fun ty => run_next_any w r p ty hlt
      have hw := wid_pos r p
      have hwl := wid_le r p hlt
      obtain ⟨k, rfl⟩ : ∃ g, k = g + 1 := ⟨k - 1, by omega⟩
      have HR2 : Hid ((if sig r p = 10 then 0 else if t then textF r k (p + wid r p) false else if sig r p = 92 then textF r k (p + wid r p) true else if sig r p = 34 then p + 2 else textF r k (p + wid r p) false) = textN s) := by
        show _ = _
        have e := HR.out
        rw [textF, if_pos hlt] at e
        exact e
      clear HR
      by_cases c10 : sig r p = 10
      · have g10 : (((Utf8.decode r p).1 : Int) == 10) = true := beq_iff_eq.2 (by have : (Utf8.decode r p).1 = 10 := c10; omega)
        have HE : Hid (textN s = 0) := by show _ = _; rw [← HR2.out, if_pos c10]
        clear c10
        go_wp2
        go_ret
        rw [HE.out]
        exact ⟨rfl, (Below.refl _ w).alloc (Nat.le_refl _) _⟩
      · have g10 : (((Utf8.decode r p).1 : Int) == 10) = false := beq_eq_false_iff_ne.2 (by have : ¬ (Utf8.decode r p).1 = 10 := c10; omega)
        cases t
        · by_cases c92 : sig r p = 92
          · have g92 : (((Utf8.decode r p).1 : Int) == 92) = true := beq_iff_eq.2 (by have : (Utf8.decode r p).1 = 92 := c92; omega)
            have HE : Hid (textF r k (p + (Utf8.decode r p).2) true = textN s) := by show _ = _; rw [← HR2.out, if_neg c10, if_neg Bool.false_ne_true, if_pos c92]; rfl
            clear c10 c92
            go_wp2
            go_roundw
            case rel => exact ⟨_, k, true, rfl, rfl, hwl, (by have hq : (Utf8.decode r p).2 = wid r p := rfl; omega), HE.out⟩
            case measure => have hq : (Utf8.decode r p).2 = wid r p := rfl; simp; omega
          · have g92 : (((Utf8.decode r p).1 : Int) == 92) = false := beq_eq_false_iff_ne.2 (by have : ¬ (Utf8.decode r p).1 = 92 := c92; omega)
            by_cases c34 : sig r p = 34
            · have g34 : (((Utf8.decode r p).1 : Int) == 34) = true := beq_iff_eq.2 (by have : (Utf8.decode r p).1 = 34 := c34; omega)
              have HE : Hid (textN s = p + 2) := by show _ = _; rw [← HR2.out, if_neg c10, if_neg Bool.false_ne_true, if_neg c92, if_pos c34]
              clear c10 c92 c34
              go_wp2
              go_ret
              rw [HE.out]
              exact ⟨rfl, (Below.refl _ w).alloc (Nat.le_refl _) _⟩
            · have g34 : (((Utf8.decode r p).1 : Int) == 34) = false := beq_eq_false_iff_ne.2 (by have : ¬ (Utf8.decode r p).1 = 34 := c34; omega)
              have HE : Hid (textF r k (p + (Utf8.decode r p).2) false = textN s) := by show _ = _; rw [← HR2.out, if_neg c10, if_neg Bool.false_ne_true, if_neg c92, if_neg c34]; rfl
              clear c10 c92 c34
              go_wp2
              go_roundw
              case rel => exact ⟨_, k, false, rfl, rfl, hwl, (by have hq : (Utf8.decode r p).2 = wid r p := rfl; omega), HE.out⟩
              case measure => have hq : (Utf8.decode r p).2 = wid r p := rfl; simp; omega
        · have HE : Hid (textF r k (p + (Utf8.decode r p).2) false = textN s) := by show _ = _; rw [← HR2.out, if_neg c10, if_pos rfl]; rfl
          clear c10
          go_wp2
          go_roundw
          case rel => exact ⟨_, k, false, rfl, rfl, hwl, (by have hq : (Utf8.decode r p).2 = wid r p := rfl; omega), HE.out⟩
          case measure => have hq : (Utf8.decode r p).2 = wid r p := rfl; simp; omega
    · have hnx : ∀ ty, (Instr.next (.pointer (some ⟨w.heap.size, 0, none⟩)) true ty).run Tryd.prog (w.iter r p) = _ := fun ty => run_next_end w r p ty hlt
      have HE : Hid (textN s = 0) := by
        show _ = _
        rw [← HR.out]
        cases k with
        | zero => rfl
        | succ k => rw [textF, if_neg hlt]
      go_wp2
      go_ret
      rw [HE.out]
      exact ⟨rfl, (Below.refl _ w).alloc (Nat.le_refl _) _⟩
end Go.Proofs.YtijinpnbhnfiiaaDoor
