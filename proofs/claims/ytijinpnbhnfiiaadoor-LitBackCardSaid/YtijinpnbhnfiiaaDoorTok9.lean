/- package token: what begins at a sign. -/
import Derived.Test.YtijinpnbhnfiiaaDoorTok8
import Derived.Test.YtijinpnbhnfiiaaDoorTok5
namespace Go.Proofs.YtijinpnbhnfiiaaDoor
open Go.RowKit Go.Joins

/-- Does s begin with t? -/
def hasPre (s t : ByteArray) : Bool := decide (t.size ≤ s.size) && ((s.extract 0 t.size).toList == t.toList)

theorem hasPrefix_any (s t : ByteArray) (w : World) : Calls Tryd.prog 61 #[.string s, .string t] w fun e w' => e = .returned (.bool (hasPre s t)) ∧ w = w' := by
  have HB : Hid (hasPre s t = (decide (t.size ≤ s.size) && ((s.extract 0 t.size).toList == t.toList))) := rfl
  by_cases h : t.size ≤ s.size
  · have g : decide (t.size ≤ s.size) = true := decide_eq_true h
    have HE : Hid (hasPre s t = ((s.extract 0 t.size).toList == t.toList)) := by show _ = _; rw [HB.out, g]; rfl
    go_enter Tryd.func61, Tryd.ntmps61
    go_wp2
    go_ret
    rw [HE.out]
    exact ⟨rfl, rfl⟩
  · have g : decide (t.size ≤ s.size) = false := decide_eq_false h
    have HE : Hid (hasPre s t = false) := by show _ = _; rw [HB.out, g]; rfl
    go_enter Tryd.func61, Tryd.ntmps61
    go_wp2
    go_ret
    rw [HE.out]
    exact ⟨rfl, rfl⟩

/-! ### No piece is longer than what is left. -/
theorem rowN_le (r : ByteArray) (f : Int → Bool) : rowN r f ≤ r.size := rowF_le r f _ _
theorem nameN_le (r : ByteArray) : nameN r ≤ r.size := by
  unfold nameN
  split
  · omega
  · exact rowN_le r isIn
theorem closedN_le (s : ByteArray) (f : Nat) (t : ByteArray) (hf : f ≤ s.size) : closedN s f t ≤ s.size := by
  unfold closedN
  split
  · rename_i h
    have hr := Lib.index_room (s.extract f s.size).data.toList t.data.toList h
    have e1 : ((s.extract f s.size).data.toList.length : Nat) = s.size - f := by
      have : (s.extract f s.size).size = s.size - f := by rw [ByteArray.size_extract]; omega
      exact this
    have e2 : t.data.toList.length = t.size := rfl
    unfold idx at *
    omega
  · omega
theorem textF_le (r : ByteArray) : ∀ k p t, textF r k p t ≤ r.size + 1
  | 0, _, _ => Nat.zero_le _
  | k + 1, p, t => by
    rw [textF]
    have hw := wid_pos r p
    split
    · repeat' split
      all_goals first | omega | exact textF_le r k _ _
    · omega
theorem textN_le (s : ByteArray) (h : 1 ≤ s.size) : textN s ≤ s.size := by
  have h2 := textF_le (s.extract 1 s.size) (s.extract 1 s.size).size 0 false
  unfold textN
  have : (s.extract 1 s.size).size = s.size - 1 := by rw [ByteArray.size_extract]; omega
  omega
theorem list_size (s : ByteArray) : s.toList.length = s.size := by rw [ByteArray.toList_eq]; rfl
theorem pre_size (s : ByteArray) (k : Nat) : (pre s k).size = min k s.size := by unfold pre; rw [ByteArray.size_extract]; omega
theorem contains_len {l : List UInt8} {ws : List (List UInt8)} {k : Nat} (h : ws.contains l = true) (hk : ws.all (fun x => x.length == k) = true) : l.length = k := by
  have := List.all_eq_true.1 hk l (mem_contains h)
  simpa using this
theorem signN_le (s : ByteArray) : signN s ≤ s.size := by
  unfold signN
  split
  · rename_i h
    have := contains_len (k := 3) h (by decide)
    rw [list_size, pre_size] at this
    omega
  · split
    · rename_i h
      have := contains_len (k := 2) h (by decide)
      rw [list_size, pre_size] at this
      omega
    · split
      · rename_i h
        have := contains_len (k := 1) h (by decide)
        rw [list_size, pre_size] at this
        omega
      · omega

/-! ### What begins at a sign, as a function. -/
def sSlash : ByteArray := ⟨#[47, 47]⟩
def sOpen : ByteArray := ⟨#[47, 42]⟩
def sClose : ByteArray := ⟨#[42, 47]⟩
def sTick : ByteArray := ⟨#[96]⟩

/-- The scanner's state: where it stands, its tokens, its notes. -/
structure St where
  at_ : Nat
  toks : List Tk
  notes : List Tk

def takeP (t : ByteArray) (x : St) (k p n : Nat) : Option St := if n = 0 then none else some ⟨p + n, x.toks ++ [⟨k, t.extract p (p + n), p⟩], x.notes⟩
def noteP (t : ByteArray) (x : St) (p n : Nat) : Option St := if n = 0 then none else some ⟨p + n, noteToks (t.extract p (p + n)) x.toks p, x.notes ++ [⟨0, t.extract p (p + n), p⟩]⟩

/-- The scanner behind what begins at p with the sign c; none: nothing that ends does. -/
def beginP (t : ByteArray) (x : St) (p : Nat) (c : Int) : Option St :=
  if c == 10 then some { x with toks := endL x.toks p }
  else if isBlank c then some x
  else if hasPre (t.extract p t.size) sSlash then noteP t x p (rowN (t.extract p t.size) noEnd)
  else if hasPre (t.extract p t.size) sOpen then noteP t x p (closedN (t.extract p t.size) 2 sClose)
  else if isLet c then takeP t x (1 + wordN ((t.extract p t.size).extract 0 (nameN (t.extract p t.size)))) p (nameN (t.extract p t.size))
  else if isFig c then takeP t x 4 p (rowN (t.extract p t.size) isIn)
  else if c == 34 then takeP t x 5 p (textN (t.extract p t.size))
  else if c == 96 then takeP t x 5 p (closedN (t.extract p t.size) 1 sTick)
  else takeP t x 6 p (signN (t.extract p t.size))

/-- The scanner's state in memory. -/
def InM (w : World) (b base : Nat) (t : ByteArray) (x : St) : Prop := ∃ vt vn, Sc w b base t x.at_ vt vn x.toks x.notes

/-- What a step of the scanner ends with. -/
def Ends (b base : Nat) (t : ByteArray) (p : Nat) (w : World) (r : Option St) (e : Ending) (w' : World) : Prop :=
  Keeps base b w w' ∧ match r with
  | some x => e = .returned (.tuple #[]) ∧ InM w' b base t x
  | none => e = .panicked [{ v := .iface 74 (.agg #[.int .i64 p]), recovered := false }]

theorem take_ends (w : World) (b base : Nat) (t : ByteArray) (x : St) (k p n : Nat) (h : InM w b base t x) (hk : k ≠ 0) (hp : p + n ≤ t.size) (ht : t.size < 100000) (hl : x.toks.length < 1000000) :
    Calls Tryd.prog 68 #[.pointer (some ⟨b, 0, none⟩), .int .i64 k, .int .i64 p, .int .i64 n] w fun e w' => Ends b base t p w (takeP t x k p n) e w' := by
  obtain ⟨vt, vn, h⟩ := h
  by_cases h0 : n = 0
  · subst h0
    refine (take_none w b k p vt h.cell.2.2.1).mono ?_
    rintro e w' ⟨rfl, hb⟩
    exact ⟨Keeps.of_below hb, rfl⟩
  · refine (take_any w b base t x.at_ vt vn x.toks x.notes k p n h hk (by omega) hp ht hl).mono ?_
    rintro e w' ⟨rfl, hK, vt', hS⟩
    unfold Ends takeP
    rw [if_neg h0]
    exact ⟨hK, rfl, vt', vn, hS⟩

theorem note_ends (w : World) (b base : Nat) (t : ByteArray) (x : St) (p n : Nat) (h : InM w b base t x) (hp : p + n ≤ t.size) (ht : t.size < 100000) (hl : x.toks.length < 1000000) (hl2 : x.notes.length < 1000000) :
    Calls Tryd.prog 62 #[.pointer (some ⟨b, 0, none⟩), .int .i64 p, .int .i64 n] w fun e w' => Ends b base t p w (noteP t x p n) e w' := by
  obtain ⟨vt, vn, h⟩ := h
  by_cases h0 : n = 0
  · subst h0
    refine (note_none w b p).mono ?_
    rintro e w' ⟨rfl, hb⟩
    exact ⟨Keeps.of_below hb, rfl⟩
  · refine (note_any w b base t x.at_ vt vn x.toks x.notes p n h (by omega) hp ht hl hl2).mono ?_
    rintro e w' ⟨rfl, hK, vt', vn', hS⟩
    unfold Ends noteP
    rw [if_neg h0]
    exact ⟨hK, rfl, vt', vn', hS⟩

theorem InM.below {w w' : World} {b base : Nat} {t : ByteArray} {x : St} (h : InM w b base t x) (hb : Below w.heap.size w w') : InM w' b base t x := by
  obtain ⟨vt, vn, h⟩ := h
  exact ⟨vt, vn, h.below hb⟩
end Go.Proofs.YtijinpnbhnfiiaaDoor
