/- package tag: right. -/
import Derived.Test.YtojdhlmmnhjolaaDoorTag10
import Derived.Test.YtojdhlmmnhjolaaDoorTagQ
namespace Go.Proofs.YtojdhlmmnhjolaaDoor
open Go.RowKit
set_option linter.unusedVariables false

theorem rightL_at (left : Nat) : ∀ (l : List Ex) (i : Nat) (x : Ex), l[i]? = some x → rightL left (l.drop i) = (rightE left x && rightL left (l.drop (i + 1)))
  | [], i, x, h => by cases h
  | y :: r, 0, x, h => by injection h with h; subst h; rfl
  | y :: r, i + 1, x, h => rightL_at left r i x (by simpa using h)
theorem rightE_eq (left : Nat) (x : Ex) : rightE left x = match x with | .mk op tag kids => decide (0 < left) && shapedE (.mk op tag kids) && rightL (left - 1) kids := by
  cases x
  rw [rightE]

theorem ExtK.cells {w : World} {ok : Nat → Prop} {l : List Ex} {a : Option Addr} {cap : Nat} {i : Nat} {o t : ByteArray} {k : List Ex} (h : ExtK w ok l a cap) (hx : l[i]? = some (.mk o t k)) :
    ∃ b off a2 cap2, a = some ⟨b, off, none⟩ ∧ b < w.heap.size ∧ w.cell? ⟨b, off + i * 3, none⟩ = some (.string o) ∧ w.cell? ⟨b, off + i * 3 + 1, none⟩ = some (.string t) ∧ w.cell? ⟨b, off + i * 3 + 2, none⟩ = some (.slice a2 k.length cap2) ∧ ExtK w ok k a2 cap2 := by
  obtain ⟨b, off, c0, c1, c2, rfl, m0, m1, m2, hxy⟩ := ExtL.at_ l a 0 i _ h.1 hx
  rw [Nat.zero_add] at m0 m1 m2
  rw [ExtAt_eq] at hxy
  obtain ⟨a2, cap2, e, hl⟩ := hxy
  injection e with e
  injection e with e
  simp only [List.cons.injEq, and_true] at e
  obtain ⟨rfl, rfl, rfl⟩ := e
  exact ⟨b, off, a2, cap2, rfl, cell_lt m0, m0, m1, m2, hl⟩
theorem ExtK.below {w w' : World} {ok : Nat → Prop} {l : List Ex} {a : Option Addr} {cap : Nat} (h : ExtK w ok l a cap) (hb : Below w.heap.size w w') : ExtK w' ok l a cap :=
  ExtK.moves (fun k hk hok => ⟨hok, hb.block k hk⟩) l a cap h

def RightOk (left : Nat) : Prop := ∀ (x : Ex) (v : Value) (w : World) (ok : Nat → Prop) (deep : Nat), deep + left = 101 → Small x → ExtAt w ok x v → Calls Tryd.prog 25 #[v, .int .i64 deep] w fun e w' => e = .returned (.bool (rightE left x)) ∧ Below w.heap.size w w'

set_option maxHeartbeats 3000000 in
set_option maxRecDepth 100000 in
theorem right_step (left : Nat) (ih : RightOk left) : RightOk (left + 1) := by
  intro x v w ok deep hd hs hx
  obtain ⟨op, tag, k⟩ := x
  rw [ExtAt_eq] at hx
  obtain ⟨a, cap, rfl, hl⟩ := hx
  rw [Small] at hs
  obtain ⟨hts, hks, hsl⟩ := hs
  have hW1 := (Below.refl w.heap.size w).alloc (Nat.le_refl _) (.cells #[.string op, .string tag, .slice a k.length cap] 29)
  have hq := heap_alloc_new w (.cells #[.string op, .string tag, .slice a k.length cap] 29)
  obtain ⟨⟨d0, d1, d2⟩, -⟩ := three_cells hq
  have c1 := shaped_any op tag k a cap (w.alloc (.cells #[.string op, .string tag, .slice a k.length cap] 29)) (by omega)
  have HQ := Lib.hid hq
  have HW1 := Lib.hid hW1
  have HL := Lib.hid hl
  have HSL := Lib.hid hsl
  have HKS := Lib.hid hks
  have HIH := Lib.hid ih
  have HD := Lib.hid hd
  have g1 : decide ((100 : Int) < (deep : Int)) = false := by simp; omega
  have g1' : decide (100 < deep) = false := by simp; omega
  have HR := Lib.hid (rightE_eq (left + 1) (.mk op tag k))
  cases hsh : shapedE (.mk op tag k) with
  | false =>
    rw [hsh] at c1
    have HS : Hid (rightE (left + 1) (.mk op tag k) = false) := by
      show _ = _
      rw [HR.out]
      dsimp only
      rw [hsh, Bool.and_false, Bool.false_and]
    clear hq hW1 hl hts hks hsl ih hd hsh HR
    go_enter Tryd.func25, Tryd.ntmps25
    go_wp2_with fail
    refine c1.mono ?_
    rintro e w2 ⟨rfl, hb2⟩
    go_wp2
    go_ret
    refine ⟨?_, HW1.out.trans (hb2.mono HW1.out.size)⟩
    rw [HS.out]
    rfl
  | true =>
    rw [hsh] at c1
    have HS : Hid (rightE (left + 1) (.mk op tag k) = rightL left (k.drop 0)) := by
      show _ = _
      rw [HR.out]
      dsimp only
      rw [hsh, show decide (0 < left + 1) = true by simp]
      rfl
    clear hq hW1 hl hts hks hsl ih hd hsh HR
    go_enter Tryd.func25, Tryd.ntmps25
    go_wp2_with fail
    refine c1.mono ?_
    rintro e w2 ⟨rfl, hb2⟩
    have HB2 := Lib.hid (HW1.out.trans (hb2.mono HW1.out.size))
    have hq2 : w2.heap[w.heap.size]? = _ := (hb2.block _ (by simp)).trans HQ.out
    obtain ⟨⟨e0, e1, e2⟩, -⟩ := three_cells hq2
    clear hb2 c1 d0 d1 d2 hq2
    go_wp2_with fail
    go_loopw [17] (fun s17 wr => ∃ i : Nat, s17 = .int .i64 i ∧ i ≤ k.length ∧ Hid (Below w.heap.size w wr) ∧ Hid (rightL left (k.drop i) = rightL left (k.drop 0)))
      (fun s17 wr => k.length - (intOf s17).toNat)
    case atStart => exact ⟨0, rfl, Nat.zero_le _, HB2, rfl⟩
    case round =>
      obtain ⟨i, rfl, hi, HB, HM⟩ := hrel
      clear e0 e1 e2
      have hks := HKS.out
      by_cases hlt : i < k.length
      · have g2 : decide ((i : Int) < (k.length : Int)) = true := by simp; omega
        obtain ⟨⟨o2, t2, k2⟩, hy⟩ : ∃ y, k[i]? = some y := ⟨k[i], by simp [hlt]⟩
        obtain ⟨b, off, a2, cap2, rfl, hbw, m0, m1, m2, hl2⟩ := HL.out.cells hy
        have k0 := (HB.out.cell (p := ⟨b, _, none⟩) hbw).trans m0
        have k1 := (HB.out.cell (p := ⟨b, _, none⟩) hbw).trans m1
        have k2' := (HB.out.cell (p := ⟨b, _, none⟩) hbw).trans m2
        have hq4 := heap_alloc_new wr (.cells #[.string o2, .string t2, .slice a2 k2.length cap2] 29)
        obtain ⟨⟨f0, f1, f2⟩, -⟩ := three_cells hq4
        have hb4 := HB.out.alloc HB.out.size (.cells #[.string o2, .string t2, .slice a2 k2.length cap2] 29)
        have c3 := HIH.out (.mk o2 t2 k2) (.agg #[.string o2, .string t2, .slice a2 k2.length cap2]) (wr.alloc (.cells #[.string o2, .string t2, .slice a2 k2.length cap2] 29)) ok (deep + 1) (by have := HD.out; omega) (HSL.out.mem hy) (by rw [ExtAt_eq]; exact ⟨a2, cap2, rfl, hl2.below hb4⟩)
        rw [show ((deep + 1 : Nat) : Int) = (deep : Int) + 1 from rfl] at c3
        have HB4 := Lib.hid hb4
        have HST := Lib.hid (rightL_at left k i _ hy)
        have hdd := HD.out
        clear m0 m1 m2 hl2 hq4 hb4 hy
        cases hry : rightE left (.mk o2 t2 k2) with
        | false =>
          rw [hry] at c3
          have HRY := Lib.hid hry
          clear hry
          go_wp2_with fail
          refine c3.mono ?_
          rintro e w5 ⟨rfl, hb5⟩
          go_wp2
          go_ret
          refine ⟨?_, HB4.out.trans (hb5.mono HB4.out.size)⟩
          rw [HS.out, ← HM.out, HST.out, HRY.out]
          rfl
        | true =>
          rw [hry] at c3
          have HRY := Lib.hid hry
          clear hry
          go_wp2_with fail
          refine c3.mono ?_
          rintro e w5 ⟨rfl, hb5⟩
          have HB5 := Lib.hid (HB4.out.trans (hb5.mono HB4.out.size))
          clear hb5
          go_wp2
          go_roundw
          case rel => exact ⟨i + 1, by go_num, by omega, HB5.out, by show _ = _; rw [← HM.out, HST.out, HRY.out]; rfl⟩
          case measure => simp [intOf]; omega
      · have g2 : decide ((i : Int) < (k.length : Int)) = false := by simp; omega
        have hik : i = k.length := by omega
        go_wp2
        go_ret
        refine ⟨?_, HB.out⟩
        rw [HS.out, ← HM.out, hik, List.drop_length]
        rfl
theorem right_zero : RightOk 0 := by
  intro x v w ok deep hd hs hx
  obtain ⟨op, tag, k⟩ := x
  rw [ExtAt_eq] at hx
  obtain ⟨a, cap, rfl, hl⟩ := hx
  have hdd : deep = 101 := by omega
  subst hdd
  have HW1 := Lib.hid ((Below.refl w.heap.size w).alloc (Nat.le_refl _) (.cells #[.string op, .string tag, .slice a k.length cap] 29))
  have HR := Lib.hid (rightE_eq 0 (.mk op tag k))
  clear hl hs hd
  go_enter Tryd.func25, Tryd.ntmps25
  go_wp2
  go_ret
  refine ⟨?_, HW1.out⟩
  rw [HR.out]
  rfl
theorem right_any : ∀ left, RightOk left
  | 0 => right_zero
  | n + 1 => right_step n (right_any n)
/-- Right. -/
theorem Right_any (x : Ex) (v : Value) (w : World) (ok : Nat → Prop) (hs : Small x) (hx : ExtAt w ok x v) : Calls Tryd.prog 13 #[v] w fun e w' => e = .returned (.bool (rightE 100 x)) ∧ Below w.heap.size w w' := by
  obtain ⟨op, tag, k⟩ := x
  rw [ExtAt_eq] at hx
  obtain ⟨a, cap, rfl, hl⟩ := hx
  have hW1 := (Below.refl w.heap.size w).alloc (Nat.le_refl _) (.cells #[.string op, .string tag, .slice a k.length cap] 29)
  have hq := heap_alloc_new w (.cells #[.string op, .string tag, .slice a k.length cap] 29)
  obtain ⟨⟨d0, d1, d2⟩, -⟩ := three_cells hq
  have c1 := right_any 100 (.mk op tag k) (.agg #[.string op, .string tag, .slice a k.length cap]) (w.alloc (.cells #[.string op, .string tag, .slice a k.length cap] 29)) ok 1 rfl hs (by rw [ExtAt_eq]; exact ⟨a, cap, rfl, hl.below hW1⟩)
  rw [show ((1 : Nat) : Int) = 1 from rfl] at c1
  have HW1 := Lib.hid hW1
  clear hW1 hq hs hl
  go_enter Tryd.func13, Tryd.ntmps13
  go_wp2_with fail
  refine c1.mono ?_
  rintro e w2 ⟨rfl, hb2⟩
  go_wp2
  go_ret
  exact ⟨rfl, HW1.out.trans (hb2.mono HW1.out.size)⟩
end Go.Proofs.YtojdhlmmnhjolaaDoor
