/- package tag: whether a constraint holds. -/
import Derived.Test.YtojdhlmmnhjolaaDoorTag13
import Derived.Test.YtojdhlmmnhjolaaDoorTagH
namespace Go.Proofs.YtojdhlmmnhjolaaDoor
open Go.RowKit
set_option linter.unusedVariables false

/-- The tags given, as what is asked of them. -/
def TagsOk (tv : Value) (has : ByteArray → Bool) (w : World) : Prop := ∀ W, Below w.heap.size w W → ∀ t : ByteArray, t.size ≤ 3000000 → Calls Tryd.prog 33 #[tv, .string t] W fun e w' => e = .returned (.bool (has t)) ∧ Below W.heap.size W w'
theorem TagsOk.below {tv : Value} {has : ByteArray → Bool} {w w' : World} (h : TagsOk tv has w) (hb : Below w.heap.size w w') : TagsOk tv has w' := fun W hW => h W (hb.trans (hW.mono hb.size))

def HoldsOk (left : Nat) : Prop := ∀ (x : Ex) (v tv : Value) (has : ByteArray → Bool) (w : World) (ok : Nat → Prop), rightE left x = true → Small x → ExtAt w ok x v → TagsOk tv has w → Calls Tryd.prog 26 #[v, tv] w fun e w' => e = .returned (.bool (holdsE versM has x)) ∧ Below w.heap.size w w'

set_option maxRecDepth 100000 in
theorem holds_tag (tag : ByteArray) (k : List Ex) (a : Option Addr) (cap : Nat) (tv : Value) (has : ByteArray → Bool) (w : World) (ht : tag.size ≤ 3000000) (hT : TagsOk tv has w) :
    Calls Tryd.prog 26 #[.agg #[.string ⟨#[]⟩, .string tag, .slice a k.length cap], tv] w fun e w' => e = .returned (.bool (holdsE versM has (.mk ⟨#[]⟩ tag k))) ∧ Below w.heap.size w w' := by
  rw [ho_tag]
  have hW1 := (Below.refl w.heap.size w).alloc (Nat.le_refl _) (.cells #[.string ⟨#[]⟩, .string tag, .slice a k.length cap] 29)
  have hq := heap_alloc_new w (.cells #[.string ⟨#[]⟩, .string tag, .slice a k.length cap] 29)
  obtain ⟨⟨d0, d1, d2⟩, -⟩ := three_cells hq
  have HW1 := Lib.hid hW1
  have HQ := Lib.hid hq
  have HT := Lib.hid hT
  have HTS := Lib.hid ht
  have c1 := version_any tag ht
  clear hW1 hq hT ht
  by_cases hv : versM tag = -1
  · have g1 : (versM tag == (-1 : Int)) = true := beq_iff_eq.2 hv
    rw [if_pos hv]
    rw [hv] at c1
    clear hv g1
    go_enter Tryd.func26, Tryd.ntmps26
    go_wp2_with fail
    refine (c1 _).mono ?_
    rintro e w2 ⟨rfl, hb2⟩
    have hq2 := (hb2.block _ (by simp)).trans HQ.out
    obtain ⟨⟨e0, e1, e2⟩, -⟩ := three_cells hq2
    have HB2 := Lib.hid (HW1.out.trans (hb2.mono HW1.out.size))
    clear hb2 hq2 c1 d0 d1 d2
    go_wp2_with fail
    refine (HT.out w2 HB2.out tag HTS.out).mono ?_
    rintro e w3 ⟨rfl, hb3⟩
    go_wp2
    go_ret
    exact ⟨rfl, HB2.out.trans (hb3.mono HB2.out.size)⟩
  · have g1 : (versM tag == (-1 : Int)) = false := beq_eq_false_iff_ne.2 hv
    have g2 : (versM tag != (-1 : Int)) = true := by rw [bne, g1]; rfl
    rw [if_neg hv]
    generalize versM tag = n at *
    go_enter Tryd.func26, Tryd.ntmps26
    go_wp2_with fail
    refine (c1 _).mono ?_
    rintro e w2 ⟨rfl, hb2⟩
    have HB2 := Lib.hid (HW1.out.trans (hb2.mono HW1.out.size))
    clear hb2 c1 d0 d1 d2
    go_wp2
    go_ret
    exact ⟨rfl, HB2.out⟩

set_option maxRecDepth 100000 in
theorem holds_not (left : Nat) (ih : HoldsOk left) (tag : ByteArray) (y : Ex) (a : Option Addr) (cap : Nat) (tv : Value) (has : ByteArray → Bool) (w : World) (ok : Nat → Prop) (hry : rightE left y = true) (hsy : Small y) (hl : ExtK w ok [y] a cap) (hT : TagsOk tv has w) :
    Calls Tryd.prog 26 #[.agg #[.string ⟨#[33]⟩, .string tag, .slice a 1 cap], tv] w fun e w' => e = .returned (.bool (holdsE versM has (.mk ⟨#[33]⟩ tag [y]))) ∧ Below w.heap.size w w' := by
  rw [ho_not, headH]
  have hW1 := (Below.refl w.heap.size w).alloc (Nat.le_refl _) (.cells #[.string ⟨#[33]⟩, .string tag, .slice a 1 cap] 29)
  have hq := heap_alloc_new w (.cells #[.string ⟨#[33]⟩, .string tag, .slice a 1 cap] 29)
  obtain ⟨⟨d0, d1, d2⟩, -⟩ := three_cells hq
  obtain ⟨o2, t2, k2⟩ := y
  obtain ⟨b, off, a2, cap2, rfl, hbw, m0, m1, m2, hl2⟩ := hl.cells (i := 0) rfl
  rw [Nat.zero_mul, Nat.add_zero] at m0 m1 m2
  have k0 := (hW1.cell (p := ⟨b, _, none⟩) hbw).trans m0
  have k1 := (hW1.cell (p := ⟨b, _, none⟩) hbw).trans m1
  have k3 := (hW1.cell (p := ⟨b, _, none⟩) hbw).trans m2
  have c1 := ih (.mk o2 t2 k2) (.agg #[.string o2, .string t2, .slice a2 k2.length cap2]) tv has _ ok hry hsy (by rw [ExtAt_eq]; exact ⟨a2, cap2, rfl, hl2.below hW1⟩) (hT.below hW1)
  have HW1 := Lib.hid hW1
  generalize holdsE versM has (.mk o2 t2 k2) = h at *
  clear hW1 hq hT hl hl2 m0 m1 m2 hbw ih hry hsy
  go_enter Tryd.func26, Tryd.ntmps26
  go_wp2_with fail
  refine c1.mono ?_
  rintro e w2 ⟨rfl, hb2⟩
  go_wp2
  go_ret
  exact ⟨rfl, HW1.out.trans (hb2.mono HW1.out.size)⟩


set_option maxHeartbeats 3000000 in
set_option maxRecDepth 100000 in
theorem holds_or (left : Nat) (ih : HoldsOk left) (tag : ByteArray) (k : List Ex) (a : Option Addr) (cap : Nat) (tv : Value) (has : ByteArray → Bool) (w : World) (ok : Nat → Prop) (hrk : rightL left k = true) (hks : k.length ≤ 3000000) (hsk : SmallL k) (hl : ExtK w ok k a cap) (hT : TagsOk tv has w) :
    Calls Tryd.prog 26 #[.agg #[.string ⟨#[124, 124]⟩, .string tag, .slice a k.length cap], tv] w fun e w' => e = .returned (.bool (holdsE versM has (.mk ⟨#[124, 124]⟩ tag k))) ∧ Below w.heap.size w w' := by
  have HS : Hid (holdsE versM has (.mk ⟨#[124, 124]⟩ tag k) = anyH versM has (k.drop 0)) := ho_or versM has tag k
  have hW1 := (Below.refl w.heap.size w).alloc (Nat.le_refl _) (.cells #[.string ⟨#[124, 124]⟩, .string tag, .slice a k.length cap] 29)
  have hq := heap_alloc_new w (.cells #[.string ⟨#[124, 124]⟩, .string tag, .slice a k.length cap] 29)
  obtain ⟨⟨d0, d1, d2⟩, -⟩ := three_cells hq
  have HQ := Lib.hid hq
  have HW1 := Lib.hid hW1
  have HL := Lib.hid hl
  have HRK := Lib.hid hrk
  have HSL := Lib.hid hsk
  have HKS := Lib.hid hks
  have HIH := Lib.hid ih
  have HT := Lib.hid hT
  clear hq hW1 hl hrk hsk hks ih hT
  go_enter Tryd.func26, Tryd.ntmps26
  go_wp2_with fail
  clear d0 d1 d2
  go_loopw [36] (fun s36 wr => ∃ i : Nat, s36 = .int .i64 i ∧ i ≤ k.length ∧ Hid (Below w.heap.size w wr) ∧ Hid (wr.heap[w.heap.size]? = some (.cells #[.string ⟨#[124, 124]⟩, .string tag, .slice a k.length cap] 29 (0, 0))) ∧ Hid (anyH versM has (k.drop i) = anyH versM has (k.drop 0)))
    (fun s36 wr => k.length - (intOf s36).toNat)
  case atStart => exact ⟨0, rfl, Nat.zero_le _, HW1, HQ, rfl⟩
  case round =>
    obtain ⟨i, rfl, hi, HB, HQR, HM⟩ := hrel
    have hks := HKS.out
    by_cases hlt : i < k.length
    · have g2 : decide ((i : Int) < (k.length : Int)) = true := by simp; omega
      obtain ⟨⟨o2, t2, k2⟩, hy⟩ : ∃ y, k[i]? = some y := ⟨k[i], by simp [hlt]⟩
      obtain ⟨b, off, a2, cap2, rfl, hbw, m0, m1, m2, hl2⟩ := HL.out.cells hy
      have k0 := (HB.out.cell (p := ⟨b, _, none⟩) hbw).trans m0
      have k1 := (HB.out.cell (p := ⟨b, _, none⟩) hbw).trans m1
      have k2' := (HB.out.cell (p := ⟨b, _, none⟩) hbw).trans m2
      have hq4 := heap_alloc_new wr (.cells #[.string o2, .string t2, .slice a2 k2.length cap2] 29)
      obtain ⟨⟨f0, f1, f2⟩, -⟩ := three_cells hq4
      have hb4 := HB.out.alloc HB.out.size (.cells #[.string o2, .string t2, .slice a2 k2.length cap2] 29)
      have c3 := HIH.out (.mk o2 t2 k2) (.agg #[.string o2, .string t2, .slice a2 k2.length cap2]) tv has (wr.alloc (.cells #[.string o2, .string t2, .slice a2 k2.length cap2] 29)) ok (rightL_mem HRK.out hy) (HSL.out.mem hy) (by rw [ExtAt_eq]; exact ⟨a2, cap2, rfl, hl2.below hb4⟩) (HT.out.below hb4)
      have HB4 := Lib.hid hb4
      have HQ4 : Hid ((wr.alloc (.cells #[.string o2, .string t2, .slice a2 k2.length cap2] 29)).heap[w.heap.size]? = some (.cells #[.string ⟨#[124, 124]⟩, .string tag, .slice (some ⟨b, off, none⟩) k.length cap] 29 (0, 0))) := (heap_alloc_old _ _ (lt_of_block HQR.out)).trans HQR.out
      have HST := Lib.hid (anyH_at versM has k i _ hy)
      clear m0 m1 m2 hl2 hq4 hb4 hy
      cases hry : holdsE versM has (.mk o2 t2 k2) with
      | true =>
        rw [hry] at c3
        have HRY := Lib.hid hry
        clear hry
        go_wp2_with fail
        refine c3.mono ?_
        rintro e w5 ⟨rfl, hb5⟩
        have hq5 := (hb5.block _ (lt_of_block HQ4.out)).trans HQ4.out
        obtain ⟨⟨e0, e1, e2⟩, -⟩ := three_cells hq5
        have HB5 := Lib.hid (HB4.out.trans (hb5.mono HB4.out.size))
        clear hq5 hb5
        go_wp2
        go_ret
        refine ⟨?_, HB5.out⟩
        rw [HS.out, ← HM.out, HST.out, HRY.out]
        rfl
      | false =>
        rw [hry] at c3
        have HRY := Lib.hid hry
        clear hry
        go_wp2_with fail
        refine c3.mono ?_
        rintro e w5 ⟨rfl, hb5⟩
        have hq5 := (hb5.block _ (lt_of_block HQ4.out)).trans HQ4.out
        obtain ⟨⟨e0, e1, e2⟩, -⟩ := three_cells hq5
        have HQ5 := Lib.hid hq5
        have HB5 := Lib.hid (HB4.out.trans (hb5.mono HB4.out.size))
        clear hq5 hb5
        go_wp2
        go_roundw
        case rel => exact ⟨i + 1, by go_num, by omega, HB5.out, HQ5.out, by show _ = _; rw [← HM.out, HST.out, HRY.out]; rfl⟩
        case measure => simp [intOf]; omega
    · have g2 : decide ((i : Int) < (k.length : Int)) = false := by simp; omega
      have hik : i = k.length := by omega
      obtain ⟨⟨e0, e1, e2⟩, -⟩ := three_cells HQR.out
      go_wp2
      go_ret
      refine ⟨?_, HB.out⟩
      rw [HS.out, ← HM.out, hik, List.drop_length]
      rfl


set_option maxHeartbeats 3000000 in
set_option maxRecDepth 100000 in
theorem holds_and (left : Nat) (ih : HoldsOk left) (tag : ByteArray) (k : List Ex) (a : Option Addr) (cap : Nat) (tv : Value) (has : ByteArray → Bool) (w : World) (ok : Nat → Prop) (hrk : rightL left k = true) (hks : k.length ≤ 3000000) (hsk : SmallL k) (hl : ExtK w ok k a cap) (hT : TagsOk tv has w) :
    Calls Tryd.prog 26 #[.agg #[.string ⟨#[38, 38]⟩, .string tag, .slice a k.length cap], tv] w fun e w' => e = .returned (.bool (holdsE versM has (.mk ⟨#[38, 38]⟩ tag k))) ∧ Below w.heap.size w w' := by
  have HS : Hid (holdsE versM has (.mk ⟨#[38, 38]⟩ tag k) = allH versM has (k.drop 0)) := ho_and versM has tag k
  have hW1 := (Below.refl w.heap.size w).alloc (Nat.le_refl _) (.cells #[.string ⟨#[38, 38]⟩, .string tag, .slice a k.length cap] 29)
  have hq := heap_alloc_new w (.cells #[.string ⟨#[38, 38]⟩, .string tag, .slice a k.length cap] 29)
  obtain ⟨⟨d0, d1, d2⟩, -⟩ := three_cells hq
  have HQ := Lib.hid hq
  have HW1 := Lib.hid hW1
  have HL := Lib.hid hl
  have HRK := Lib.hid hrk
  have HSL := Lib.hid hsk
  have HKS := Lib.hid hks
  have HIH := Lib.hid ih
  have HT := Lib.hid hT
  clear hq hW1 hl hrk hsk hks ih hT
  go_enter Tryd.func26, Tryd.ntmps26
  go_wp2_with fail
  clear d0 d1 d2
  go_loopw [36] (fun s36 wr => ∃ i : Nat, s36 = .int .i64 i ∧ i ≤ k.length ∧ Hid (Below w.heap.size w wr) ∧ Hid (wr.heap[w.heap.size]? = some (.cells #[.string ⟨#[38, 38]⟩, .string tag, .slice a k.length cap] 29 (0, 0))) ∧ Hid (allH versM has (k.drop i) = allH versM has (k.drop 0)))
    (fun s36 wr => k.length - (intOf s36).toNat)
  case atStart => exact ⟨0, rfl, Nat.zero_le _, HW1, HQ, rfl⟩
  case round =>
    obtain ⟨i, rfl, hi, HB, HQR, HM⟩ := hrel
    have hks := HKS.out
    by_cases hlt : i < k.length
    · have g2 : decide ((i : Int) < (k.length : Int)) = true := by simp; omega
      obtain ⟨⟨o2, t2, k2⟩, hy⟩ : ∃ y, k[i]? = some y := ⟨k[i], by simp [hlt]⟩
      obtain ⟨b, off, a2, cap2, rfl, hbw, m0, m1, m2, hl2⟩ := HL.out.cells hy
      have k0 := (HB.out.cell (p := ⟨b, _, none⟩) hbw).trans m0
      have k1 := (HB.out.cell (p := ⟨b, _, none⟩) hbw).trans m1
      have k2' := (HB.out.cell (p := ⟨b, _, none⟩) hbw).trans m2
      have hq4 := heap_alloc_new wr (.cells #[.string o2, .string t2, .slice a2 k2.length cap2] 29)
      obtain ⟨⟨f0, f1, f2⟩, -⟩ := three_cells hq4
      have hb4 := HB.out.alloc HB.out.size (.cells #[.string o2, .string t2, .slice a2 k2.length cap2] 29)
      have c3 := HIH.out (.mk o2 t2 k2) (.agg #[.string o2, .string t2, .slice a2 k2.length cap2]) tv has (wr.alloc (.cells #[.string o2, .string t2, .slice a2 k2.length cap2] 29)) ok (rightL_mem HRK.out hy) (HSL.out.mem hy) (by rw [ExtAt_eq]; exact ⟨a2, cap2, rfl, hl2.below hb4⟩) (HT.out.below hb4)
      have HB4 := Lib.hid hb4
      have HQ4 : Hid ((wr.alloc (.cells #[.string o2, .string t2, .slice a2 k2.length cap2] 29)).heap[w.heap.size]? = some (.cells #[.string ⟨#[38, 38]⟩, .string tag, .slice (some ⟨b, off, none⟩) k.length cap] 29 (0, 0))) := (heap_alloc_old _ _ (lt_of_block HQR.out)).trans HQR.out
      have HST := Lib.hid (allH_at versM has k i _ hy)
      clear m0 m1 m2 hl2 hq4 hb4 hy
      cases hry : holdsE versM has (.mk o2 t2 k2) with
      | false =>
        rw [hry] at c3
        have HRY := Lib.hid hry
        clear hry
        go_wp2_with fail
        refine c3.mono ?_
        rintro e w5 ⟨rfl, hb5⟩
        have hq5 := (hb5.block _ (lt_of_block HQ4.out)).trans HQ4.out
        obtain ⟨⟨e0, e1, e2⟩, -⟩ := three_cells hq5
        have HB5 := Lib.hid (HB4.out.trans (hb5.mono HB4.out.size))
        clear hq5 hb5
        go_wp2
        go_ret
        refine ⟨?_, HB5.out⟩
        rw [HS.out, ← HM.out, HST.out, HRY.out]
        rfl
      | true =>
        rw [hry] at c3
        have HRY := Lib.hid hry
        clear hry
        go_wp2_with fail
        refine c3.mono ?_
        rintro e w5 ⟨rfl, hb5⟩
        have hq5 := (hb5.block _ (lt_of_block HQ4.out)).trans HQ4.out
        obtain ⟨⟨e0, e1, e2⟩, -⟩ := three_cells hq5
        have HQ5 := Lib.hid hq5
        have HB5 := Lib.hid (HB4.out.trans (hb5.mono HB4.out.size))
        clear hq5 hb5
        go_wp2
        go_roundw
        case rel => exact ⟨i + 1, by go_num, by omega, HB5.out, HQ5.out, by show _ = _; rw [← HM.out, HST.out, HRY.out]; rfl⟩
        case measure => simp [intOf]; omega
    · have g2 : decide ((i : Int) < (k.length : Int)) = false := by simp; omega
      have hik : i = k.length := by omega
      obtain ⟨⟨e0, e1, e2⟩, -⟩ := three_cells HQR.out
      go_wp2
      go_ret
      refine ⟨?_, HB.out⟩
      rw [HS.out, ← HM.out, hik, List.drop_length]
      rfl

theorem holds_any : ∀ left, HoldsOk left
  | 0 => by
    intro x v tv has w ok hr hs hx hT
    obtain ⟨op, tag, k⟩ := x
    exact absurd (right_parts hr).1 (by decide)
  | left + 1 => by
    have ih := holds_any left
    intro x v tv has w ok hr hs hx hT
    obtain ⟨op, tag, k⟩ := x
    obtain ⟨-, hsh, hrl⟩ := right_parts hr
    rw [ExtAt_eq] at hx
    obtain ⟨a, cap, rfl, hl⟩ := hx
    rw [Small] at hs
    obtain ⟨hts, hks, hsl⟩ := hs
    rw [show left + 1 - 1 = left from rfl] at hrl
    rcases str_cases op with rfl | rfl | rfl | rfl | ⟨n0, n1, n2, n3⟩
    · exact holds_tag tag k a cap tv has w hts hT
    · rw [sh_not, Bool.and_eq_true, beq_iff_eq] at hsh
      match k, hsh.2, hl, hsl, hrl with
      | [y], _, hl, hsl, hrl =>
        rw [rightL, Bool.and_eq_true] at hrl
        rw [SmallL] at hsl
        exact holds_not left ih tag y a cap tv has w ok hrl.1 hsl.1 hl hT
    · exact holds_and left ih tag k a cap tv has w ok hrl hks hsl hl hT
    · exact holds_or left ih tag k a cap tv has w ok hrl hks hsl hl hT
    · rw [sh_other op tag k (str_empty n0).2 (str_ne (l := [33]) n1).2 (str_ne (l := [38, 38]) n2).2 (str_ne (l := [124, 124]) n3).2] at hsh
      cases hsh
def holdsM (has : ByteArray → Bool) (x : Ex) : Bool := rightE 100 x && holdsE versM has x
set_option maxRecDepth 100000 in
theorem Holds_any (x : Ex) (v tv : Value) (has : ByteArray → Bool) (w : World) (ok : Nat → Prop) (hs : Small x) (hx : ExtAt w ok x v) (hT : TagsOk tv has w) : Calls Tryd.prog 14 #[v, tv] w fun e w' => e = .returned (.bool (holdsM has x)) ∧ Below w.heap.size w w' := by
  obtain ⟨op, tag, k⟩ := x
  rw [ExtAt_eq] at hx
  obtain ⟨a, cap, rfl, hl⟩ := hx
  have hW1 := (Below.refl w.heap.size w).alloc (Nat.le_refl _) (.cells #[.string op, .string tag, .slice a k.length cap] 29)
  have hq := heap_alloc_new w (.cells #[.string op, .string tag, .slice a k.length cap] 29)
  obtain ⟨⟨d0, d1, d2⟩, -⟩ := three_cells hq
  have c1 := Right_any (.mk op tag k) (.agg #[.string op, .string tag, .slice a k.length cap]) (w.alloc (.cells #[.string op, .string tag, .slice a k.length cap] 29)) ok hs (by rw [ExtAt_eq]; exact ⟨a, cap, rfl, hl.below hW1⟩)
  have HW1 := Lib.hid hW1
  have HQ := Lib.hid hq
  have HL := Lib.hid hl
  have HT := Lib.hid hT
  have HSM := Lib.hid hs
  clear hW1 hq hs hl hT
  unfold holdsM
  cases hr : rightE 100 (.mk op tag k) with
  | false =>
    rw [hr] at c1
    clear hr
    go_enter Tryd.func14, Tryd.ntmps14
    go_wp2_with fail
    refine c1.mono ?_
    rintro e w2 ⟨rfl, hb2⟩
    go_wp2
    go_ret
    exact ⟨rfl, HW1.out.trans (hb2.mono HW1.out.size)⟩
  | true =>
    rw [hr] at c1
    have HR := Lib.hid hr
    clear hr
    go_enter Tryd.func14, Tryd.ntmps14
    go_wp2_with fail
    refine c1.mono ?_
    rintro e w2 ⟨rfl, hb2⟩
    have hq2 := (hb2.block _ (lt_of_block HQ.out)).trans HQ.out
    obtain ⟨⟨e0, e1, e2⟩, -⟩ := three_cells hq2
    have HB2 := Lib.hid (HW1.out.trans (hb2.mono HW1.out.size))
    have c2 := holds_any 100 (.mk op tag k) (.agg #[.string op, .string tag, .slice a k.length cap]) tv has w2 ok HR.out HSM.out (by rw [ExtAt_eq]; exact ⟨a, cap, rfl, HL.out.below HB2.out⟩) (HT.out.below HB2.out)
    clear hq2 hb2 d0 d1 d2 c1
    go_wp2_with fail
    refine c2.mono ?_
    rintro e w3 ⟨rfl, hb3⟩
    go_wp2
    go_ret
    refine ⟨?_, HB2.out.trans (hb3.mono HB2.out.size)⟩
    rfl
end Go.Proofs.YtojdhlmmnhjolaaDoor
