/- demoticref09: a sum, a difference. -/
import Derived.Test.YtpdkebljacmgfaaDoorRef9a
namespace Go.Proofs.YtpdkebljacmgfaaDoor
open Go.RowKit
set_option linter.unusedVariables false

theorem text_size {s : ByteArray} {n : Nat} (hs : s.data.toList = Lib.decDigits n) : s.size = Lib.nDigits n := by
  have := congrArg List.length hs
  rw [Lib.decDigits_length] at this
  simpa using this
theorem Ints.app {w : World} {B : Nat} {v : Value} {l : List Nat} {m d : Nat} {z : Int} (h : w.ownsRow B 3 1 v (m + 1) (ivals l ++ [Value.int .i64 z])) (hz : z = (d : Int)) (hm : l.length = m) : Ints w B v (l ++ [d]) := by
  unfold Ints
  subst hz
  rw [List.length_append, hm, show ivals (l ++ [d]) = ivals l ++ [Value.int .i64 (d : Int)] from List.map_append]
  exact h
theorem Ints.nil (w : World) (B : Nat) : Ints w B (.slice none 0 0) [] := World.ownsRow_nil _ _ _ _

set_option maxHeartbeats 4000000 in
set_option maxRecDepth 100000 in
theorem refAdd_any (s t : ByteArray) (n m : Nat) (hs : s.data.toList = Lib.decDigits n) (ht : t.data.toList = Lib.decDigits m) (h1 : s.size ≤ 1000) (h2 : t.size ≤ 1000) (w : World) :
    Calls Tryd.prog 53 #[.string s, .string t] w fun e w' => e = .returned (.string ⟨(Lib.decDigits (n + m)).toArray⟩) ∧ Below w.heap.size w w' := by
  obtain ⟨i0, hi, hz0, hz1, hz2⟩ := info_parts int_info
  have z1 := text_size hs
  have z2 := text_size ht
  have A1 := Lib.hid (fun i W => refAt_any s n hs (by omega) i W)
  have A2 := Lib.hid (fun i W => refAt_any t m ht (by omega) i W)
  have Z1 := Lib.hid z1
  have Z2 := Lib.hid z2
  obtain ⟨M, hM⟩ : ∃ M : Nat, max (s.size : Int) (t.size : Int) = (M : Int) := ⟨max s.size t.size, by omega⟩
  have hM1 : s.size ≤ M ∧ t.size ≤ M ∧ M ≤ 1000 := by omega
  obtain ⟨hMa, hMb, hMc⟩ := hM1
  have hST : Hid (Ten.AddAt (Ten.dgs n) (Ten.dgs m) [] 0 0) := Lib.hid (Ten.AddAt.start _ _)
  clear z1 z2 hs ht
  go_enter Tryd.func53, Tryd.ntmps53
  go_wp2
  go_loopw [5, 6, 7, 8] (fun lv cv iv _ wr => ∃ (k c : Nat) (L : List Nat), cv = .int .i64 c ∧ iv = .int .i64 k ∧ k ≤ M + 1 ∧ c ≤ 1 ∧ Hid (Ints wr w.heap.size lv L) ∧ Hid (Ten.AddAt (Ten.dgs n) (Ten.dgs m) L k c) ∧ Hid (Below w.heap.size w wr)) (fun _ _ iv _ _ => M + 1 - (intOf iv).toNat)
  case atStart => exact ⟨0, 0, [], rfl, rfl, by omega, by omega, Lib.hid (Ints.nil _ _), hST, Lib.hid (Below.refl _ _)⟩
  case round =>
    clear hST
    obtain ⟨k, c, L, rfl, rfl, hk, hc, HI, HA, HB⟩ := hrel
    by_cases hlt : k ≤ M
    · have d1 := (Ten.dgs_ok n).get k
      have d2 := (Ten.dgs_ok m).get k
      have C1 := A1.out k wr
      have C2 := A2.out k wr
      have HS := Lib.hid (HA.out.step (Ten.dgs_ok n) (Ten.dgs_ok m))
      have hll := HA.out.len
      generalize (Ten.dgs n).getD k 0 = x at *
      generalize (Ten.dgs m).getD k 0 = y at *
      have hown : wr.ownsRow w.heap.size 3 1 _ L.length (ivals L) := HI.out
      have hszw := HB.out.size
      have hL1 : L.length ≤ 10000 := by omega
      have HLL := Lib.hid hll
      clear hll HA HI
      go_wp2_with (first | (go_at_call 70; (with_reducible refine C1.mono ?_); rintro e w' ⟨rfl, rfl⟩) | (go_at_call 70; (with_reducible refine C2.mono ?_); rintro e w' ⟨rfl, rfl⟩) | (at_builtin; refine wpList_append_own _ rfl (.tmp 27) (.tmp 30) 80 rfl w.heap.size 3 i0 (.int .i64 0) 1 8 Tryd.underlying80 hi hz0 hz1 hz2 rfl (by decide) _ _ _ rfl (hown.alloc _) ⟨wr.heap.size, 0, none⟩ 1 1 [.int .i64 (((x : Int) + y + c) % 10)] rfl rfl (one_cell_at wr _ _) (fun u hu => by simp at hu; subst hu; rfl) (by unfold maxLen; omega) (by omega) (by simp; omega) ?_; intro v' w2 hown2 hgr2 _; have HZZ := Lib.hid (show _ ∧ _ from ⟨hown2, hgr2⟩); clear hown2 hgr2))
      obtain ⟨hown2, hgr2⟩ := HZZ.out
      have HI2 := Lib.hid (Ints.app (d := (x + y + c) % 10) hown2 (by omega) rfl)
      have HB2 := Lib.hid ((HB.out.alloc (by omega) _).grown hgr2 (by simp; omega) (fun i hi => (hown.lt i hi).1))
      clear HZZ hown2 hgr2 hown C1 C2
      go_roundw
      case rel => exact ⟨k + 1, (x + y + c) / 10, L ++ [(x + y + c) % 10], by go_num, by go_num, by omega, by omega, HI2, HS, HB2⟩
      case measure => simp [intOf]; omega
    · obtain rfl : k = M + 1 := by omega
      have hv := HA.out.fin (by have := Z1.out; omega) (by have := Z2.out; omega)
      obtain ⟨a, cap, rfl⟩ := HI.out.form
      have hll := HA.out.len
      have CP := refPlain_any w.heap.size _ L HA.out.ok (by omega) (by omega) wr HI.out
      rw [hv, hll] at CP
      rw [hll]
      have HC := Lib.hid CP
      clear CP hv hll HA HI
      go_wp2_with fail
      refine HC.out.mono ?_
      rintro e w2 ⟨rfl, hb⟩
      have HB2 := Lib.hid (HB.out.trans (hb.mono HB.out.size))
      clear hb
      go_wp2
      go_ret
      exact ⟨rfl, HB2.out⟩

set_option maxHeartbeats 4000000 in
set_option maxRecDepth 100000 in
theorem refTake_any (s t : ByteArray) (n m : Nat) (hs : s.data.toList = Lib.decDigits n) (ht : t.data.toList = Lib.decDigits m) (hle : m ≤ n) (h1 : s.size ≤ 1000) (h2 : t.size ≤ 1000) (w : World) :
    Calls Tryd.prog 54 #[.string s, .string t] w fun e w' => e = .returned (.string ⟨(Lib.decDigits (n - m)).toArray⟩) ∧ Below w.heap.size w w' := by
  obtain ⟨i0, hi, hz0, hz1, hz2⟩ := info_parts int_info
  have z1 := text_size hs
  have A1 := Lib.hid (fun i W => refAt_any s n hs (by omega) i W)
  have A2 := Lib.hid (fun i W => refAt_any t m ht (by omega) i W)
  have Z1 := Lib.hid z1
  have HLE := Lib.hid hle
  have hpos : 1 ≤ s.size := by have := Lib.nDigits_pos n; omega
  obtain ⟨M, hM⟩ : ∃ M, M = s.size := ⟨_, rfl⟩
  have HM := Lib.hid hM
  have hMc : M ≤ 1000 := by omega
  have hMp : 1 ≤ M := by omega
  have hST : Hid (Ten.SubAt (Ten.dgs n) (Ten.dgs m) [] 0 0) := Lib.hid (Ten.SubAt.start _ _)
  clear z1 hs ht hle hpos
  rw [← hM] at Z1
  clear hM
  go_enter Tryd.func54, Tryd.ntmps54
  go_wp2
  go_loopw [5, 6, 7, 8] (fun lv cv iv _ wr => ∃ (k c : Nat) (L : List Nat), cv = .int .i64 c ∧ iv = .int .i64 k ∧ k ≤ s.size ∧ c ≤ 1 ∧ Hid (Ints wr w.heap.size lv L) ∧ Hid (Ten.SubAt (Ten.dgs n) (Ten.dgs m) L k c) ∧ Hid (Below w.heap.size w wr)) (fun _ _ iv _ _ => s.size - (intOf iv).toNat)
  case atStart => exact ⟨0, 0, [], rfl, rfl, by omega, by omega, Lib.hid (Ints.nil _ _), hST, Lib.hid (Below.refl _ _)⟩
  case round =>
    clear hST
    obtain ⟨k, c, L, rfl, rfl, hk, hc, HI, HA, HB⟩ := hrel
    by_cases hlt : k < s.size
    · have d1 := (Ten.dgs_ok n).get k
      have d2 := (Ten.dgs_ok m).get k
      have C1 := A1.out k wr
      have C2 := A2.out k wr
      have HS0 := Lib.hid (fun d c' => HA.out.step (d := d) (c' := c'))
      have hll := HA.out.len
      generalize (Ten.dgs n).getD k 0 = x at *
      generalize (Ten.dgs m).getD k 0 = y at *
      have hown : wr.ownsRow w.heap.size 3 1 _ L.length (ivals L) := HI.out
      have hszw := HB.out.size
      have hL1 : L.length ≤ 10000 := by omega
      have HLL := Lib.hid hll
      clear hll HA HI
      by_cases hneg : x < y + c
      · have HS := Lib.hid (HS0.out (x + 10 - y - c) 1 (by omega) (by omega) (by omega))
        clear HS0
        go_wp2_with (first | (go_at_call 70; (with_reducible refine C1.mono ?_); rintro e w' ⟨rfl, rfl⟩) | (go_at_call 70; (with_reducible refine C2.mono ?_); rintro e w' ⟨rfl, rfl⟩) | (at_builtin; refine wpList_append_own _ rfl (.tmp 28) (.tmp 30) 80 rfl w.heap.size 3 i0 (.int .i64 0) 1 8 Tryd.underlying80 hi hz0 hz1 hz2 rfl (by decide) _ _ _ rfl (hown.alloc _) ⟨wr.heap.size, 0, none⟩ 1 1 [.int .i64 ((x : Int) - y - c + 10)] rfl rfl (one_cell_at wr _ _) (fun u hu => by simp at hu; subst hu; rfl) (by unfold maxLen; omega) (by omega) (by simp; omega) ?_; intro v' w2 hown2 hgr2 _; have HZZ := Lib.hid (show _ ∧ _ from ⟨hown2, hgr2⟩); clear hown2 hgr2))
        obtain ⟨hown2, hgr2⟩ := HZZ.out
        have HI2 := Lib.hid (Ints.app (d := (x + 10 - y - c)) hown2 (by omega) rfl)
        have HB2 := Lib.hid ((HB.out.alloc (by omega) _).grown hgr2 (by simp; omega) (fun i hi => (hown.lt i hi).1))
        clear HZZ hown2 hgr2 hown C1 C2
        go_roundw
        case rel => exact ⟨k + 1, 1, L ++ [(x + 10 - y - c)], rfl, by go_num, by omega, by omega, HI2, HS, HB2⟩
        case measure => simp [intOf]; omega
      · have HS := Lib.hid (HS0.out (x - y - c) 0 (by omega) (by omega) (by omega))
        clear HS0
        go_wp2_with (first | (go_at_call 70; (with_reducible refine C1.mono ?_); rintro e w' ⟨rfl, rfl⟩) | (go_at_call 70; (with_reducible refine C2.mono ?_); rintro e w' ⟨rfl, rfl⟩) | (at_builtin; refine wpList_append_own _ rfl (.tmp 28) (.tmp 30) 80 rfl w.heap.size 3 i0 (.int .i64 0) 1 8 Tryd.underlying80 hi hz0 hz1 hz2 rfl (by decide) _ _ _ rfl (hown.alloc _) ⟨wr.heap.size, 0, none⟩ 1 1 [.int .i64 ((x : Int) - y - c)] rfl rfl (one_cell_at wr _ _) (fun u hu => by simp at hu; subst hu; rfl) (by unfold maxLen; omega) (by omega) (by simp; omega) ?_; intro v' w2 hown2 hgr2 _; have HZZ := Lib.hid (show _ ∧ _ from ⟨hown2, hgr2⟩); clear hown2 hgr2))
        obtain ⟨hown2, hgr2⟩ := HZZ.out
        have HI2 := Lib.hid (Ints.app (d := (x - y - c)) hown2 (by omega) rfl)
        have HB2 := Lib.hid ((HB.out.alloc (by omega) _).grown hgr2 (by simp; omega) (fun i hi => (hown.lt i hi).1))
        clear HZZ hown2 hgr2 hown C1 C2
        go_roundw
        case rel => exact ⟨k + 1, 0, L ++ [(x - y - c)], rfl, by go_num, by omega, by omega, HI2, HS, HB2⟩
        case measure => simp [intOf]; omega
    · obtain rfl : k = s.size := by omega
      have hv := HA.out.fin (by have := Z1.out; have := HM.out; omega) HLE.out
      obtain ⟨a, cap, rfl⟩ := HI.out.form
      have hll := HA.out.len
      have CP := refPlain_any w.heap.size _ L HA.out.ok (by omega) (by have := HM.out; omega) wr HI.out
      rw [hv, hll] at CP
      rw [hll]
      have HC := Lib.hid CP
      clear CP hv hll HA HI
      go_wp2_with fail
      refine HC.out.mono ?_
      rintro e w2 ⟨rfl, hb⟩
      have HB2 := Lib.hid (HB.out.trans (hb.mono HB.out.size))
      clear hb
      go_wp2
      go_ret
      exact ⟨rfl, HB2.out⟩
end Go.Proofs.YtpdkebljacmgfaaDoor
