/- VerNotes: notes and blank lines change nothing of a go.mod. -/
import Derived.Test.YtnghlhkgeahfmaaDoorVer15
namespace Go.Proofs.YtnghlhkgeahfmaaDoor
open Go.RowKit
set_option linter.unusedVariables false

set_option maxHeartbeats 1000000 in
set_option maxRecDepth 100000 in
theorem notes_walk (a : Option Addr) (cap : Nat) (s note : ByteArray) (w : World) (hT : Text w a s) (hc : s.size ≤ cap) (hm : MaxLen w) : Calls Tryd.prog 6 #[.slice a s.size cap, .string note] w fun e w' => e = .returned (.bool true) ∧ Below w.heap.size w w' := by
  by_cases h1 : 500 < s.size
  · have g1 : decide ((500 : Int) < (s.size : Int)) = true := by simp; omega
    clear h1 hm hT hc
    go_enter Tryd.func6, Tryd.ntmps6
    go_wp2
    go_ret
    exact ⟨rfl, Below.refl _ _⟩
  have g1 : decide ((500 : Int) < (s.size : Int)) = false := by simp; omega
  by_cases h2 : 50 < note.size
  · have g2 : decide ((50 : Int) < (note.size : Int)) = true := by simp; omega
    clear h1 h2 hm hT hc
    go_enter Tryd.func6, Tryd.ntmps6
    go_wp2
    go_ret
    exact ⟨rfl, Below.refl _ _⟩
  have g2 : decide ((50 : Int) < (note.size : Int)) = false := by simp; omega
  have c1 := read_any s a cap w hT (by omega) hm
  rw [readV_short s (by omega)] at c1
  have HM := Lib.hid hm
  have HT := Lib.hid hT
  have HS : Hid (s.size ≤ 500 ∧ note.size ≤ 50) := ⟨by omega, by omega⟩
  clear hm hT hc h1 h2
  obtain ⟨p, m, er, hme, her⟩ : ∃ p m er, modE (readL (ls s)) = modV p m ∧ errE (readL (ls s)) = er := by
    cases readL (ls s) with
    | none => exact ⟨[], 0, 7, rfl, rfl⟩
    | some x => exact ⟨x.1, x.2, 0, rfl, rfl⟩
  rw [hme, her] at c1
  unfold modV at c1
  obtain ⟨u, hu⟩ : ∃ u : ByteArray, (⟨#[47, 47, 32]⟩ : ByteArray) ++ note ++ ⟨#[10, 10, 32, 9, 13, 10]⟩ ++ s ++ ⟨#[10, 47, 47]⟩ ++ note = u := ⟨_, rfl⟩
  have hul : ls u = noteA (ls note) ++ 10 :: ([] ++ 10 :: ([32, 9, 13] ++ 10 :: (ls s ++ 10 :: (47 :: 47 :: ls note)))) := by
    rw [← hu, ls_app, ls_app, ls_app, ls_app, ls_app]
    simp only [List.append_assoc]
    rfl
  have hs1 := HS.out.1
  have hs2 := HS.out.2
  have hus : u.size ≤ 1000 := by rw [← hu, size_app, size_app, size_app, size_app, size_app]; show 3 + note.size + 6 + s.size + 3 + note.size ≤ _; omega
  have c2 : ∀ a cap w, Text w a u → MaxLen w → (∀ c ∈ ls note, c ≠ 10) → Calls Tryd.prog 17 #[.slice a u.size cap] w fun e w' => e = .returned (.tuple #[.agg #[.string ⟨p.toArray⟩, .int .i64 (m : Nat)], .int .i64 er]) ∧ Below w.heap.size w w' := fun a cap w hT hm hn => by
    have := read_any u a cap w hT (by omega) hm
    rw [readV_short u (by omega), hul, notes_same _ _ hn, hme, her] at this
    exact this
  have K1 := fun w => run_string_add_sum (P := Tryd.prog) w ⟨#[47, 47, 32]⟩ note (by show 3 + note.size ≤ _; omega)
  have K2 := fun w => run_string_add_sum (P := Tryd.prog) w (⟨#[47, 47, 32]⟩ ++ note) ⟨#[10, 10, 32, 9, 13, 10]⟩ (by rw [size_app]; show 3 + note.size + 6 ≤ _; omega)
  have K3 := fun w => run_string_add_sum (P := Tryd.prog) w (⟨#[47, 47, 32]⟩ ++ note ++ ⟨#[10, 10, 32, 9, 13, 10]⟩) s (by rw [size_app, size_app]; show 3 + note.size + 6 + s.size ≤ _; omega)
  have K4 := fun w => run_string_add_sum (P := Tryd.prog) w (⟨#[47, 47, 32]⟩ ++ note ++ ⟨#[10, 10, 32, 9, 13, 10]⟩ ++ s) ⟨#[10, 47, 47]⟩ (by rw [size_app, size_app, size_app]; show 3 + note.size + 6 + s.size + 3 ≤ _; omega)
  have K5 := fun w => run_string_add_sum (P := Tryd.prog) w (⟨#[47, 47, 32]⟩ ++ note ++ ⟨#[10, 10, 32, 9, 13, 10]⟩ ++ s ++ ⟨#[10, 47, 47]⟩) note (by rw [size_app, size_app, size_app, size_app]; show 3 + note.size + 6 + s.size + 3 + note.size ≤ _; omega)
  rw [hu] at K5
  have C2 := Lib.hid c2
  have C1 := Lib.hid c1
  have KK := Lib.hid (And.intro K1 (And.intro K2 (And.intro K3 (And.intro K4 K5))))
  have f0 : (note.size : Int) ≤ 50 := by omega
  clear hme her hs1 hs2 hu hul hus c1 c2 K1 K2 K3 K4 K5
  go_enter Tryd.func6, Tryd.ntmps6
  go_wp2
  go_loopw [5] (fun v5 wr => wr = w ∧ ∃ i : Nat, v5 = .int .i64 i ∧ i ≤ note.size ∧ Hid (∀ j, j < i → bt note j ≠ 10)) (fun v5 _ => note.size - (match v5 with | .int _ i => i.toNat | _ => 0))
  case atStart => exact ⟨rfl, 0, rfl, Nat.zero_le _, fun j h => by omega⟩
  case round =>
    obtain ⟨rfl, i, rfl, hi, HJ⟩ := hrel
    have HI := Lib.hid hi
    by_cases hlt : i < note.size
    · have f1 : (i : Int) < (note.size : Int) := by omega
      have f2 : (0 : Int) ≤ (i : Int) := by omega
      have hb := bt_eq note i hlt
      have hb256 : note[i].toNat < 256 := note[i].toNat_lt
      cases ht : (((note[i].toNat : Nat) : Int) == 10)
      · have hne : bt note i ≠ 10 := by
          intro h
          rw [hb] at h
          rw [h] at ht
          simp at ht
        have HNE := Lib.hid hne
        clear hi hb hne
        go_wp2_with fail
        go_roundw
        case rel =>
          refine ⟨by first | exact rfl | trivial, i + 1, rfl, by omega, ?_⟩
          intro j hj
          rcases Nat.lt_or_ge j i with h | h
          · exact HJ.out j h
          · obtain rfl : j = i := by omega
            exact HNE.out
        case measure => simp; omega
      · clear hi hb
        go_wp2_with fail
        refine bodyPost_ret (results_tmp rfl _ _ _) rfl ?_
        exact ⟨rfl, Below.refl _ _⟩
    · have f1 : ¬ ((i : Int) < (note.size : Int)) := by omega
      have hno : ∀ c ∈ ls note, c ≠ 10 := by
        intro c hc e
        subst e
        obtain ⟨j, hj⟩ := List.mem_iff_getElem?.1 hc
        have hjl : j < note.size := by rw [← ls_len]; exact (List.getElem?_eq_some_iff.1 hj).1
        obtain ⟨c', g1, g2⟩ := ls_at note j hjl
        rw [hj] at g1
        injection g1 with g1
        subst g1
        exact HJ.out j (by omega) g2.symm
      have HNO := Lib.hid hno
      obtain ⟨K1, K2, K3, K4, K5⟩ := KK.out
      have c1 := C1.out
      clear hno hi hlt
      go_wp2_with ((with_reducible refine c1.mono ?_); rintro e w1 ⟨rfl, hb⟩; have HB1 := Lib.hid hb; clear hb)
      clear c1
      have HBa := Lib.hid (HB1.out.alloc HB1.out.size (.cells #[.string ⟨p.toArray⟩, .int .i64 (m : Nat)] 33))
      have H6 := Lib.hid (heap_alloc_new w1 (.cells #[.string ⟨p.toArray⟩, .int .i64 (m : Nat)] 33))
      obtain ⟨b6, hb6⟩ : ∃ b6, b6 = w1.heap.size := ⟨_, rfl⟩
      rw [← hb6] at H6 ⊢
      clear hb6
      generalize w1.alloc (.cells #[.string ⟨p.toArray⟩, .int .i64 (m : Nat)] 33) = W2 at *
      rw [(HT.out.below HBa.out).conv cap]
      simp only [Result.andThen]
      rw [Oper.upon_value]
      go_wp2_with fail
      obtain ⟨W3, cap3, r3, _, hT3, hb3⟩ := conv_text W2 u
      rw [r3]
      simp only [Result.andThen]
      rw [Oper.upon_value]
      have HB3 := Lib.hid (HBa.out.trans (hb3.mono HBa.out.size))
      have H63 : Hid (W3.heap[b6]? = _) := (hb3.block _ (lt_of_block H6.out)).trans H6.out
      have c2 := C2.out _ cap3 W3 hT3 (HM.out.below HB3.out) HNO.out
      clear r3 hT3 hb3
      go_wp2_with (first
        | ((with_reducible refine c2.mono ?_); rintro e w4 ⟨rfl, hb⟩; have HB4 := Lib.hid (HB3.out.trans (hb.mono HB3.out.size)); have H64 := (hb.block _ (lt_of_block H63.out)).trans H63.out; obtain ⟨x0, x1, _, _⟩ := two_cells (at_old _ (.cells #[.string ⟨p.toArray⟩, .int .i64 (m : Nat)] 33) _ _ H64); have HMA := HM.out.below (HB4.out.alloc HB4.out.size (.cells #[.string ⟨p.toArray⟩, .int .i64 (m : Nat)] 33)); have HMAh := Lib.hid HMA; clear hb H64 HMA)
        | ((with_reducible refine (awake_any _ HMAh.out).mono ?_); rintro e w9 ⟨rfl, hb⟩; have HB9 := Lib.hid hb; clear hb))
      go_ret
      have hb4 := HB4.out.alloc HB4.out.size (.cells #[.string ⟨p.toArray⟩, .int .i64 (m : Nat)] 33)
      exact ⟨rfl, hb4.trans (HB9.out.mono hb4.size)⟩
end Go.Proofs.YtnghlhkgeahfmaaDoor
