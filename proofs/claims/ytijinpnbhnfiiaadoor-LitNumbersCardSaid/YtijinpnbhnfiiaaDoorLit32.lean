/- The document's Number. -/
import Derived.Test.YtijinpnbhnfiiaaDoorLit31
import Derived.Deep.DeepCutAuto
namespace Go.Proofs.YtijinpnbhnfiiaaDoor
open Go.RowKit
set_option linter.unusedVariables false

/-- The digits from byte i on, behind l; none: it is no number. -/
def refNumF (s : ByteArray) (base : Nat) : Nat → Nat → List Nat → Option (List Nat)
  | 0, _, l => some l
  | f + 1, i, l => if i < s.size then
      (if bt s i = 95 then (if i + 1 = s.size ∨ bt s (i + 1) = 95 then none else refNumF s base f (i + 1) l)
      else if base ≤ dgB (bt s i) then none
      else refNumF s base f (i + 1) (l ++ [dgB (bt s i)]))
    else some l
def refNumE (base : Nat) : Option (List Nat) → ByteArray × Int
  | none => (⟨#[]⟩, 4)
  | some l => if l.length = 0 then (⟨#[]⟩, 4) else (writtenB (foldD base l), 0)
def refNum (s : ByteArray) : ByteArray × Int :=
  if 200 < s.size then (⟨#[]⟩, 12)
  else if s.size = 0 ∨ bt s 0 < 48 ∨ 57 < bt s 0 then (⟨#[]⟩, 4)
  else refNumE (splitN s).1 (refNumF s (splitN s).1 s.size (splitN s).2 [])

theorem Digs.ints {w : World} {B : Nat} {a : Option Addr} {cap : Nat} {l : List Nat} (h : Digs w B (.slice a l.length cap) l) : IntsAt w a l := by
  by_cases h0 : l.length = 0
  · exact .inl h0
  · rcases h.2 with ⟨_, h1⟩ | ⟨g, cap', cur, hv, hB, hg, r⟩
    · exact absurd h1 h0
    · injection hv with e1 _ _
      subst e1
      refine .inr ⟨g, rfl, lt_of_block hg, fun i d hi => ?_⟩
      obtain ⟨g2, c2, hv2, _, _, hc, _⟩ := h.at i d hi
      injection hv2 with e1 _ _
      injection e1 with e1
      injection e1 with e1
      subst e1
      exact hc
theorem splitN_at (s : ByteArray) : (splitN s).2 ≤ 2 ∧ ((splitN s).2 ≠ 0 → 2 ≤ s.size) := by
  unfold splitN
  split
  · simp
  · rename_i h1
    repeat' split
    all_goals simp
    all_goals omega

def NumEnds (w : World) (r : ByteArray × Int) (e : Ending) (w' : World) : Prop := e = .returned (.tuple #[.string r.1, .int .i64 r.2]) ∧ Below w.heap.size w w'

set_option maxHeartbeats 4000000 in
set_option maxRecDepth 100000 in
theorem refNumber_any (s : ByteArray) (hs : s.size ≤ 300) (w : World) : Calls Tryd.prog 8 #[.string s] w fun e w' => NumEnds w (refNum s) e w' := by
  have HN : Hid (refNum s = if 200 < s.size then (⟨#[]⟩, 12) else if s.size = 0 ∨ bt s 0 < 48 ∨ 57 < bt s 0 then (⟨#[]⟩, 4) else refNumE (splitN s).1 (refNumF s (splitN s).1 s.size (splitN s).2 [])) := rfl
  by_cases h2 : 200 < s.size
  · have HE : Hid (refNum s = (⟨#[]⟩, 12)) := by show _ = _; rw [HN.out, if_pos h2]
    have g1 : decide ((200 : Int) < (s.size : Int)) = true := decide_eq_true (by omega)
    clear h2
    go_enter Tryd.func8, Tryd.ntmps8
    go_wp2
    go_ret2
    rw [HE.out]
    exact ⟨rfl, Below.refl _ w⟩
  have g1 : decide ((200 : Int) < (s.size : Int)) = false := decide_eq_false (by omega)
  by_cases h0 : s.size = 0
  · have HE : Hid (refNum s = (⟨#[]⟩, 4)) := by show _ = _; rw [HN.out, if_neg h2, if_pos (.inl h0)]
    have g0 : ((s.size : Int) == 0) = true := by rw [h0]; rfl
    clear h0
    go_enter Tryd.func8, Tryd.ntmps8
    go_wp2
    go_ret2
    rw [HE.out]
    exact ⟨rfl, Below.refl _ w⟩
  have g0 : ((s.size : Int) == 0) = false := beq_eq_false_iff_ne.2 (by omega)
  have hp : 0 < s.size := by omega
  have eb := bt_eq s 0 hp
  have lb := bt_lt s 0
  by_cases hc : bt s 0 < 48 ∨ 57 < bt s 0
  · have HE : Hid (refNum s = (⟨#[]⟩, 4)) := by show _ = _; rw [HN.out, if_neg h2, if_pos (.inr hc)]
    have hcc : decide (((s[0].toNat : Nat) : Int) < 48) = true ∨ (decide (((s[0].toNat : Nat) : Int) < 48) = false ∧ decide ((57 : Int) < ((s[0].toNat : Nat) : Int)) = true) := by
      rw [← eb]
      by_cases h : bt s 0 < 48
      · exact .inl (decide_eq_true (by omega))
      · exact .inr ⟨decide_eq_false (by omega), decide_eq_true (by omega)⟩
    clear h0 hc eb lb h2
    rcases hcc with q1 | ⟨q1, q2⟩
    all_goals
      go_enter Tryd.func8, Tryd.ntmps8
      go_wp2
      go_ret2
      rw [HE.out]
      exact ⟨rfl, Below.refl _ w⟩
  have q1 : decide (((s[0].toNat : Nat) : Int) < 48) = false := by rw [← eb]; exact decide_eq_false (by omega)
  have q2 : decide ((57 : Int) < ((s[0].toNat : Nat) : Int)) = false := by rw [← eb]; exact decide_eq_false (by omega)
  have HE : Hid (refNum s = refNumE (splitN s).1 (refNumF s (splitN s).1 s.size (splitN s).2 [])) := by show _ = _; rw [HN.out, if_neg h2, if_neg (by omega)]
  have HSP : Hid (splitN s = if s.size < 2 ∨ bt s 0 ≠ 48 then (10, 0) else if bt s 1 = 120 ∨ bt s 1 = 88 then (16, 2) else if bt s 1 = 98 ∨ bt s 1 = 66 then (2, 2) else if bt s 1 = 111 ∨ bt s 1 = 79 then (8, 2) else (8, 1)) := rfl
  have hbase := splitN_base s
  have hat := splitN_at s
  clear HN
  generalize refNum s = R at *
  have HEB := Lib.hid eb
  by_cases c48 : bt s 0 = 48
  case neg =>
    have HX : Hid (splitN s = (10, 0)) := by show _ = _; rw [HSP.out, if_pos (.inr c48)]
    have g48 : (((s[0].toNat : Nat) : Int) == 48) = false := beq_eq_false_iff_ne.2 (by rw [← HEB.out]; omega)
    clear eb hc c48
    rw [HX.out] at HE hbase hat
    dsimp only at HE hbase hat
    clear HX hbase
    go_enter Tryd.func8, Tryd.ntmps8
    have hb : 2 ≤ 10 ∧ 10 ≤ 16 := by omega
    obtain ⟨i0, hi0, hz0, hz1, hz2⟩ := info_parts int_info
    have hi0' := Lib.hid hi0
    have hz0' := Lib.hid hz0
    have hz1' := Lib.hid hz1
    have hz2' := Lib.hid hz2
    clear hi0 hz0 hz1 hz2
    go_wp2
    go_loopw [6, 7] (fun v iv wr => ∃ (i f : Nat) (l : List Nat), iv = .int .i64 i ∧ 0 ≤ i ∧ i ≤ s.size ∧ s.size ≤ i + f ∧ l.length ≤ i ∧ Hid (∀ d ∈ l, d < 16) ∧ Hid (Digs wr w.heap.size v l) ∧ Hid (Below w.heap.size w wr) ∧ Hid (refNumF s 10 f i l = refNumF s 10 s.size 0 [])) (fun _ iv _ => s.size - (intOf iv).toNat)
    case atStart => exact ⟨0, s.size, [], rfl, Nat.le_refl _, by omega, by omega, Nat.zero_le _, (fun _ h => by cases h), ⟨rfl, .inl ⟨rfl, rfl⟩⟩, Below.refl _ _, rfl⟩
    case round =>
      obtain ⟨i, f, l, rfl, hi1, hi2, hf, hll, HL, HR, HB, HS⟩ := hrel
      obtain ⟨a1, c1, rfl⟩ := HR.out.form
      have hsz := HB.out.size
      by_cases hlt : i < s.size
      · have gi : decide (i < s.size) = true := decide_eq_true hlt
        obtain ⟨f, rfl⟩ : ∃ f', f = f' + 1 := ⟨f - 1, by omega⟩
        have ei := bt_eq s i hlt
        have li := bt_lt s i
        have HS2 : Hid ((if bt s i = 95 then (if i + 1 = s.size ∨ bt s (i + 1) = 95 then none else refNumF s 10 f (i + 1) l) else if 10 ≤ dgB (bt s i) then none else refNumF s 10 f (i + 1) (l ++ [dgB (bt s i)])) = refNumF s 10 s.size 0 []) := by
          show _ = _
          have e := HS.out
          rw [refNumF, if_pos hlt] at e
          exact e
        clear HS
        by_cases c95 : bt s i = 95
        · have g95 : (((s[i].toNat : Nat) : Int) == 95) = true := by rw [← ei, c95]; rfl
          by_cases hend : i + 1 = s.size
          · have HX : Hid (R = (⟨#[]⟩, 4)) := by show _ = _; rw [HE.out, ← HS2.out, if_pos c95, if_pos (.inl hend)]; rfl
            have ge : ((i : Int) + 1 == (s.size : Int)) = true := beq_iff_eq.2 (by omega)
            clear ei c95 hend
            go_wp2
            go_ret2
            rw [HX.out]
            exact ⟨rfl, HB.out⟩
          have ge : ((i : Int) + 1 == (s.size : Int)) = false := beq_eq_false_iff_ne.2 (by omega)
          have hi1' : i + 1 < s.size := by omega
          have ei1 := bt_eq s (i + 1) hi1'
          by_cases d95 : bt s (i + 1) = 95
          · have HX : Hid (R = (⟨#[]⟩, 4)) := by show _ = _; rw [HE.out, ← HS2.out, if_pos c95, if_pos (.inr d95)]; rfl
            have gd : (((s[i + 1].toNat : Nat) : Int) == 95) = true := by rw [← ei1, d95]; rfl
            have gi1 : decide (i + 1 < s.size) = true := decide_eq_true hi1'
            clear ei c95 hend ei1 d95
            go_wp2
            go_ret2
            rw [HX.out]
            exact ⟨rfl, HB.out⟩
          · have HX : Hid (refNumF s 10 f (i + 1) l = refNumF s 10 s.size 0 []) := by show _ = _; rw [← HS2.out, if_pos c95, if_neg (by omega)]
            have gd : (((s[i + 1].toNat : Nat) : Int) == 95) = false := by rw [← ei1]; exact beq_eq_false_iff_ne.2 (by omega)
            have gi1 : decide (i + 1 < s.size) = true := decide_eq_true hi1'
            clear ei c95 hend ei1 d95
            go_wp2
            go_roundw
            case rel => exact ⟨i + 1, f, l, by go_num, by omega, by omega, by omega, by omega, HL.out, HR.out, HB.out, HX.out⟩
            case measure => simp [intOf]; omega
        · have g95 : (((s[i].toNat : Nat) : Int) == 95) = false := by rw [← ei]; exact beq_eq_false_iff_ne.2 (by omega)
          have HEI := Lib.hid ei
          have HDG := Lib.hid (refDigit_any (bt s i) li)
          rw [ei] at HDG
          by_cases hdg : 10 ≤ dgB (bt s i)
          · have HX : Hid (R = (⟨#[]⟩, 4)) := by show _ = _; rw [HE.out, ← HS2.out, if_neg c95, if_pos hdg]; rfl
            have gb : decide ((dgB s[i].toNat : Int) < (10 : Int)) = false := by rw [← ei]; exact decide_eq_false (by omega)
            have gb2 : decide ((10 : Int) ≤ (dgB s[i].toNat : Int)) = true := by rw [← ei]; exact decide_eq_true (by omega)
            clear ei c95 hdg li
            go_wp2_with fail
            refine (HDG.out wr).mono ?_
            rintro e w2 ⟨rfl, rfl⟩
            go_wp2
            go_ret2
            rw [HX.out]
            exact ⟨rfl, HB.out⟩
          · have HX : Hid (refNumF s 10 f (i + 1) (l ++ [dgB (bt s i)]) = refNumF s 10 s.size 0 []) := by show _ = _; rw [← HS2.out, if_neg c95, if_neg hdg]
            have gb : decide ((dgB s[i].toNat : Int) < (10 : Int)) = true := by rw [← ei]; exact decide_eq_true (by omega)
            have gb2 : decide ((10 : Int) ≤ (dgB s[i].toNat : Int)) = false := by rw [← ei]; exact decide_eq_false (by omega)
            have hd16 : dgB (bt s i) < 16 := by omega
            rw [ei] at HX hd16
            clear ei c95 hdg li
            generalize dgB s[i].toNat = d at *
            have hu0 := HR.out
            go_wp2_with fail
            refine (HDG.out wr).mono ?_
            rintro e w2 ⟨rfl, rfl⟩
            go_wp2_with fail
            refine (HDG.out wr).mono ?_
            rintro e w2 ⟨rfl, rfl⟩
            go_wp2_with (at_builtin; refine wpList_append_own _ rfl _ _ 38 rfl w.heap.size 3 i0 (.int .i64 0) 1 8 Tryd.underlying38 hi0'.out hz0'.out hz1'.out hz2'.out rfl (by decide) _ _ _ rfl (hu0.alloc _) ⟨wr.heap.size, 0, none⟩ 1 1 [.int .i64 (d : Int)] rfl rfl (cell_one_new _ _ _) (fun u hu => by simp at hu; subst hu; rfl) (by unfold maxLen; omega) (by omega) (by simp; omega) ?_)
            intro v' w3 hown' hgrow _
            have HR3 : Hid (Digs w3 w.heap.size v' (l ++ [d])) := by
              have e : ints l ++ [Value.int .i64 (d : Int)] = ints (l ++ [d]) := by
                unfold ints
                rw [List.map_append, List.map_singleton]
              show w3.ownsRow w.heap.size 3 1 v' (l ++ [d]).length (ints (l ++ [d]))
              rw [← e, List.length_append]
              exact hown'
            have HB3 := Lib.hid ((HB.out.alloc hsz _).grown hgrow (by simp; omega) (fun k hk => (hu0.lt k hk).1))
            have HL3 : Hid (∀ x ∈ l ++ [d], x < 16) := fun x hx => by
              rcases List.mem_append.1 hx with h | h
              · exact HL.out x h
              · rw [List.mem_singleton.1 h]; exact hd16
            clear hown' hgrow hu0
            go_wp2
            go_roundw
            case rel => exact ⟨i + 1, f, l ++ [d], by go_num, by omega, by omega, by omega, by rw [List.length_append, List.length_singleton]; omega, HL3.out, HR3.out, HB3.out, HX.out⟩
            case measure => simp [intOf]; omega
      · have gi : decide (i < s.size) = false := decide_eq_false hlt
        have HX : Hid (R = refNumE 10 (some l)) := by
          show _ = _
          rw [HE.out, ← HS.out]
          cases f with
          | zero => rfl
          | succ f => rw [refNumF, if_neg hlt]
        by_cases h00 : l.length = 0
        · have HY : Hid (R = (⟨#[]⟩, 4)) := by show _ = _; exact HX.out.trans (if_pos h00)
          have gl : ((l.length : Int) == 0) = true := by rw [h00]; rfl
          clear h00
          go_wp2
          go_ret2
          rw [HY.out]
          exact ⟨rfl, HB.out⟩
        · have HY : Hid (R = (writtenB (foldD 10 l), 0)) := by show _ = _; exact HX.out.trans (if_neg h00)
          have gl : ((l.length : Int) == 0) = false := beq_eq_false_iff_ne.2 (by omega)
          have HDC := Lib.hid (decimal_any l a1 c1 10 wr HL.out hb (by omega) HR.out.ints)
          clear h00
          go_wp2_with fail
          refine HDC.out.mono ?_
          rintro e w4 ⟨rfl, hb4⟩
          have HB4 := Lib.hid (HB.out.trans (hb4.mono HB.out.size))
          clear hb4
          go_wp2
          go_ret2
          rw [HY.out]
          exact ⟨rfl, HB4.out⟩
  have g48 : (((s[0].toNat : Nat) : Int) == 48) = true := by rw [← eb, c48]; rfl
  by_cases h1 : s.size = 1
  · have HX : Hid (splitN s = (10, 0)) := by show _ = _; rw [HSP.out, if_pos (.inl (by omega))]
    have gs : decide ((1 : Int) < (s.size : Int)) = false := decide_eq_false (by omega)
    clear eb hc c48 h1
    rw [HX.out] at HE hbase hat
    dsimp only at HE hbase hat
    clear HX hbase
    go_enter Tryd.func8, Tryd.ntmps8
    have hb : 2 ≤ 10 ∧ 10 ≤ 16 := by omega
    obtain ⟨i0, hi0, hz0, hz1, hz2⟩ := info_parts int_info
    have hi0' := Lib.hid hi0
    have hz0' := Lib.hid hz0
    have hz1' := Lib.hid hz1
    have hz2' := Lib.hid hz2
    clear hi0 hz0 hz1 hz2
    go_wp2
    go_loopw [6, 7] (fun v iv wr => ∃ (i f : Nat) (l : List Nat), iv = .int .i64 i ∧ 0 ≤ i ∧ i ≤ s.size ∧ s.size ≤ i + f ∧ l.length ≤ i ∧ Hid (∀ d ∈ l, d < 16) ∧ Hid (Digs wr w.heap.size v l) ∧ Hid (Below w.heap.size w wr) ∧ Hid (refNumF s 10 f i l = refNumF s 10 s.size 0 [])) (fun _ iv _ => s.size - (intOf iv).toNat)
    case atStart => exact ⟨0, s.size, [], rfl, Nat.le_refl _, by omega, by omega, Nat.zero_le _, (fun _ h => by cases h), ⟨rfl, .inl ⟨rfl, rfl⟩⟩, Below.refl _ _, rfl⟩
    case round =>
      obtain ⟨i, f, l, rfl, hi1, hi2, hf, hll, HL, HR, HB, HS⟩ := hrel
      obtain ⟨a1, c1, rfl⟩ := HR.out.form
      have hsz := HB.out.size
      by_cases hlt : i < s.size
      · have gi : decide (i < s.size) = true := decide_eq_true hlt
        obtain ⟨f, rfl⟩ : ∃ f', f = f' + 1 := ⟨f - 1, by omega⟩
        have ei := bt_eq s i hlt
        have li := bt_lt s i
        have HS2 : Hid ((if bt s i = 95 then (if i + 1 = s.size ∨ bt s (i + 1) = 95 then none else refNumF s 10 f (i + 1) l) else if 10 ≤ dgB (bt s i) then none else refNumF s 10 f (i + 1) (l ++ [dgB (bt s i)])) = refNumF s 10 s.size 0 []) := by
          show _ = _
          have e := HS.out
          rw [refNumF, if_pos hlt] at e
          exact e
        clear HS
        by_cases c95 : bt s i = 95
        · have g95 : (((s[i].toNat : Nat) : Int) == 95) = true := by rw [← ei, c95]; rfl
          by_cases hend : i + 1 = s.size
          · have HX : Hid (R = (⟨#[]⟩, 4)) := by show _ = _; rw [HE.out, ← HS2.out, if_pos c95, if_pos (.inl hend)]; rfl
            have ge : ((i : Int) + 1 == (s.size : Int)) = true := beq_iff_eq.2 (by omega)
            clear ei c95 hend
            go_wp2
            go_ret2
            rw [HX.out]
            exact ⟨rfl, HB.out⟩
          have ge : ((i : Int) + 1 == (s.size : Int)) = false := beq_eq_false_iff_ne.2 (by omega)
          have hi1' : i + 1 < s.size := by omega
          have ei1 := bt_eq s (i + 1) hi1'
          by_cases d95 : bt s (i + 1) = 95
          · have HX : Hid (R = (⟨#[]⟩, 4)) := by show _ = _; rw [HE.out, ← HS2.out, if_pos c95, if_pos (.inr d95)]; rfl
            have gd : (((s[i + 1].toNat : Nat) : Int) == 95) = true := by rw [← ei1, d95]; rfl
            have gi1 : decide (i + 1 < s.size) = true := decide_eq_true hi1'
            clear ei c95 hend ei1 d95
            go_wp2
            go_ret2
            rw [HX.out]
            exact ⟨rfl, HB.out⟩
          · have HX : Hid (refNumF s 10 f (i + 1) l = refNumF s 10 s.size 0 []) := by show _ = _; rw [← HS2.out, if_pos c95, if_neg (by omega)]
            have gd : (((s[i + 1].toNat : Nat) : Int) == 95) = false := by rw [← ei1]; exact beq_eq_false_iff_ne.2 (by omega)
            have gi1 : decide (i + 1 < s.size) = true := decide_eq_true hi1'
            clear ei c95 hend ei1 d95
            go_wp2
            go_roundw
            case rel => exact ⟨i + 1, f, l, by go_num, by omega, by omega, by omega, by omega, HL.out, HR.out, HB.out, HX.out⟩
            case measure => simp [intOf]; omega
        · have g95 : (((s[i].toNat : Nat) : Int) == 95) = false := by rw [← ei]; exact beq_eq_false_iff_ne.2 (by omega)
          have HEI := Lib.hid ei
          have HDG := Lib.hid (refDigit_any (bt s i) li)
          rw [ei] at HDG
          by_cases hdg : 10 ≤ dgB (bt s i)
          · have HX : Hid (R = (⟨#[]⟩, 4)) := by show _ = _; rw [HE.out, ← HS2.out, if_neg c95, if_pos hdg]; rfl
            have gb : decide ((dgB s[i].toNat : Int) < (10 : Int)) = false := by rw [← ei]; exact decide_eq_false (by omega)
            have gb2 : decide ((10 : Int) ≤ (dgB s[i].toNat : Int)) = true := by rw [← ei]; exact decide_eq_true (by omega)
            clear ei c95 hdg li
            go_wp2_with fail
            refine (HDG.out wr).mono ?_
            rintro e w2 ⟨rfl, rfl⟩
            go_wp2
            go_ret2
            rw [HX.out]
            exact ⟨rfl, HB.out⟩
          · have HX : Hid (refNumF s 10 f (i + 1) (l ++ [dgB (bt s i)]) = refNumF s 10 s.size 0 []) := by show _ = _; rw [← HS2.out, if_neg c95, if_neg hdg]
            have gb : decide ((dgB s[i].toNat : Int) < (10 : Int)) = true := by rw [← ei]; exact decide_eq_true (by omega)
            have gb2 : decide ((10 : Int) ≤ (dgB s[i].toNat : Int)) = false := by rw [← ei]; exact decide_eq_false (by omega)
            have hd16 : dgB (bt s i) < 16 := by omega
            rw [ei] at HX hd16
            clear ei c95 hdg li
            generalize dgB s[i].toNat = d at *
            have hu0 := HR.out
            go_wp2_with fail
            refine (HDG.out wr).mono ?_
            rintro e w2 ⟨rfl, rfl⟩
            go_wp2_with fail
            refine (HDG.out wr).mono ?_
            rintro e w2 ⟨rfl, rfl⟩
            go_wp2_with (at_builtin; refine wpList_append_own _ rfl _ _ 38 rfl w.heap.size 3 i0 (.int .i64 0) 1 8 Tryd.underlying38 hi0'.out hz0'.out hz1'.out hz2'.out rfl (by decide) _ _ _ rfl (hu0.alloc _) ⟨wr.heap.size, 0, none⟩ 1 1 [.int .i64 (d : Int)] rfl rfl (cell_one_new _ _ _) (fun u hu => by simp at hu; subst hu; rfl) (by unfold maxLen; omega) (by omega) (by simp; omega) ?_)
            intro v' w3 hown' hgrow _
            have HR3 : Hid (Digs w3 w.heap.size v' (l ++ [d])) := by
              have e : ints l ++ [Value.int .i64 (d : Int)] = ints (l ++ [d]) := by
                unfold ints
                rw [List.map_append, List.map_singleton]
              show w3.ownsRow w.heap.size 3 1 v' (l ++ [d]).length (ints (l ++ [d]))
              rw [← e, List.length_append]
              exact hown'
            have HB3 := Lib.hid ((HB.out.alloc hsz _).grown hgrow (by simp; omega) (fun k hk => (hu0.lt k hk).1))
            have HL3 : Hid (∀ x ∈ l ++ [d], x < 16) := fun x hx => by
              rcases List.mem_append.1 hx with h | h
              · exact HL.out x h
              · rw [List.mem_singleton.1 h]; exact hd16
            clear hown' hgrow hu0
            go_wp2
            go_roundw
            case rel => exact ⟨i + 1, f, l ++ [d], by go_num, by omega, by omega, by omega, by rw [List.length_append, List.length_singleton]; omega, HL3.out, HR3.out, HB3.out, HX.out⟩
            case measure => simp [intOf]; omega
      · have gi : decide (i < s.size) = false := decide_eq_false hlt
        have HX : Hid (R = refNumE 10 (some l)) := by
          show _ = _
          rw [HE.out, ← HS.out]
          cases f with
          | zero => rfl
          | succ f => rw [refNumF, if_neg hlt]
        by_cases h00 : l.length = 0
        · have HY : Hid (R = (⟨#[]⟩, 4)) := by show _ = _; exact HX.out.trans (if_pos h00)
          have gl : ((l.length : Int) == 0) = true := by rw [h00]; rfl
          clear h00
          go_wp2
          go_ret2
          rw [HY.out]
          exact ⟨rfl, HB.out⟩
        · have HY : Hid (R = (writtenB (foldD 10 l), 0)) := by show _ = _; exact HX.out.trans (if_neg h00)
          have gl : ((l.length : Int) == 0) = false := beq_eq_false_iff_ne.2 (by omega)
          have HDC := Lib.hid (decimal_any l a1 c1 10 wr HL.out hb (by omega) HR.out.ints)
          clear h00
          go_wp2_with fail
          refine HDC.out.mono ?_
          rintro e w4 ⟨rfl, hb4⟩
          have HB4 := Lib.hid (HB.out.trans (hb4.mono HB.out.size))
          clear hb4
          go_wp2
          go_ret2
          rw [HY.out]
          exact ⟨rfl, HB4.out⟩
  have gs : decide ((1 : Int) < (s.size : Int)) = true := decide_eq_true (by omega)
  have hp1 : 1 < s.size := by omega
  have e1 := bt_eq s 1 hp1
  have HS2 : Hid (splitN s = if bt s 1 = 120 ∨ bt s 1 = 88 then (16, 2) else if bt s 1 = 98 ∨ bt s 1 = 66 then (2, 2) else if bt s 1 = 111 ∨ bt s 1 = 79 then (8, 2) else (8, 1)) := by show _ = _; rw [HSP.out, if_neg (by omega)]
  have eqv : ∀ c : Nat, bt s 1 = c → (((s[1].toNat : Nat) : Int) == (c : Int)) = true := fun c h => by rw [← e1, h]; simp
  have nev : ∀ c : Nat, bt s 1 ≠ c → (((s[1].toNat : Nat) : Int) == (c : Int)) = false := fun c h => by rw [← e1]; exact beq_eq_false_iff_ne.2 (by omega)
  have EQV := Lib.hid eqv
  have NEV := Lib.hid nev
  have HE1 := Lib.hid e1
  clear eb c48 h1 eqv nev e1 hc HSP
  by_cases c120 : bt s 1 = 120
  · have HX : Hid (splitN s = (16, 2)) := by show _ = _; rw [HS2.out, c120]; rfl
    have y120 : (((s[1].toNat : Nat) : Int) == 120) = true := EQV.out 120 c120
    clear c120
    rw [HX.out] at HE hbase hat
    dsimp only at HE hbase hat
    clear HX hbase
    go_enter Tryd.func8, Tryd.ntmps8
    have hb : 2 ≤ 16 ∧ 16 ≤ 16 := by omega
    obtain ⟨i0, hi0, hz0, hz1, hz2⟩ := info_parts int_info
    have hi0' := Lib.hid hi0
    have hz0' := Lib.hid hz0
    have hz1' := Lib.hid hz1
    have hz2' := Lib.hid hz2
    clear hi0 hz0 hz1 hz2
    go_wp2
    go_loopw [6, 7] (fun v iv wr => ∃ (i f : Nat) (l : List Nat), iv = .int .i64 i ∧ 2 ≤ i ∧ i ≤ s.size ∧ s.size ≤ i + f ∧ l.length ≤ i ∧ Hid (∀ d ∈ l, d < 16) ∧ Hid (Digs wr w.heap.size v l) ∧ Hid (Below w.heap.size w wr) ∧ Hid (refNumF s 16 f i l = refNumF s 16 s.size 2 [])) (fun _ iv _ => s.size - (intOf iv).toNat)
    case atStart => exact ⟨2, s.size, [], rfl, Nat.le_refl _, by omega, by omega, Nat.zero_le _, (fun _ h => by cases h), ⟨rfl, .inl ⟨rfl, rfl⟩⟩, Below.refl _ _, rfl⟩
    case round =>
      obtain ⟨i, f, l, rfl, hi1, hi2, hf, hll, HL, HR, HB, HS⟩ := hrel
      obtain ⟨a1, c1, rfl⟩ := HR.out.form
      have hsz := HB.out.size
      by_cases hlt : i < s.size
      · have gi : decide (i < s.size) = true := decide_eq_true hlt
        obtain ⟨f, rfl⟩ : ∃ f', f = f' + 1 := ⟨f - 1, by omega⟩
        have ei := bt_eq s i hlt
        have li := bt_lt s i
        have HS2 : Hid ((if bt s i = 95 then (if i + 1 = s.size ∨ bt s (i + 1) = 95 then none else refNumF s 16 f (i + 1) l) else if 16 ≤ dgB (bt s i) then none else refNumF s 16 f (i + 1) (l ++ [dgB (bt s i)])) = refNumF s 16 s.size 2 []) := by
          show _ = _
          have e := HS.out
          rw [refNumF, if_pos hlt] at e
          exact e
        clear HS
        by_cases c95 : bt s i = 95
        · have g95 : (((s[i].toNat : Nat) : Int) == 95) = true := by rw [← ei, c95]; rfl
          by_cases hend : i + 1 = s.size
          · have HX : Hid (R = (⟨#[]⟩, 4)) := by show _ = _; rw [HE.out, ← HS2.out, if_pos c95, if_pos (.inl hend)]; rfl
            have ge : ((i : Int) + 1 == (s.size : Int)) = true := beq_iff_eq.2 (by omega)
            clear ei c95 hend
            go_wp2
            go_ret2
            rw [HX.out]
            exact ⟨rfl, HB.out⟩
          have ge : ((i : Int) + 1 == (s.size : Int)) = false := beq_eq_false_iff_ne.2 (by omega)
          have hi1' : i + 1 < s.size := by omega
          have ei1 := bt_eq s (i + 1) hi1'
          by_cases d95 : bt s (i + 1) = 95
          · have HX : Hid (R = (⟨#[]⟩, 4)) := by show _ = _; rw [HE.out, ← HS2.out, if_pos c95, if_pos (.inr d95)]; rfl
            have gd : (((s[i + 1].toNat : Nat) : Int) == 95) = true := by rw [← ei1, d95]; rfl
            have gi1 : decide (i + 1 < s.size) = true := decide_eq_true hi1'
            clear ei c95 hend ei1 d95
            go_wp2
            go_ret2
            rw [HX.out]
            exact ⟨rfl, HB.out⟩
          · have HX : Hid (refNumF s 16 f (i + 1) l = refNumF s 16 s.size 2 []) := by show _ = _; rw [← HS2.out, if_pos c95, if_neg (by omega)]
            have gd : (((s[i + 1].toNat : Nat) : Int) == 95) = false := by rw [← ei1]; exact beq_eq_false_iff_ne.2 (by omega)
            have gi1 : decide (i + 1 < s.size) = true := decide_eq_true hi1'
            clear ei c95 hend ei1 d95
            go_wp2
            go_roundw
            case rel => exact ⟨i + 1, f, l, by go_num, by omega, by omega, by omega, by omega, HL.out, HR.out, HB.out, HX.out⟩
            case measure => simp [intOf]; omega
        · have g95 : (((s[i].toNat : Nat) : Int) == 95) = false := by rw [← ei]; exact beq_eq_false_iff_ne.2 (by omega)
          have HEI := Lib.hid ei
          have HDG := Lib.hid (refDigit_any (bt s i) li)
          rw [ei] at HDG
          by_cases hdg : 16 ≤ dgB (bt s i)
          · have HX : Hid (R = (⟨#[]⟩, 4)) := by show _ = _; rw [HE.out, ← HS2.out, if_neg c95, if_pos hdg]; rfl
            have gb : decide ((dgB s[i].toNat : Int) < (16 : Int)) = false := by rw [← ei]; exact decide_eq_false (by omega)
            have gb2 : decide ((16 : Int) ≤ (dgB s[i].toNat : Int)) = true := by rw [← ei]; exact decide_eq_true (by omega)
            clear ei c95 hdg li
            go_wp2_with fail
            refine (HDG.out wr).mono ?_
            rintro e w2 ⟨rfl, rfl⟩
            go_wp2
            go_ret2
            rw [HX.out]
            exact ⟨rfl, HB.out⟩
          · have HX : Hid (refNumF s 16 f (i + 1) (l ++ [dgB (bt s i)]) = refNumF s 16 s.size 2 []) := by show _ = _; rw [← HS2.out, if_neg c95, if_neg hdg]
            have gb : decide ((dgB s[i].toNat : Int) < (16 : Int)) = true := by rw [← ei]; exact decide_eq_true (by omega)
            have gb2 : decide ((16 : Int) ≤ (dgB s[i].toNat : Int)) = false := by rw [← ei]; exact decide_eq_false (by omega)
            have hd16 : dgB (bt s i) < 16 := by omega
            rw [ei] at HX hd16
            clear ei c95 hdg li
            generalize dgB s[i].toNat = d at *
            have hu0 := HR.out
            go_wp2_with fail
            refine (HDG.out wr).mono ?_
            rintro e w2 ⟨rfl, rfl⟩
            go_wp2_with fail
            refine (HDG.out wr).mono ?_
            rintro e w2 ⟨rfl, rfl⟩
            go_wp2_with (at_builtin; refine wpList_append_own _ rfl _ _ 38 rfl w.heap.size 3 i0 (.int .i64 0) 1 8 Tryd.underlying38 hi0'.out hz0'.out hz1'.out hz2'.out rfl (by decide) _ _ _ rfl (hu0.alloc _) ⟨wr.heap.size, 0, none⟩ 1 1 [.int .i64 (d : Int)] rfl rfl (cell_one_new _ _ _) (fun u hu => by simp at hu; subst hu; rfl) (by unfold maxLen; omega) (by omega) (by simp; omega) ?_)
            intro v' w3 hown' hgrow _
            have HR3 : Hid (Digs w3 w.heap.size v' (l ++ [d])) := by
              have e : ints l ++ [Value.int .i64 (d : Int)] = ints (l ++ [d]) := by
                unfold ints
                rw [List.map_append, List.map_singleton]
              show w3.ownsRow w.heap.size 3 1 v' (l ++ [d]).length (ints (l ++ [d]))
              rw [← e, List.length_append]
              exact hown'
            have HB3 := Lib.hid ((HB.out.alloc hsz _).grown hgrow (by simp; omega) (fun k hk => (hu0.lt k hk).1))
            have HL3 : Hid (∀ x ∈ l ++ [d], x < 16) := fun x hx => by
              rcases List.mem_append.1 hx with h | h
              · exact HL.out x h
              · rw [List.mem_singleton.1 h]; exact hd16
            clear hown' hgrow hu0
            go_wp2
            go_roundw
            case rel => exact ⟨i + 1, f, l ++ [d], by go_num, by omega, by omega, by omega, by rw [List.length_append, List.length_singleton]; omega, HL3.out, HR3.out, HB3.out, HX.out⟩
            case measure => simp [intOf]; omega
      · have gi : decide (i < s.size) = false := decide_eq_false hlt
        have HX : Hid (R = refNumE 16 (some l)) := by
          show _ = _
          rw [HE.out, ← HS.out]
          cases f with
          | zero => rfl
          | succ f => rw [refNumF, if_neg hlt]
        by_cases h00 : l.length = 0
        · have HY : Hid (R = (⟨#[]⟩, 4)) := by show _ = _; exact HX.out.trans (if_pos h00)
          have gl : ((l.length : Int) == 0) = true := by rw [h00]; rfl
          clear h00
          go_wp2
          go_ret2
          rw [HY.out]
          exact ⟨rfl, HB.out⟩
        · have HY : Hid (R = (writtenB (foldD 16 l), 0)) := by show _ = _; exact HX.out.trans (if_neg h00)
          have gl : ((l.length : Int) == 0) = false := beq_eq_false_iff_ne.2 (by omega)
          have HDC := Lib.hid (decimal_any l a1 c1 16 wr HL.out hb (by omega) HR.out.ints)
          clear h00
          go_wp2_with fail
          refine HDC.out.mono ?_
          rintro e w4 ⟨rfl, hb4⟩
          have HB4 := Lib.hid (HB.out.trans (hb4.mono HB.out.size))
          clear hb4
          go_wp2
          go_ret2
          rw [HY.out]
          exact ⟨rfl, HB4.out⟩
  by_cases c88 : bt s 1 = 88
  · have HX : Hid (splitN s = (16, 2)) := by show _ = _; rw [HS2.out, c88]; rfl
    have n120 : (((s[1].toNat : Nat) : Int) == 120) = false := NEV.out 120 (by omega)
    have y88 : (((s[1].toNat : Nat) : Int) == 88) = true := EQV.out 88 c88
    clear c120 c88
    rw [HX.out] at HE hbase hat
    dsimp only at HE hbase hat
    clear HX hbase
    go_enter Tryd.func8, Tryd.ntmps8
    have hb : 2 ≤ 16 ∧ 16 ≤ 16 := by omega
    obtain ⟨i0, hi0, hz0, hz1, hz2⟩ := info_parts int_info
    have hi0' := Lib.hid hi0
    have hz0' := Lib.hid hz0
    have hz1' := Lib.hid hz1
    have hz2' := Lib.hid hz2
    clear hi0 hz0 hz1 hz2
    go_wp2
    go_loopw [6, 7] (fun v iv wr => ∃ (i f : Nat) (l : List Nat), iv = .int .i64 i ∧ 2 ≤ i ∧ i ≤ s.size ∧ s.size ≤ i + f ∧ l.length ≤ i ∧ Hid (∀ d ∈ l, d < 16) ∧ Hid (Digs wr w.heap.size v l) ∧ Hid (Below w.heap.size w wr) ∧ Hid (refNumF s 16 f i l = refNumF s 16 s.size 2 [])) (fun _ iv _ => s.size - (intOf iv).toNat)
    case atStart => exact ⟨2, s.size, [], rfl, Nat.le_refl _, by omega, by omega, Nat.zero_le _, (fun _ h => by cases h), ⟨rfl, .inl ⟨rfl, rfl⟩⟩, Below.refl _ _, rfl⟩
    case round =>
      obtain ⟨i, f, l, rfl, hi1, hi2, hf, hll, HL, HR, HB, HS⟩ := hrel
      obtain ⟨a1, c1, rfl⟩ := HR.out.form
      have hsz := HB.out.size
      by_cases hlt : i < s.size
      · have gi : decide (i < s.size) = true := decide_eq_true hlt
        obtain ⟨f, rfl⟩ : ∃ f', f = f' + 1 := ⟨f - 1, by omega⟩
        have ei := bt_eq s i hlt
        have li := bt_lt s i
        have HS2 : Hid ((if bt s i = 95 then (if i + 1 = s.size ∨ bt s (i + 1) = 95 then none else refNumF s 16 f (i + 1) l) else if 16 ≤ dgB (bt s i) then none else refNumF s 16 f (i + 1) (l ++ [dgB (bt s i)])) = refNumF s 16 s.size 2 []) := by
          show _ = _
          have e := HS.out
          rw [refNumF, if_pos hlt] at e
          exact e
        clear HS
        by_cases c95 : bt s i = 95
        · have g95 : (((s[i].toNat : Nat) : Int) == 95) = true := by rw [← ei, c95]; rfl
          by_cases hend : i + 1 = s.size
          · have HX : Hid (R = (⟨#[]⟩, 4)) := by show _ = _; rw [HE.out, ← HS2.out, if_pos c95, if_pos (.inl hend)]; rfl
            have ge : ((i : Int) + 1 == (s.size : Int)) = true := beq_iff_eq.2 (by omega)
            clear ei c95 hend
            go_wp2
            go_ret2
            rw [HX.out]
            exact ⟨rfl, HB.out⟩
          have ge : ((i : Int) + 1 == (s.size : Int)) = false := beq_eq_false_iff_ne.2 (by omega)
          have hi1' : i + 1 < s.size := by omega
          have ei1 := bt_eq s (i + 1) hi1'
          by_cases d95 : bt s (i + 1) = 95
          · have HX : Hid (R = (⟨#[]⟩, 4)) := by show _ = _; rw [HE.out, ← HS2.out, if_pos c95, if_pos (.inr d95)]; rfl
            have gd : (((s[i + 1].toNat : Nat) : Int) == 95) = true := by rw [← ei1, d95]; rfl
            have gi1 : decide (i + 1 < s.size) = true := decide_eq_true hi1'
            clear ei c95 hend ei1 d95
            go_wp2
            go_ret2
            rw [HX.out]
            exact ⟨rfl, HB.out⟩
          · have HX : Hid (refNumF s 16 f (i + 1) l = refNumF s 16 s.size 2 []) := by show _ = _; rw [← HS2.out, if_pos c95, if_neg (by omega)]
            have gd : (((s[i + 1].toNat : Nat) : Int) == 95) = false := by rw [← ei1]; exact beq_eq_false_iff_ne.2 (by omega)
            have gi1 : decide (i + 1 < s.size) = true := decide_eq_true hi1'
            clear ei c95 hend ei1 d95
            go_wp2
            go_roundw
            case rel => exact ⟨i + 1, f, l, by go_num, by omega, by omega, by omega, by omega, HL.out, HR.out, HB.out, HX.out⟩
            case measure => simp [intOf]; omega
        · have g95 : (((s[i].toNat : Nat) : Int) == 95) = false := by rw [← ei]; exact beq_eq_false_iff_ne.2 (by omega)
          have HEI := Lib.hid ei
          have HDG := Lib.hid (refDigit_any (bt s i) li)
          rw [ei] at HDG
          by_cases hdg : 16 ≤ dgB (bt s i)
          · have HX : Hid (R = (⟨#[]⟩, 4)) := by show _ = _; rw [HE.out, ← HS2.out, if_neg c95, if_pos hdg]; rfl
            have gb : decide ((dgB s[i].toNat : Int) < (16 : Int)) = false := by rw [← ei]; exact decide_eq_false (by omega)
            have gb2 : decide ((16 : Int) ≤ (dgB s[i].toNat : Int)) = true := by rw [← ei]; exact decide_eq_true (by omega)
            clear ei c95 hdg li
            go_wp2_with fail
            refine (HDG.out wr).mono ?_
            rintro e w2 ⟨rfl, rfl⟩
            go_wp2
            go_ret2
            rw [HX.out]
            exact ⟨rfl, HB.out⟩
          · have HX : Hid (refNumF s 16 f (i + 1) (l ++ [dgB (bt s i)]) = refNumF s 16 s.size 2 []) := by show _ = _; rw [← HS2.out, if_neg c95, if_neg hdg]
            have gb : decide ((dgB s[i].toNat : Int) < (16 : Int)) = true := by rw [← ei]; exact decide_eq_true (by omega)
            have gb2 : decide ((16 : Int) ≤ (dgB s[i].toNat : Int)) = false := by rw [← ei]; exact decide_eq_false (by omega)
            have hd16 : dgB (bt s i) < 16 := by omega
            rw [ei] at HX hd16
            clear ei c95 hdg li
            generalize dgB s[i].toNat = d at *
            have hu0 := HR.out
            go_wp2_with fail
            refine (HDG.out wr).mono ?_
            rintro e w2 ⟨rfl, rfl⟩
            go_wp2_with fail
            refine (HDG.out wr).mono ?_
            rintro e w2 ⟨rfl, rfl⟩
            go_wp2_with (at_builtin; refine wpList_append_own _ rfl _ _ 38 rfl w.heap.size 3 i0 (.int .i64 0) 1 8 Tryd.underlying38 hi0'.out hz0'.out hz1'.out hz2'.out rfl (by decide) _ _ _ rfl (hu0.alloc _) ⟨wr.heap.size, 0, none⟩ 1 1 [.int .i64 (d : Int)] rfl rfl (cell_one_new _ _ _) (fun u hu => by simp at hu; subst hu; rfl) (by unfold maxLen; omega) (by omega) (by simp; omega) ?_)
            intro v' w3 hown' hgrow _
            have HR3 : Hid (Digs w3 w.heap.size v' (l ++ [d])) := by
              have e : ints l ++ [Value.int .i64 (d : Int)] = ints (l ++ [d]) := by
                unfold ints
                rw [List.map_append, List.map_singleton]
              show w3.ownsRow w.heap.size 3 1 v' (l ++ [d]).length (ints (l ++ [d]))
              rw [← e, List.length_append]
              exact hown'
            have HB3 := Lib.hid ((HB.out.alloc hsz _).grown hgrow (by simp; omega) (fun k hk => (hu0.lt k hk).1))
            have HL3 : Hid (∀ x ∈ l ++ [d], x < 16) := fun x hx => by
              rcases List.mem_append.1 hx with h | h
              · exact HL.out x h
              · rw [List.mem_singleton.1 h]; exact hd16
            clear hown' hgrow hu0
            go_wp2
            go_roundw
            case rel => exact ⟨i + 1, f, l ++ [d], by go_num, by omega, by omega, by omega, by rw [List.length_append, List.length_singleton]; omega, HL3.out, HR3.out, HB3.out, HX.out⟩
            case measure => simp [intOf]; omega
      · have gi : decide (i < s.size) = false := decide_eq_false hlt
        have HX : Hid (R = refNumE 16 (some l)) := by
          show _ = _
          rw [HE.out, ← HS.out]
          cases f with
          | zero => rfl
          | succ f => rw [refNumF, if_neg hlt]
        by_cases h00 : l.length = 0
        · have HY : Hid (R = (⟨#[]⟩, 4)) := by show _ = _; exact HX.out.trans (if_pos h00)
          have gl : ((l.length : Int) == 0) = true := by rw [h00]; rfl
          clear h00
          go_wp2
          go_ret2
          rw [HY.out]
          exact ⟨rfl, HB.out⟩
        · have HY : Hid (R = (writtenB (foldD 16 l), 0)) := by show _ = _; exact HX.out.trans (if_neg h00)
          have gl : ((l.length : Int) == 0) = false := beq_eq_false_iff_ne.2 (by omega)
          have HDC := Lib.hid (decimal_any l a1 c1 16 wr HL.out hb (by omega) HR.out.ints)
          clear h00
          go_wp2_with fail
          refine HDC.out.mono ?_
          rintro e w4 ⟨rfl, hb4⟩
          have HB4 := Lib.hid (HB.out.trans (hb4.mono HB.out.size))
          clear hb4
          go_wp2
          go_ret2
          rw [HY.out]
          exact ⟨rfl, HB4.out⟩
  by_cases c98 : bt s 1 = 98
  · have HX : Hid (splitN s = (2, 2)) := by show _ = _; rw [HS2.out, c98]; rfl
    have n120 : (((s[1].toNat : Nat) : Int) == 120) = false := NEV.out 120 (by omega)
    have n88 : (((s[1].toNat : Nat) : Int) == 88) = false := NEV.out 88 (by omega)
    have y98 : (((s[1].toNat : Nat) : Int) == 98) = true := EQV.out 98 c98
    clear c120 c88 c98
    rw [HX.out] at HE hbase hat
    dsimp only at HE hbase hat
    clear HX hbase
    go_enter Tryd.func8, Tryd.ntmps8
    have hb : 2 ≤ 2 ∧ 2 ≤ 16 := by omega
    obtain ⟨i0, hi0, hz0, hz1, hz2⟩ := info_parts int_info
    have hi0' := Lib.hid hi0
    have hz0' := Lib.hid hz0
    have hz1' := Lib.hid hz1
    have hz2' := Lib.hid hz2
    clear hi0 hz0 hz1 hz2
    go_wp2
    go_loopw [6, 7] (fun v iv wr => ∃ (i f : Nat) (l : List Nat), iv = .int .i64 i ∧ 2 ≤ i ∧ i ≤ s.size ∧ s.size ≤ i + f ∧ l.length ≤ i ∧ Hid (∀ d ∈ l, d < 16) ∧ Hid (Digs wr w.heap.size v l) ∧ Hid (Below w.heap.size w wr) ∧ Hid (refNumF s 2 f i l = refNumF s 2 s.size 2 [])) (fun _ iv _ => s.size - (intOf iv).toNat)
    case atStart => exact ⟨2, s.size, [], rfl, Nat.le_refl _, by omega, by omega, Nat.zero_le _, (fun _ h => by cases h), ⟨rfl, .inl ⟨rfl, rfl⟩⟩, Below.refl _ _, rfl⟩
    case round =>
      obtain ⟨i, f, l, rfl, hi1, hi2, hf, hll, HL, HR, HB, HS⟩ := hrel
      obtain ⟨a1, c1, rfl⟩ := HR.out.form
      have hsz := HB.out.size
      by_cases hlt : i < s.size
      · have gi : decide (i < s.size) = true := decide_eq_true hlt
        obtain ⟨f, rfl⟩ : ∃ f', f = f' + 1 := ⟨f - 1, by omega⟩
        have ei := bt_eq s i hlt
        have li := bt_lt s i
        have HS2 : Hid ((if bt s i = 95 then (if i + 1 = s.size ∨ bt s (i + 1) = 95 then none else refNumF s 2 f (i + 1) l) else if 2 ≤ dgB (bt s i) then none else refNumF s 2 f (i + 1) (l ++ [dgB (bt s i)])) = refNumF s 2 s.size 2 []) := by
          show _ = _
          have e := HS.out
          rw [refNumF, if_pos hlt] at e
          exact e
        clear HS
        by_cases c95 : bt s i = 95
        · have g95 : (((s[i].toNat : Nat) : Int) == 95) = true := by rw [← ei, c95]; rfl
          by_cases hend : i + 1 = s.size
          · have HX : Hid (R = (⟨#[]⟩, 4)) := by show _ = _; rw [HE.out, ← HS2.out, if_pos c95, if_pos (.inl hend)]; rfl
            have ge : ((i : Int) + 1 == (s.size : Int)) = true := beq_iff_eq.2 (by omega)
            clear ei c95 hend
            go_wp2
            go_ret2
            rw [HX.out]
            exact ⟨rfl, HB.out⟩
          have ge : ((i : Int) + 1 == (s.size : Int)) = false := beq_eq_false_iff_ne.2 (by omega)
          have hi1' : i + 1 < s.size := by omega
          have ei1 := bt_eq s (i + 1) hi1'
          by_cases d95 : bt s (i + 1) = 95
          · have HX : Hid (R = (⟨#[]⟩, 4)) := by show _ = _; rw [HE.out, ← HS2.out, if_pos c95, if_pos (.inr d95)]; rfl
            have gd : (((s[i + 1].toNat : Nat) : Int) == 95) = true := by rw [← ei1, d95]; rfl
            have gi1 : decide (i + 1 < s.size) = true := decide_eq_true hi1'
            clear ei c95 hend ei1 d95
            go_wp2
            go_ret2
            rw [HX.out]
            exact ⟨rfl, HB.out⟩
          · have HX : Hid (refNumF s 2 f (i + 1) l = refNumF s 2 s.size 2 []) := by show _ = _; rw [← HS2.out, if_pos c95, if_neg (by omega)]
            have gd : (((s[i + 1].toNat : Nat) : Int) == 95) = false := by rw [← ei1]; exact beq_eq_false_iff_ne.2 (by omega)
            have gi1 : decide (i + 1 < s.size) = true := decide_eq_true hi1'
            clear ei c95 hend ei1 d95
            go_wp2
            go_roundw
            case rel => exact ⟨i + 1, f, l, by go_num, by omega, by omega, by omega, by omega, HL.out, HR.out, HB.out, HX.out⟩
            case measure => simp [intOf]; omega
        · have g95 : (((s[i].toNat : Nat) : Int) == 95) = false := by rw [← ei]; exact beq_eq_false_iff_ne.2 (by omega)
          have HEI := Lib.hid ei
          have HDG := Lib.hid (refDigit_any (bt s i) li)
          rw [ei] at HDG
          by_cases hdg : 2 ≤ dgB (bt s i)
          · have HX : Hid (R = (⟨#[]⟩, 4)) := by show _ = _; rw [HE.out, ← HS2.out, if_neg c95, if_pos hdg]; rfl
            have gb : decide ((dgB s[i].toNat : Int) < (2 : Int)) = false := by rw [← ei]; exact decide_eq_false (by omega)
            have gb2 : decide ((2 : Int) ≤ (dgB s[i].toNat : Int)) = true := by rw [← ei]; exact decide_eq_true (by omega)
            clear ei c95 hdg li
            go_wp2_with fail
            refine (HDG.out wr).mono ?_
            rintro e w2 ⟨rfl, rfl⟩
            go_wp2
            go_ret2
            rw [HX.out]
            exact ⟨rfl, HB.out⟩
          · have HX : Hid (refNumF s 2 f (i + 1) (l ++ [dgB (bt s i)]) = refNumF s 2 s.size 2 []) := by show _ = _; rw [← HS2.out, if_neg c95, if_neg hdg]
            have gb : decide ((dgB s[i].toNat : Int) < (2 : Int)) = true := by rw [← ei]; exact decide_eq_true (by omega)
            have gb2 : decide ((2 : Int) ≤ (dgB s[i].toNat : Int)) = false := by rw [← ei]; exact decide_eq_false (by omega)
            have hd16 : dgB (bt s i) < 16 := by omega
            rw [ei] at HX hd16
            clear ei c95 hdg li
            generalize dgB s[i].toNat = d at *
            have hu0 := HR.out
            go_wp2_with fail
            refine (HDG.out wr).mono ?_
            rintro e w2 ⟨rfl, rfl⟩
            go_wp2_with fail
            refine (HDG.out wr).mono ?_
            rintro e w2 ⟨rfl, rfl⟩
            go_wp2_with (at_builtin; refine wpList_append_own _ rfl _ _ 38 rfl w.heap.size 3 i0 (.int .i64 0) 1 8 Tryd.underlying38 hi0'.out hz0'.out hz1'.out hz2'.out rfl (by decide) _ _ _ rfl (hu0.alloc _) ⟨wr.heap.size, 0, none⟩ 1 1 [.int .i64 (d : Int)] rfl rfl (cell_one_new _ _ _) (fun u hu => by simp at hu; subst hu; rfl) (by unfold maxLen; omega) (by omega) (by simp; omega) ?_)
            intro v' w3 hown' hgrow _
            have HR3 : Hid (Digs w3 w.heap.size v' (l ++ [d])) := by
              have e : ints l ++ [Value.int .i64 (d : Int)] = ints (l ++ [d]) := by
                unfold ints
                rw [List.map_append, List.map_singleton]
              show w3.ownsRow w.heap.size 3 1 v' (l ++ [d]).length (ints (l ++ [d]))
              rw [← e, List.length_append]
              exact hown'
            have HB3 := Lib.hid ((HB.out.alloc hsz _).grown hgrow (by simp; omega) (fun k hk => (hu0.lt k hk).1))
            have HL3 : Hid (∀ x ∈ l ++ [d], x < 16) := fun x hx => by
              rcases List.mem_append.1 hx with h | h
              · exact HL.out x h
              · rw [List.mem_singleton.1 h]; exact hd16
            clear hown' hgrow hu0
            go_wp2
            go_roundw
            case rel => exact ⟨i + 1, f, l ++ [d], by go_num, by omega, by omega, by omega, by rw [List.length_append, List.length_singleton]; omega, HL3.out, HR3.out, HB3.out, HX.out⟩
            case measure => simp [intOf]; omega
      · have gi : decide (i < s.size) = false := decide_eq_false hlt
        have HX : Hid (R = refNumE 2 (some l)) := by
          show _ = _
          rw [HE.out, ← HS.out]
          cases f with
          | zero => rfl
          | succ f => rw [refNumF, if_neg hlt]
        by_cases h00 : l.length = 0
        · have HY : Hid (R = (⟨#[]⟩, 4)) := by show _ = _; exact HX.out.trans (if_pos h00)
          have gl : ((l.length : Int) == 0) = true := by rw [h00]; rfl
          clear h00
          go_wp2
          go_ret2
          rw [HY.out]
          exact ⟨rfl, HB.out⟩
        · have HY : Hid (R = (writtenB (foldD 2 l), 0)) := by show _ = _; exact HX.out.trans (if_neg h00)
          have gl : ((l.length : Int) == 0) = false := beq_eq_false_iff_ne.2 (by omega)
          have HDC := Lib.hid (decimal_any l a1 c1 2 wr HL.out hb (by omega) HR.out.ints)
          clear h00
          go_wp2_with fail
          refine HDC.out.mono ?_
          rintro e w4 ⟨rfl, hb4⟩
          have HB4 := Lib.hid (HB.out.trans (hb4.mono HB.out.size))
          clear hb4
          go_wp2
          go_ret2
          rw [HY.out]
          exact ⟨rfl, HB4.out⟩
  by_cases c66 : bt s 1 = 66
  · have HX : Hid (splitN s = (2, 2)) := by show _ = _; rw [HS2.out, c66]; rfl
    have n120 : (((s[1].toNat : Nat) : Int) == 120) = false := NEV.out 120 (by omega)
    have n88 : (((s[1].toNat : Nat) : Int) == 88) = false := NEV.out 88 (by omega)
    have n98 : (((s[1].toNat : Nat) : Int) == 98) = false := NEV.out 98 (by omega)
    have y66 : (((s[1].toNat : Nat) : Int) == 66) = true := EQV.out 66 c66
    clear c120 c88 c98 c66
    rw [HX.out] at HE hbase hat
    dsimp only at HE hbase hat
    clear HX hbase
    go_enter Tryd.func8, Tryd.ntmps8
    have hb : 2 ≤ 2 ∧ 2 ≤ 16 := by omega
    obtain ⟨i0, hi0, hz0, hz1, hz2⟩ := info_parts int_info
    have hi0' := Lib.hid hi0
    have hz0' := Lib.hid hz0
    have hz1' := Lib.hid hz1
    have hz2' := Lib.hid hz2
    clear hi0 hz0 hz1 hz2
    go_wp2
    go_loopw [6, 7] (fun v iv wr => ∃ (i f : Nat) (l : List Nat), iv = .int .i64 i ∧ 2 ≤ i ∧ i ≤ s.size ∧ s.size ≤ i + f ∧ l.length ≤ i ∧ Hid (∀ d ∈ l, d < 16) ∧ Hid (Digs wr w.heap.size v l) ∧ Hid (Below w.heap.size w wr) ∧ Hid (refNumF s 2 f i l = refNumF s 2 s.size 2 [])) (fun _ iv _ => s.size - (intOf iv).toNat)
    case atStart => exact ⟨2, s.size, [], rfl, Nat.le_refl _, by omega, by omega, Nat.zero_le _, (fun _ h => by cases h), ⟨rfl, .inl ⟨rfl, rfl⟩⟩, Below.refl _ _, rfl⟩
    case round =>
      obtain ⟨i, f, l, rfl, hi1, hi2, hf, hll, HL, HR, HB, HS⟩ := hrel
      obtain ⟨a1, c1, rfl⟩ := HR.out.form
      have hsz := HB.out.size
      by_cases hlt : i < s.size
      · have gi : decide (i < s.size) = true := decide_eq_true hlt
        obtain ⟨f, rfl⟩ : ∃ f', f = f' + 1 := ⟨f - 1, by omega⟩
        have ei := bt_eq s i hlt
        have li := bt_lt s i
        have HS2 : Hid ((if bt s i = 95 then (if i + 1 = s.size ∨ bt s (i + 1) = 95 then none else refNumF s 2 f (i + 1) l) else if 2 ≤ dgB (bt s i) then none else refNumF s 2 f (i + 1) (l ++ [dgB (bt s i)])) = refNumF s 2 s.size 2 []) := by
          show _ = _
          have e := HS.out
          rw [refNumF, if_pos hlt] at e
          exact e
        clear HS
        by_cases c95 : bt s i = 95
        · have g95 : (((s[i].toNat : Nat) : Int) == 95) = true := by rw [← ei, c95]; rfl
          by_cases hend : i + 1 = s.size
          · have HX : Hid (R = (⟨#[]⟩, 4)) := by show _ = _; rw [HE.out, ← HS2.out, if_pos c95, if_pos (.inl hend)]; rfl
            have ge : ((i : Int) + 1 == (s.size : Int)) = true := beq_iff_eq.2 (by omega)
            clear ei c95 hend
            go_wp2
            go_ret2
            rw [HX.out]
            exact ⟨rfl, HB.out⟩
          have ge : ((i : Int) + 1 == (s.size : Int)) = false := beq_eq_false_iff_ne.2 (by omega)
          have hi1' : i + 1 < s.size := by omega
          have ei1 := bt_eq s (i + 1) hi1'
          by_cases d95 : bt s (i + 1) = 95
          · have HX : Hid (R = (⟨#[]⟩, 4)) := by show _ = _; rw [HE.out, ← HS2.out, if_pos c95, if_pos (.inr d95)]; rfl
            have gd : (((s[i + 1].toNat : Nat) : Int) == 95) = true := by rw [← ei1, d95]; rfl
            have gi1 : decide (i + 1 < s.size) = true := decide_eq_true hi1'
            clear ei c95 hend ei1 d95
            go_wp2
            go_ret2
            rw [HX.out]
            exact ⟨rfl, HB.out⟩
          · have HX : Hid (refNumF s 2 f (i + 1) l = refNumF s 2 s.size 2 []) := by show _ = _; rw [← HS2.out, if_pos c95, if_neg (by omega)]
            have gd : (((s[i + 1].toNat : Nat) : Int) == 95) = false := by rw [← ei1]; exact beq_eq_false_iff_ne.2 (by omega)
            have gi1 : decide (i + 1 < s.size) = true := decide_eq_true hi1'
            clear ei c95 hend ei1 d95
            go_wp2
            go_roundw
            case rel => exact ⟨i + 1, f, l, by go_num, by omega, by omega, by omega, by omega, HL.out, HR.out, HB.out, HX.out⟩
            case measure => simp [intOf]; omega
        · have g95 : (((s[i].toNat : Nat) : Int) == 95) = false := by rw [← ei]; exact beq_eq_false_iff_ne.2 (by omega)
          have HEI := Lib.hid ei
          have HDG := Lib.hid (refDigit_any (bt s i) li)
          rw [ei] at HDG
          by_cases hdg : 2 ≤ dgB (bt s i)
          · have HX : Hid (R = (⟨#[]⟩, 4)) := by show _ = _; rw [HE.out, ← HS2.out, if_neg c95, if_pos hdg]; rfl
            have gb : decide ((dgB s[i].toNat : Int) < (2 : Int)) = false := by rw [← ei]; exact decide_eq_false (by omega)
            have gb2 : decide ((2 : Int) ≤ (dgB s[i].toNat : Int)) = true := by rw [← ei]; exact decide_eq_true (by omega)
            clear ei c95 hdg li
            go_wp2_with fail
            refine (HDG.out wr).mono ?_
            rintro e w2 ⟨rfl, rfl⟩
            go_wp2
            go_ret2
            rw [HX.out]
            exact ⟨rfl, HB.out⟩
          · have HX : Hid (refNumF s 2 f (i + 1) (l ++ [dgB (bt s i)]) = refNumF s 2 s.size 2 []) := by show _ = _; rw [← HS2.out, if_neg c95, if_neg hdg]
            have gb : decide ((dgB s[i].toNat : Int) < (2 : Int)) = true := by rw [← ei]; exact decide_eq_true (by omega)
            have gb2 : decide ((2 : Int) ≤ (dgB s[i].toNat : Int)) = false := by rw [← ei]; exact decide_eq_false (by omega)
            have hd16 : dgB (bt s i) < 16 := by omega
            rw [ei] at HX hd16
            clear ei c95 hdg li
            generalize dgB s[i].toNat = d at *
            have hu0 := HR.out
            go_wp2_with fail
            refine (HDG.out wr).mono ?_
            rintro e w2 ⟨rfl, rfl⟩
            go_wp2_with fail
            refine (HDG.out wr).mono ?_
            rintro e w2 ⟨rfl, rfl⟩
            go_wp2_with (at_builtin; refine wpList_append_own _ rfl _ _ 38 rfl w.heap.size 3 i0 (.int .i64 0) 1 8 Tryd.underlying38 hi0'.out hz0'.out hz1'.out hz2'.out rfl (by decide) _ _ _ rfl (hu0.alloc _) ⟨wr.heap.size, 0, none⟩ 1 1 [.int .i64 (d : Int)] rfl rfl (cell_one_new _ _ _) (fun u hu => by simp at hu; subst hu; rfl) (by unfold maxLen; omega) (by omega) (by simp; omega) ?_)
            intro v' w3 hown' hgrow _
            have HR3 : Hid (Digs w3 w.heap.size v' (l ++ [d])) := by
              have e : ints l ++ [Value.int .i64 (d : Int)] = ints (l ++ [d]) := by
                unfold ints
                rw [List.map_append, List.map_singleton]
              show w3.ownsRow w.heap.size 3 1 v' (l ++ [d]).length (ints (l ++ [d]))
              rw [← e, List.length_append]
              exact hown'
            have HB3 := Lib.hid ((HB.out.alloc hsz _).grown hgrow (by simp; omega) (fun k hk => (hu0.lt k hk).1))
            have HL3 : Hid (∀ x ∈ l ++ [d], x < 16) := fun x hx => by
              rcases List.mem_append.1 hx with h | h
              · exact HL.out x h
              · rw [List.mem_singleton.1 h]; exact hd16
            clear hown' hgrow hu0
            go_wp2
            go_roundw
            case rel => exact ⟨i + 1, f, l ++ [d], by go_num, by omega, by omega, by omega, by rw [List.length_append, List.length_singleton]; omega, HL3.out, HR3.out, HB3.out, HX.out⟩
            case measure => simp [intOf]; omega
      · have gi : decide (i < s.size) = false := decide_eq_false hlt
        have HX : Hid (R = refNumE 2 (some l)) := by
          show _ = _
          rw [HE.out, ← HS.out]
          cases f with
          | zero => rfl
          | succ f => rw [refNumF, if_neg hlt]
        by_cases h00 : l.length = 0
        · have HY : Hid (R = (⟨#[]⟩, 4)) := by show _ = _; exact HX.out.trans (if_pos h00)
          have gl : ((l.length : Int) == 0) = true := by rw [h00]; rfl
          clear h00
          go_wp2
          go_ret2
          rw [HY.out]
          exact ⟨rfl, HB.out⟩
        · have HY : Hid (R = (writtenB (foldD 2 l), 0)) := by show _ = _; exact HX.out.trans (if_neg h00)
          have gl : ((l.length : Int) == 0) = false := beq_eq_false_iff_ne.2 (by omega)
          have HDC := Lib.hid (decimal_any l a1 c1 2 wr HL.out hb (by omega) HR.out.ints)
          clear h00
          go_wp2_with fail
          refine HDC.out.mono ?_
          rintro e w4 ⟨rfl, hb4⟩
          have HB4 := Lib.hid (HB.out.trans (hb4.mono HB.out.size))
          clear hb4
          go_wp2
          go_ret2
          rw [HY.out]
          exact ⟨rfl, HB4.out⟩
  by_cases c111 : bt s 1 = 111
  · have HX : Hid (splitN s = (8, 2)) := by show _ = _; rw [HS2.out, c111]; rfl
    have n120 : (((s[1].toNat : Nat) : Int) == 120) = false := NEV.out 120 (by omega)
    have n88 : (((s[1].toNat : Nat) : Int) == 88) = false := NEV.out 88 (by omega)
    have n98 : (((s[1].toNat : Nat) : Int) == 98) = false := NEV.out 98 (by omega)
    have n66 : (((s[1].toNat : Nat) : Int) == 66) = false := NEV.out 66 (by omega)
    have y111 : (((s[1].toNat : Nat) : Int) == 111) = true := EQV.out 111 c111
    clear c120 c88 c98 c66 c111
    rw [HX.out] at HE hbase hat
    dsimp only at HE hbase hat
    clear HX hbase
    go_enter Tryd.func8, Tryd.ntmps8
    have hb : 2 ≤ 8 ∧ 8 ≤ 16 := by omega
    obtain ⟨i0, hi0, hz0, hz1, hz2⟩ := info_parts int_info
    have hi0' := Lib.hid hi0
    have hz0' := Lib.hid hz0
    have hz1' := Lib.hid hz1
    have hz2' := Lib.hid hz2
    clear hi0 hz0 hz1 hz2
    go_wp2
    go_loopw [6, 7] (fun v iv wr => ∃ (i f : Nat) (l : List Nat), iv = .int .i64 i ∧ 2 ≤ i ∧ i ≤ s.size ∧ s.size ≤ i + f ∧ l.length ≤ i ∧ Hid (∀ d ∈ l, d < 16) ∧ Hid (Digs wr w.heap.size v l) ∧ Hid (Below w.heap.size w wr) ∧ Hid (refNumF s 8 f i l = refNumF s 8 s.size 2 [])) (fun _ iv _ => s.size - (intOf iv).toNat)
    case atStart => exact ⟨2, s.size, [], rfl, Nat.le_refl _, by omega, by omega, Nat.zero_le _, (fun _ h => by cases h), ⟨rfl, .inl ⟨rfl, rfl⟩⟩, Below.refl _ _, rfl⟩
    case round =>
      obtain ⟨i, f, l, rfl, hi1, hi2, hf, hll, HL, HR, HB, HS⟩ := hrel
      obtain ⟨a1, c1, rfl⟩ := HR.out.form
      have hsz := HB.out.size
      by_cases hlt : i < s.size
      · have gi : decide (i < s.size) = true := decide_eq_true hlt
        obtain ⟨f, rfl⟩ : ∃ f', f = f' + 1 := ⟨f - 1, by omega⟩
        have ei := bt_eq s i hlt
        have li := bt_lt s i
        have HS2 : Hid ((if bt s i = 95 then (if i + 1 = s.size ∨ bt s (i + 1) = 95 then none else refNumF s 8 f (i + 1) l) else if 8 ≤ dgB (bt s i) then none else refNumF s 8 f (i + 1) (l ++ [dgB (bt s i)])) = refNumF s 8 s.size 2 []) := by
          show _ = _
          have e := HS.out
          rw [refNumF, if_pos hlt] at e
          exact e
        clear HS
        by_cases c95 : bt s i = 95
        · have g95 : (((s[i].toNat : Nat) : Int) == 95) = true := by rw [← ei, c95]; rfl
          by_cases hend : i + 1 = s.size
          · have HX : Hid (R = (⟨#[]⟩, 4)) := by show _ = _; rw [HE.out, ← HS2.out, if_pos c95, if_pos (.inl hend)]; rfl
            have ge : ((i : Int) + 1 == (s.size : Int)) = true := beq_iff_eq.2 (by omega)
            clear ei c95 hend
            go_wp2
            go_ret2
            rw [HX.out]
            exact ⟨rfl, HB.out⟩
          have ge : ((i : Int) + 1 == (s.size : Int)) = false := beq_eq_false_iff_ne.2 (by omega)
          have hi1' : i + 1 < s.size := by omega
          have ei1 := bt_eq s (i + 1) hi1'
          by_cases d95 : bt s (i + 1) = 95
          · have HX : Hid (R = (⟨#[]⟩, 4)) := by show _ = _; rw [HE.out, ← HS2.out, if_pos c95, if_pos (.inr d95)]; rfl
            have gd : (((s[i + 1].toNat : Nat) : Int) == 95) = true := by rw [← ei1, d95]; rfl
            have gi1 : decide (i + 1 < s.size) = true := decide_eq_true hi1'
            clear ei c95 hend ei1 d95
            go_wp2
            go_ret2
            rw [HX.out]
            exact ⟨rfl, HB.out⟩
          · have HX : Hid (refNumF s 8 f (i + 1) l = refNumF s 8 s.size 2 []) := by show _ = _; rw [← HS2.out, if_pos c95, if_neg (by omega)]
            have gd : (((s[i + 1].toNat : Nat) : Int) == 95) = false := by rw [← ei1]; exact beq_eq_false_iff_ne.2 (by omega)
            have gi1 : decide (i + 1 < s.size) = true := decide_eq_true hi1'
            clear ei c95 hend ei1 d95
            go_wp2
            go_roundw
            case rel => exact ⟨i + 1, f, l, by go_num, by omega, by omega, by omega, by omega, HL.out, HR.out, HB.out, HX.out⟩
            case measure => simp [intOf]; omega
        · have g95 : (((s[i].toNat : Nat) : Int) == 95) = false := by rw [← ei]; exact beq_eq_false_iff_ne.2 (by omega)
          have HEI := Lib.hid ei
          have HDG := Lib.hid (refDigit_any (bt s i) li)
          rw [ei] at HDG
          by_cases hdg : 8 ≤ dgB (bt s i)
          · have HX : Hid (R = (⟨#[]⟩, 4)) := by show _ = _; rw [HE.out, ← HS2.out, if_neg c95, if_pos hdg]; rfl
            have gb : decide ((dgB s[i].toNat : Int) < (8 : Int)) = false := by rw [← ei]; exact decide_eq_false (by omega)
            have gb2 : decide ((8 : Int) ≤ (dgB s[i].toNat : Int)) = true := by rw [← ei]; exact decide_eq_true (by omega)
            clear ei c95 hdg li
            go_wp2_with fail
            refine (HDG.out wr).mono ?_
            rintro e w2 ⟨rfl, rfl⟩
            go_wp2
            go_ret2
            rw [HX.out]
            exact ⟨rfl, HB.out⟩
          · have HX : Hid (refNumF s 8 f (i + 1) (l ++ [dgB (bt s i)]) = refNumF s 8 s.size 2 []) := by show _ = _; rw [← HS2.out, if_neg c95, if_neg hdg]
            have gb : decide ((dgB s[i].toNat : Int) < (8 : Int)) = true := by rw [← ei]; exact decide_eq_true (by omega)
            have gb2 : decide ((8 : Int) ≤ (dgB s[i].toNat : Int)) = false := by rw [← ei]; exact decide_eq_false (by omega)
            have hd16 : dgB (bt s i) < 16 := by omega
            rw [ei] at HX hd16
            clear ei c95 hdg li
            generalize dgB s[i].toNat = d at *
            have hu0 := HR.out
            go_wp2_with fail
            refine (HDG.out wr).mono ?_
            rintro e w2 ⟨rfl, rfl⟩
            go_wp2_with fail
            refine (HDG.out wr).mono ?_
            rintro e w2 ⟨rfl, rfl⟩
            go_wp2_with (at_builtin; refine wpList_append_own _ rfl _ _ 38 rfl w.heap.size 3 i0 (.int .i64 0) 1 8 Tryd.underlying38 hi0'.out hz0'.out hz1'.out hz2'.out rfl (by decide) _ _ _ rfl (hu0.alloc _) ⟨wr.heap.size, 0, none⟩ 1 1 [.int .i64 (d : Int)] rfl rfl (cell_one_new _ _ _) (fun u hu => by simp at hu; subst hu; rfl) (by unfold maxLen; omega) (by omega) (by simp; omega) ?_)
            intro v' w3 hown' hgrow _
            have HR3 : Hid (Digs w3 w.heap.size v' (l ++ [d])) := by
              have e : ints l ++ [Value.int .i64 (d : Int)] = ints (l ++ [d]) := by
                unfold ints
                rw [List.map_append, List.map_singleton]
              show w3.ownsRow w.heap.size 3 1 v' (l ++ [d]).length (ints (l ++ [d]))
              rw [← e, List.length_append]
              exact hown'
            have HB3 := Lib.hid ((HB.out.alloc hsz _).grown hgrow (by simp; omega) (fun k hk => (hu0.lt k hk).1))
            have HL3 : Hid (∀ x ∈ l ++ [d], x < 16) := fun x hx => by
              rcases List.mem_append.1 hx with h | h
              · exact HL.out x h
              · rw [List.mem_singleton.1 h]; exact hd16
            clear hown' hgrow hu0
            go_wp2
            go_roundw
            case rel => exact ⟨i + 1, f, l ++ [d], by go_num, by omega, by omega, by omega, by rw [List.length_append, List.length_singleton]; omega, HL3.out, HR3.out, HB3.out, HX.out⟩
            case measure => simp [intOf]; omega
      · have gi : decide (i < s.size) = false := decide_eq_false hlt
        have HX : Hid (R = refNumE 8 (some l)) := by
          show _ = _
          rw [HE.out, ← HS.out]
          cases f with
          | zero => rfl
          | succ f => rw [refNumF, if_neg hlt]
        by_cases h00 : l.length = 0
        · have HY : Hid (R = (⟨#[]⟩, 4)) := by show _ = _; exact HX.out.trans (if_pos h00)
          have gl : ((l.length : Int) == 0) = true := by rw [h00]; rfl
          clear h00
          go_wp2
          go_ret2
          rw [HY.out]
          exact ⟨rfl, HB.out⟩
        · have HY : Hid (R = (writtenB (foldD 8 l), 0)) := by show _ = _; exact HX.out.trans (if_neg h00)
          have gl : ((l.length : Int) == 0) = false := beq_eq_false_iff_ne.2 (by omega)
          have HDC := Lib.hid (decimal_any l a1 c1 8 wr HL.out hb (by omega) HR.out.ints)
          clear h00
          go_wp2_with fail
          refine HDC.out.mono ?_
          rintro e w4 ⟨rfl, hb4⟩
          have HB4 := Lib.hid (HB.out.trans (hb4.mono HB.out.size))
          clear hb4
          go_wp2
          go_ret2
          rw [HY.out]
          exact ⟨rfl, HB4.out⟩
  by_cases c79 : bt s 1 = 79
  · have HX : Hid (splitN s = (8, 2)) := by show _ = _; rw [HS2.out, c79]; rfl
    have n120 : (((s[1].toNat : Nat) : Int) == 120) = false := NEV.out 120 (by omega)
    have n88 : (((s[1].toNat : Nat) : Int) == 88) = false := NEV.out 88 (by omega)
    have n98 : (((s[1].toNat : Nat) : Int) == 98) = false := NEV.out 98 (by omega)
    have n66 : (((s[1].toNat : Nat) : Int) == 66) = false := NEV.out 66 (by omega)
    have n111 : (((s[1].toNat : Nat) : Int) == 111) = false := NEV.out 111 (by omega)
    have y79 : (((s[1].toNat : Nat) : Int) == 79) = true := EQV.out 79 c79
    clear c120 c88 c98 c66 c111 c79
    rw [HX.out] at HE hbase hat
    dsimp only at HE hbase hat
    clear HX hbase
    go_enter Tryd.func8, Tryd.ntmps8
    have hb : 2 ≤ 8 ∧ 8 ≤ 16 := by omega
    obtain ⟨i0, hi0, hz0, hz1, hz2⟩ := info_parts int_info
    have hi0' := Lib.hid hi0
    have hz0' := Lib.hid hz0
    have hz1' := Lib.hid hz1
    have hz2' := Lib.hid hz2
    clear hi0 hz0 hz1 hz2
    go_wp2
    go_loopw [6, 7] (fun v iv wr => ∃ (i f : Nat) (l : List Nat), iv = .int .i64 i ∧ 2 ≤ i ∧ i ≤ s.size ∧ s.size ≤ i + f ∧ l.length ≤ i ∧ Hid (∀ d ∈ l, d < 16) ∧ Hid (Digs wr w.heap.size v l) ∧ Hid (Below w.heap.size w wr) ∧ Hid (refNumF s 8 f i l = refNumF s 8 s.size 2 [])) (fun _ iv _ => s.size - (intOf iv).toNat)
    case atStart => exact ⟨2, s.size, [], rfl, Nat.le_refl _, by omega, by omega, Nat.zero_le _, (fun _ h => by cases h), ⟨rfl, .inl ⟨rfl, rfl⟩⟩, Below.refl _ _, rfl⟩
    case round =>
      obtain ⟨i, f, l, rfl, hi1, hi2, hf, hll, HL, HR, HB, HS⟩ := hrel
      obtain ⟨a1, c1, rfl⟩ := HR.out.form
      have hsz := HB.out.size
      by_cases hlt : i < s.size
      · have gi : decide (i < s.size) = true := decide_eq_true hlt
        obtain ⟨f, rfl⟩ : ∃ f', f = f' + 1 := ⟨f - 1, by omega⟩
        have ei := bt_eq s i hlt
        have li := bt_lt s i
        have HS2 : Hid ((if bt s i = 95 then (if i + 1 = s.size ∨ bt s (i + 1) = 95 then none else refNumF s 8 f (i + 1) l) else if 8 ≤ dgB (bt s i) then none else refNumF s 8 f (i + 1) (l ++ [dgB (bt s i)])) = refNumF s 8 s.size 2 []) := by
          show _ = _
          have e := HS.out
          rw [refNumF, if_pos hlt] at e
          exact e
        clear HS
        by_cases c95 : bt s i = 95
        · have g95 : (((s[i].toNat : Nat) : Int) == 95) = true := by rw [← ei, c95]; rfl
          by_cases hend : i + 1 = s.size
          · have HX : Hid (R = (⟨#[]⟩, 4)) := by show _ = _; rw [HE.out, ← HS2.out, if_pos c95, if_pos (.inl hend)]; rfl
            have ge : ((i : Int) + 1 == (s.size : Int)) = true := beq_iff_eq.2 (by omega)
            clear ei c95 hend
            go_wp2
            go_ret2
            rw [HX.out]
            exact ⟨rfl, HB.out⟩
          have ge : ((i : Int) + 1 == (s.size : Int)) = false := beq_eq_false_iff_ne.2 (by omega)
          have hi1' : i + 1 < s.size := by omega
          have ei1 := bt_eq s (i + 1) hi1'
          by_cases d95 : bt s (i + 1) = 95
          · have HX : Hid (R = (⟨#[]⟩, 4)) := by show _ = _; rw [HE.out, ← HS2.out, if_pos c95, if_pos (.inr d95)]; rfl
            have gd : (((s[i + 1].toNat : Nat) : Int) == 95) = true := by rw [← ei1, d95]; rfl
            have gi1 : decide (i + 1 < s.size) = true := decide_eq_true hi1'
            clear ei c95 hend ei1 d95
            go_wp2
            go_ret2
            rw [HX.out]
            exact ⟨rfl, HB.out⟩
          · have HX : Hid (refNumF s 8 f (i + 1) l = refNumF s 8 s.size 2 []) := by show _ = _; rw [← HS2.out, if_pos c95, if_neg (by omega)]
            have gd : (((s[i + 1].toNat : Nat) : Int) == 95) = false := by rw [← ei1]; exact beq_eq_false_iff_ne.2 (by omega)
            have gi1 : decide (i + 1 < s.size) = true := decide_eq_true hi1'
            clear ei c95 hend ei1 d95
            go_wp2
            go_roundw
            case rel => exact ⟨i + 1, f, l, by go_num, by omega, by omega, by omega, by omega, HL.out, HR.out, HB.out, HX.out⟩
            case measure => simp [intOf]; omega
        · have g95 : (((s[i].toNat : Nat) : Int) == 95) = false := by rw [← ei]; exact beq_eq_false_iff_ne.2 (by omega)
          have HEI := Lib.hid ei
          have HDG := Lib.hid (refDigit_any (bt s i) li)
          rw [ei] at HDG
          by_cases hdg : 8 ≤ dgB (bt s i)
          · have HX : Hid (R = (⟨#[]⟩, 4)) := by show _ = _; rw [HE.out, ← HS2.out, if_neg c95, if_pos hdg]; rfl
            have gb : decide ((dgB s[i].toNat : Int) < (8 : Int)) = false := by rw [← ei]; exact decide_eq_false (by omega)
            have gb2 : decide ((8 : Int) ≤ (dgB s[i].toNat : Int)) = true := by rw [← ei]; exact decide_eq_true (by omega)
            clear ei c95 hdg li
            go_wp2_with fail
            refine (HDG.out wr).mono ?_
            rintro e w2 ⟨rfl, rfl⟩
            go_wp2
            go_ret2
            rw [HX.out]
            exact ⟨rfl, HB.out⟩
          · have HX : Hid (refNumF s 8 f (i + 1) (l ++ [dgB (bt s i)]) = refNumF s 8 s.size 2 []) := by show _ = _; rw [← HS2.out, if_neg c95, if_neg hdg]
            have gb : decide ((dgB s[i].toNat : Int) < (8 : Int)) = true := by rw [← ei]; exact decide_eq_true (by omega)
            have gb2 : decide ((8 : Int) ≤ (dgB s[i].toNat : Int)) = false := by rw [← ei]; exact decide_eq_false (by omega)
            have hd16 : dgB (bt s i) < 16 := by omega
            rw [ei] at HX hd16
            clear ei c95 hdg li
            generalize dgB s[i].toNat = d at *
            have hu0 := HR.out
            go_wp2_with fail
            refine (HDG.out wr).mono ?_
            rintro e w2 ⟨rfl, rfl⟩
            go_wp2_with fail
            refine (HDG.out wr).mono ?_
            rintro e w2 ⟨rfl, rfl⟩
            go_wp2_with (at_builtin; refine wpList_append_own _ rfl _ _ 38 rfl w.heap.size 3 i0 (.int .i64 0) 1 8 Tryd.underlying38 hi0'.out hz0'.out hz1'.out hz2'.out rfl (by decide) _ _ _ rfl (hu0.alloc _) ⟨wr.heap.size, 0, none⟩ 1 1 [.int .i64 (d : Int)] rfl rfl (cell_one_new _ _ _) (fun u hu => by simp at hu; subst hu; rfl) (by unfold maxLen; omega) (by omega) (by simp; omega) ?_)
            intro v' w3 hown' hgrow _
            have HR3 : Hid (Digs w3 w.heap.size v' (l ++ [d])) := by
              have e : ints l ++ [Value.int .i64 (d : Int)] = ints (l ++ [d]) := by
                unfold ints
                rw [List.map_append, List.map_singleton]
              show w3.ownsRow w.heap.size 3 1 v' (l ++ [d]).length (ints (l ++ [d]))
              rw [← e, List.length_append]
              exact hown'
            have HB3 := Lib.hid ((HB.out.alloc hsz _).grown hgrow (by simp; omega) (fun k hk => (hu0.lt k hk).1))
            have HL3 : Hid (∀ x ∈ l ++ [d], x < 16) := fun x hx => by
              rcases List.mem_append.1 hx with h | h
              · exact HL.out x h
              · rw [List.mem_singleton.1 h]; exact hd16
            clear hown' hgrow hu0
            go_wp2
            go_roundw
            case rel => exact ⟨i + 1, f, l ++ [d], by go_num, by omega, by omega, by omega, by rw [List.length_append, List.length_singleton]; omega, HL3.out, HR3.out, HB3.out, HX.out⟩
            case measure => simp [intOf]; omega
      · have gi : decide (i < s.size) = false := decide_eq_false hlt
        have HX : Hid (R = refNumE 8 (some l)) := by
          show _ = _
          rw [HE.out, ← HS.out]
          cases f with
          | zero => rfl
          | succ f => rw [refNumF, if_neg hlt]
        by_cases h00 : l.length = 0
        · have HY : Hid (R = (⟨#[]⟩, 4)) := by show _ = _; exact HX.out.trans (if_pos h00)
          have gl : ((l.length : Int) == 0) = true := by rw [h00]; rfl
          clear h00
          go_wp2
          go_ret2
          rw [HY.out]
          exact ⟨rfl, HB.out⟩
        · have HY : Hid (R = (writtenB (foldD 8 l), 0)) := by show _ = _; exact HX.out.trans (if_neg h00)
          have gl : ((l.length : Int) == 0) = false := beq_eq_false_iff_ne.2 (by omega)
          have HDC := Lib.hid (decimal_any l a1 c1 8 wr HL.out hb (by omega) HR.out.ints)
          clear h00
          go_wp2_with fail
          refine HDC.out.mono ?_
          rintro e w4 ⟨rfl, hb4⟩
          have HB4 := Lib.hid (HB.out.trans (hb4.mono HB.out.size))
          clear hb4
          go_wp2
          go_ret2
          rw [HY.out]
          exact ⟨rfl, HB4.out⟩
  have HX : Hid (splitN s = (8, 1)) := by show _ = _; rw [HS2.out, if_neg (by omega), if_neg (by omega), if_neg (by omega)]
  have n120 : (((s[1].toNat : Nat) : Int) == 120) = false := NEV.out 120 (by omega)
  have n88 : (((s[1].toNat : Nat) : Int) == 88) = false := NEV.out 88 (by omega)
  have n98 : (((s[1].toNat : Nat) : Int) == 98) = false := NEV.out 98 (by omega)
  have n66 : (((s[1].toNat : Nat) : Int) == 66) = false := NEV.out 66 (by omega)
  have n111 : (((s[1].toNat : Nat) : Int) == 111) = false := NEV.out 111 (by omega)
  have n79 : (((s[1].toNat : Nat) : Int) == 79) = false := NEV.out 79 (by omega)
  clear c120 c88 c98 c66 c111 c79
  rw [HX.out] at HE hbase hat
  dsimp only at HE hbase hat
  clear HX hbase
  go_enter Tryd.func8, Tryd.ntmps8
  have hb : 2 ≤ 8 ∧ 8 ≤ 16 := by omega
  obtain ⟨i0, hi0, hz0, hz1, hz2⟩ := info_parts int_info
  have hi0' := Lib.hid hi0
  have hz0' := Lib.hid hz0
  have hz1' := Lib.hid hz1
  have hz2' := Lib.hid hz2
  clear hi0 hz0 hz1 hz2
  go_wp2
  go_loopw [6, 7] (fun v iv wr => ∃ (i f : Nat) (l : List Nat), iv = .int .i64 i ∧ 1 ≤ i ∧ i ≤ s.size ∧ s.size ≤ i + f ∧ l.length ≤ i ∧ Hid (∀ d ∈ l, d < 16) ∧ Hid (Digs wr w.heap.size v l) ∧ Hid (Below w.heap.size w wr) ∧ Hid (refNumF s 8 f i l = refNumF s 8 s.size 1 [])) (fun _ iv _ => s.size - (intOf iv).toNat)
  case atStart => exact ⟨1, s.size, [], rfl, Nat.le_refl _, by omega, by omega, Nat.zero_le _, (fun _ h => by cases h), ⟨rfl, .inl ⟨rfl, rfl⟩⟩, Below.refl _ _, rfl⟩
  case round =>
    obtain ⟨i, f, l, rfl, hi1, hi2, hf, hll, HL, HR, HB, HS⟩ := hrel
    obtain ⟨a1, c1, rfl⟩ := HR.out.form
    have hsz := HB.out.size
    by_cases hlt : i < s.size
    · have gi : decide (i < s.size) = true := decide_eq_true hlt
      obtain ⟨f, rfl⟩ : ∃ f', f = f' + 1 := ⟨f - 1, by omega⟩
      have ei := bt_eq s i hlt
      have li := bt_lt s i
      have HS2 : Hid ((if bt s i = 95 then (if i + 1 = s.size ∨ bt s (i + 1) = 95 then none else refNumF s 8 f (i + 1) l) else if 8 ≤ dgB (bt s i) then none else refNumF s 8 f (i + 1) (l ++ [dgB (bt s i)])) = refNumF s 8 s.size 1 []) := by
        show _ = _
        have e := HS.out
        rw [refNumF, if_pos hlt] at e
        exact e
      clear HS
      by_cases c95 : bt s i = 95
      · have g95 : (((s[i].toNat : Nat) : Int) == 95) = true := by rw [← ei, c95]; rfl
        by_cases hend : i + 1 = s.size
        · have HX : Hid (R = (⟨#[]⟩, 4)) := by show _ = _; rw [HE.out, ← HS2.out, if_pos c95, if_pos (.inl hend)]; rfl
          have ge : ((i : Int) + 1 == (s.size : Int)) = true := beq_iff_eq.2 (by omega)
          clear ei c95 hend
          go_wp2
          go_ret2
          rw [HX.out]
          exact ⟨rfl, HB.out⟩
        have ge : ((i : Int) + 1 == (s.size : Int)) = false := beq_eq_false_iff_ne.2 (by omega)
        have hi1' : i + 1 < s.size := by omega
        have ei1 := bt_eq s (i + 1) hi1'
        by_cases d95 : bt s (i + 1) = 95
        · have HX : Hid (R = (⟨#[]⟩, 4)) := by show _ = _; rw [HE.out, ← HS2.out, if_pos c95, if_pos (.inr d95)]; rfl
          have gd : (((s[i + 1].toNat : Nat) : Int) == 95) = true := by rw [← ei1, d95]; rfl
          have gi1 : decide (i + 1 < s.size) = true := decide_eq_true hi1'
          clear ei c95 hend ei1 d95
          go_wp2
          go_ret2
          rw [HX.out]
          exact ⟨rfl, HB.out⟩
        · have HX : Hid (refNumF s 8 f (i + 1) l = refNumF s 8 s.size 1 []) := by show _ = _; rw [← HS2.out, if_pos c95, if_neg (by omega)]
          have gd : (((s[i + 1].toNat : Nat) : Int) == 95) = false := by rw [← ei1]; exact beq_eq_false_iff_ne.2 (by omega)
          have gi1 : decide (i + 1 < s.size) = true := decide_eq_true hi1'
          clear ei c95 hend ei1 d95
          go_wp2
          go_roundw
          case rel => exact ⟨i + 1, f, l, by go_num, by omega, by omega, by omega, by omega, HL.out, HR.out, HB.out, HX.out⟩
          case measure => simp [intOf]; omega
      · have g95 : (((s[i].toNat : Nat) : Int) == 95) = false := by rw [← ei]; exact beq_eq_false_iff_ne.2 (by omega)
        have HEI := Lib.hid ei
        have HDG := Lib.hid (refDigit_any (bt s i) li)
        rw [ei] at HDG
        by_cases hdg : 8 ≤ dgB (bt s i)
        · have HX : Hid (R = (⟨#[]⟩, 4)) := by show _ = _; rw [HE.out, ← HS2.out, if_neg c95, if_pos hdg]; rfl
          have gb : decide ((dgB s[i].toNat : Int) < (8 : Int)) = false := by rw [← ei]; exact decide_eq_false (by omega)
          have gb2 : decide ((8 : Int) ≤ (dgB s[i].toNat : Int)) = true := by rw [← ei]; exact decide_eq_true (by omega)
          clear ei c95 hdg li
          go_wp2_with fail
          refine (HDG.out wr).mono ?_
          rintro e w2 ⟨rfl, rfl⟩
          go_wp2
          go_ret2
          rw [HX.out]
          exact ⟨rfl, HB.out⟩
        · have HX : Hid (refNumF s 8 f (i + 1) (l ++ [dgB (bt s i)]) = refNumF s 8 s.size 1 []) := by show _ = _; rw [← HS2.out, if_neg c95, if_neg hdg]
          have gb : decide ((dgB s[i].toNat : Int) < (8 : Int)) = true := by rw [← ei]; exact decide_eq_true (by omega)
          have gb2 : decide ((8 : Int) ≤ (dgB s[i].toNat : Int)) = false := by rw [← ei]; exact decide_eq_false (by omega)
          have hd16 : dgB (bt s i) < 16 := by omega
          rw [ei] at HX hd16
          clear ei c95 hdg li
          generalize dgB s[i].toNat = d at *
          have hu0 := HR.out
          go_wp2_with fail
          refine (HDG.out wr).mono ?_
          rintro e w2 ⟨rfl, rfl⟩
          go_wp2_with fail
          refine (HDG.out wr).mono ?_
          rintro e w2 ⟨rfl, rfl⟩
          go_wp2_with (at_builtin; refine wpList_append_own _ rfl _ _ 38 rfl w.heap.size 3 i0 (.int .i64 0) 1 8 Tryd.underlying38 hi0'.out hz0'.out hz1'.out hz2'.out rfl (by decide) _ _ _ rfl (hu0.alloc _) ⟨wr.heap.size, 0, none⟩ 1 1 [.int .i64 (d : Int)] rfl rfl (cell_one_new _ _ _) (fun u hu => by simp at hu; subst hu; rfl) (by unfold maxLen; omega) (by omega) (by simp; omega) ?_)
          intro v' w3 hown' hgrow _
          have HR3 : Hid (Digs w3 w.heap.size v' (l ++ [d])) := by
            have e : ints l ++ [Value.int .i64 (d : Int)] = ints (l ++ [d]) := by
              unfold ints
              rw [List.map_append, List.map_singleton]
            show w3.ownsRow w.heap.size 3 1 v' (l ++ [d]).length (ints (l ++ [d]))
            rw [← e, List.length_append]
            exact hown'
          have HB3 := Lib.hid ((HB.out.alloc hsz _).grown hgrow (by simp; omega) (fun k hk => (hu0.lt k hk).1))
          have HL3 : Hid (∀ x ∈ l ++ [d], x < 16) := fun x hx => by
            rcases List.mem_append.1 hx with h | h
            · exact HL.out x h
            · rw [List.mem_singleton.1 h]; exact hd16
          clear hown' hgrow hu0
          go_wp2
          go_roundw
          case rel => exact ⟨i + 1, f, l ++ [d], by go_num, by omega, by omega, by omega, by rw [List.length_append, List.length_singleton]; omega, HL3.out, HR3.out, HB3.out, HX.out⟩
          case measure => simp [intOf]; omega
    · have gi : decide (i < s.size) = false := decide_eq_false hlt
      have HX : Hid (R = refNumE 8 (some l)) := by
        show _ = _
        rw [HE.out, ← HS.out]
        cases f with
        | zero => rfl
        | succ f => rw [refNumF, if_neg hlt]
      by_cases h00 : l.length = 0
      · have HY : Hid (R = (⟨#[]⟩, 4)) := by show _ = _; exact HX.out.trans (if_pos h00)
        have gl : ((l.length : Int) == 0) = true := by rw [h00]; rfl
        clear h00
        go_wp2
        go_ret2
        rw [HY.out]
        exact ⟨rfl, HB.out⟩
      · have HY : Hid (R = (writtenB (foldD 8 l), 0)) := by show _ = _; exact HX.out.trans (if_neg h00)
        have gl : ((l.length : Int) == 0) = false := beq_eq_false_iff_ne.2 (by omega)
        have HDC := Lib.hid (decimal_any l a1 c1 8 wr HL.out hb (by omega) HR.out.ints)
        clear h00
        go_wp2_with fail
        refine HDC.out.mono ?_
        rintro e w4 ⟨rfl, hb4⟩
        have HB4 := Lib.hid (HB.out.trans (hb4.mono HB.out.size))
        clear hb4
        go_wp2
        go_ret2
        rw [HY.out]
        exact ⟨rfl, HB4.out⟩
end Go.Proofs.YtijinpnbhnfiiaaDoor
