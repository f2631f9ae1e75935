/- package big: what a text says as a number. -/
import Derived.Test.YtpdkebljacmgfaaDoorBig12
namespace Go.Proofs.YtpdkebljacmgfaaDoor
open Go.RowKit
set_option linter.unusedVariables false

/-- What reading ends with. -/
def ReadEnds (w : World) (r : Option Int) (e : Ending) (w' : World) : Prop := Below w.heap.size w w' ∧ match r with
  | none => e = .returned (.tuple #[.agg #[.bool false, .slice none 0 0], .bool false])
  | some z => ∃ g, e = .returned (.tuple #[.agg #[.bool (decide (z < 0)), .slice (some ⟨g, 0, none⟩) (dgs z.natAbs).length (dgs z.natAbs).length], .bool true]) ∧ w.heap.size ≤ g ∧ RowAt w' (some ⟨g, 0, none⟩) (dgs z.natAbs)

theorem num_results (fn : Func) (h : fn.results = #[.cell 2 44, .tmp 3]) (tmps : Array Value) (W : World) (q : Nat) (x y z : Value) (h2 : tmps.getD 2 undef = .pointer (some ⟨q, 0, none⟩)) (h3 : tmps.getD 3 undef = z) (hq : W.heap[q]? = some (.cells #[x, y] 44 (0, 0))) :
    (results fn tmps).run Tryd.prog W = .ok (.tuple #[.agg #[x, y], z]) W := by
  have k2 : tmps[2]?.getD undef = .pointer (some ⟨q, 0, none⟩) := by simpa using h2
  have k3 : tmps[3]?.getD undef = z := by simpa using h3
  have c0 : W.cell? ⟨q, 0, none⟩ = some x := by simp [World.cell?, hq]
  have c1 : W.cell? ⟨q, 1, none⟩ = some y := by simp [World.cell?, hq]
  simp [results, h, k2, k3, asAddr, go_sem, c0, c1]
theorem set_two {w : World} {q : Nat} {x y a b : Value} {t : TypeId} (h : w.heap[q]? = some (.cells #[x, y] t (0, 0))) : ((w.setCell ⟨q, 0, none⟩ a).setCell ⟨q, 1, none⟩ b).heap[q]? = some (.cells #[a, b] t (0, 0)) := by
  have key : ∀ (W : World) (cs : Array Value) (j : Nat) (v : Value), W.heap[q]? = some (.cells cs t (0, 0)) → (W.setCell ⟨q, j, none⟩ v).heap[q]? = some (.cells (cs.set! j v) t (0, 0)) := fun W cs j v h => by
    have hlt := lt_of_block h
    have h' : W.heap[q] = .cells cs t (0, 0) := by simpa [Array.getElem?_eq_getElem hlt] using h
    show (W.heap.modify q _)[q]? = _
    rw [Array.getElem?_eq_getElem (by simpa using hlt), Array.getElem_modify_self, h']
    rfl
  exact key _ _ 1 b (key _ _ 0 a h)
theorem two_cells {w : World} {q : Nat} {x y : Value} {t : TypeId} (h : w.heap[q]? = some (.cells #[x, y] t (0, 0))) : (w.cell? ⟨q, 0, none⟩ = some x ∧ w.cell? ⟨q, 1, none⟩ = some y) ∧ (w.frozen? ⟨q, 0, none⟩ = false ∧ w.frozen? ⟨q, 1, none⟩ = false) := by
  simp [World.cell?, World.frozen?, h]

/-- What is behind a sign -, and whether one is there. -/
theorem cut_sign (l : List UInt8) : (l.head? = some 45 ∧ Lib.trimPrefix l [45] = l.drop 1 ∧ Lib.hasPrefix l [45] = true) ∨ (l.head? ≠ some 45 ∧ Lib.trimPrefix l [45] = l ∧ Lib.hasPrefix l [45] = false) := by
  unfold Lib.trimPrefix Lib.hasPrefix
  cases l with
  | nil => exact .inr ⟨by simp, rfl, rfl⟩
  | cons c l =>
    by_cases h : c = 45
    · subst h
      exact .inl ⟨rfl, rfl, rfl⟩
    · have hp : ([45] : List UInt8).isPrefixOf (c :: l) = false := by
        show ((45 : UInt8) == c && _) = false
        rw [beq_eq_false_iff_ne.2 (fun e => h e.symm), Bool.false_and]
      refine .inr ⟨by simpa using h, ?_, hp⟩
      rw [hp]; rfl
theorem big_num {l : List UInt8} (h : plainL l = true) (hl : 200 < l.length) : ¬ numL l < limN := by
  intro hc
  have e := dec_num l h
  have h1 : Lib.nDigits (numL l) ≤ 154 + 1 := nd_le (Nat.lt_trans hc (by decide +kernel))
  rw [← Lib.decDigits_length, e] at h1
  omega
/-- What reading says, case by case. -/
theorem read_none {l f : List UInt8} {b : Bool} (h : (l.head? = some 45 ∧ f = l.drop 1 ∧ b = true) ∨ (l.head? ≠ some 45 ∧ f = l ∧ b = false)) (hp : (decide (f.length ≤ 200) && plainL f) = false) : readZ l = none := by
  unfold readZ
  rcases h with ⟨h1, rfl, rfl⟩ | ⟨h1, rfl, rfl⟩
  · rw [if_pos h1]
    generalize l.drop 1 = f at *
    cases hpl : plainL f
    · simp
    · have := big_num hpl (by rw [hpl] at hp; simpa using hp)
      rw [decide_eq_false this]
      simp
  · rw [if_neg h1]
    cases hpl : plainL f
    · simp
    · have := big_num hpl (by rw [hpl] at hp; simpa using hp)
      simp [this]
theorem read_some {l f : List UInt8} {b : Bool} (h : (l.head? = some 45 ∧ f = l.drop 1 ∧ b = true) ∨ (l.head? ≠ some 45 ∧ f = l ∧ b = false)) (n : Nat) (hf : f = Lib.decDigits n) :
    readZ l = if b = true ∧ n = 0 then none else if limN ≤ n then none else some (if b then -(n : Int) else n) := by
  unfold readZ
  rcases h with ⟨h1, rfl, rfl⟩ | ⟨h1, rfl, rfl⟩
  · rw [if_pos h1, hf, dec_plain, numL_dec]
    by_cases h0 : n = 0
    · simp [h0]
    · by_cases h2 : limN ≤ n
      · simp [h0, h2, Nat.not_lt.2 h2]
      · simp [h0, h2, Nat.lt_of_not_le h2]
  · rw [if_neg h1, hf, dec_plain, numL_dec]
    by_cases h2 : limN ≤ n
    · simp [h2, Nat.not_lt.2 h2]
    · simp [h2, Nat.lt_of_not_le h2]
theorem one_nought (f : ByteArray) (n : Nat) (hf : f.data.toList = Lib.decDigits n) : (f.toList == [48]) = decide (n = 0) := by
  rw [Lib.toList_data, hf, Bool.eq_iff_iff, beq_iff_eq, decide_eq_true_eq]
  constructor
  · intro h
    rw [show ([48] : List UInt8) = Lib.decDigits 0 from (Lib.decDigits_one (show (0 : Nat) < 10 by omega)).symm] at h
    exact dec_inj h
  · intro h
    subst h
    exact Lib.decDigits_one (by omega)

set_option maxHeartbeats 2000000 in
set_option maxRecDepth 100000 in
theorem read_any (s : ByteArray) (w : World) : Calls Tryd.prog 42 #[.string s] w (ReadEnds w (readZ s.data.toList)) := by
  have hcut := cut_sign s.data.toList
  have C1 := fun W => Go.Proofs.Tryd.strings_CutPrefix s ⟨#[45]⟩ W
  rw [show (⟨#[45]⟩ : ByteArray).data.toList = [45] from rfl] at C1
  obtain ⟨f, hf⟩ : ∃ f : ByteArray, f = ⟨(Lib.trimPrefix s.data.toList [45]).toArray⟩ := ⟨_, rfl⟩
  have hfl : f.data.toList = Lib.trimPrefix s.data.toList [45] := by rw [hf]
  have hfs : f.data.toList.length = f.size := by simp
  rw [← hf] at C1
  rw [← hfl] at hcut
  generalize Lib.hasPrefix s.data.toList [45] = b at *
  clear hf hfl
  have C2 := plain_any f
  rw [plain_row] at C2
  generalize s.data.toList = l at *
  have hz := heap_alloc_new w (.cells #[.bool false, .slice none 0 0] 44)
  have hal := (Below.refl w.heap.size w).alloc (Nat.le_refl _) (.cells #[.bool false, .slice none 0 0] 44)
  have hsz : (w.alloc (.cells #[.bool false, .slice none 0 0] 44)).heap.size = w.heap.size + 1 := by simp
  have HC1 := Lib.hid C1
  have HC2 := Lib.hid C2
  have HZ := Lib.hid hz
  have HAL := Lib.hid hal
  have HSZ := Lib.hid hsz
  cases hp : (decide (f.size ≤ 200) && plainL f.data.toList)
  · have hr := read_none hcut (by rw [hfs]; exact hp)
    rw [hr]
    rw [hp] at HC2
    clear hr hp hcut C1 C2 hz hal hsz hfs
    go_enter Tryd.func42, Tryd.ntmps42
    go_wp2_with (go_at_call 61; (with_reducible refine (HC1.out _).mono ?_); rintro e w' ⟨rfl, rfl⟩)
    refine (HC2.out _).mono ?_
    rintro e w2 ⟨rfl, hb⟩
    have hq := (hb.block w.heap.size (by rw [HSZ.out]; omega)).trans HZ.out
    have hq2 := set_two (a := .bool false) (b := .slice none 0 0) hq
    obtain ⟨⟨e0, e1⟩, ⟨e2, e3⟩⟩ := two_cells hq
    have HB := Lib.hid (HAL.out.trans (hb.mono (by rw [HSZ.out]; omega)))
    have HQ2 := Lib.hid hq2
    clear hq hq2 hb HC1 HC2
    go_wp2
    refine bodyPost_ret (num_results _ (by kernel_rfl) _ _ w.heap.size _ _ _ rfl rfl HQ2.out) rfl ⟨?_, rfl⟩
    exact ((HB.out.setCell (p := ⟨w.heap.size, 0, none⟩) (Nat.le_refl _) _).setCell (p := ⟨w.heap.size, 1, none⟩) (Nat.le_refl _) _)
  · rw [Bool.and_eq_true, decide_eq_true_eq] at hp
    obtain ⟨hp1, hp2⟩ := hp
    obtain ⟨n, hn⟩ := (plain_iff _).1 hp2
    have hone := one_nought f n hn
    have hr := read_some hcut n hn
    have C3 := fun W => wide_any f n hn W
    have C4 := fun W => amount_any f n hn (by omega) W
    have HC3 := Lib.hid C3
    have HC4 := Lib.hid C4
    rw [hr]
    rw [show (decide (f.size ≤ 200) && plainL f.data.toList) = true by rw [hp2, decide_eq_true hp1]; rfl] at HC2
    by_cases hbn : b = true ∧ n = 0
    · obtain ⟨rfl, rfl⟩ := hbn
      rw [if_pos ⟨rfl, rfl⟩]
      rw [decide_eq_true rfl] at hone
      clear hr hp1 hp2 hn C1 C2 C3 C4 hcut hz hal hsz hfs HC3 HC4
      go_enter Tryd.func42, Tryd.ntmps42
      go_wp2_with (go_at_call 61; (with_reducible refine (HC1.out _).mono ?_); rintro e w' ⟨rfl, rfl⟩)
      refine (HC2.out _).mono ?_
      rintro e w2 ⟨rfl, hb⟩
      have hq := (hb.block w.heap.size (by rw [HSZ.out]; omega)).trans HZ.out
      have hq2 := set_two (a := .bool false) (b := .slice none 0 0) hq
      obtain ⟨⟨e0, e1⟩, ⟨e2, e3⟩⟩ := two_cells hq
      have HB := Lib.hid (HAL.out.trans (hb.mono (by rw [HSZ.out]; omega)))
      have HQ2 := Lib.hid hq2
      clear hq hq2 hb HC1 HC2
      go_wp2
      refine bodyPost_ret (num_results _ (by kernel_rfl) _ _ w.heap.size _ _ _ rfl rfl HQ2.out) rfl ⟨?_, rfl⟩
      exact ((HB.out.setCell (p := ⟨w.heap.size, 0, none⟩) (Nat.le_refl _) _).setCell (p := ⟨w.heap.size, 1, none⟩) (Nat.le_refl _) _)
    · rw [if_neg hbn]
      have hbs : b = false ∨ (b = true ∧ (f.toList == [48]) = false) := by
        cases b
        · exact .inl rfl
        · refine .inr ⟨rfl, ?_⟩
          rw [hone, decide_eq_false]
          exact fun h => hbn ⟨rfl, h⟩
      by_cases hw : limN ≤ n
      · rw [if_pos hw]
        rw [decide_eq_true hw] at HC3
        clear hr hp1 hp2 hn C1 C2 C3 C4 hcut hz hal hsz hfs hone hbn HC4 hw
        rcases hbs with rfl | ⟨rfl, hone⟩
        all_goals
          go_enter Tryd.func42, Tryd.ntmps42
          go_wp2_with (go_at_call 61; (with_reducible refine (HC1.out _).mono ?_); rintro e w' ⟨rfl, rfl⟩)
          refine (HC2.out _).mono ?_
          rintro e w2 ⟨rfl, hb⟩
          have hq := (hb.block w.heap.size (by rw [HSZ.out]; omega)).trans HZ.out
          have hq2 := set_two (a := .bool false) (b := .slice none 0 0) hq
          obtain ⟨⟨e0, e1⟩, ⟨e2, e3⟩⟩ := two_cells hq
          have HB := Lib.hid (HAL.out.trans (hb.mono (by rw [HSZ.out]; omega)))
          have HQ2 := Lib.hid hq2
          clear hq hq2 hb HC1 HC2
          go_wp2_with (go_at_call 46; (with_reducible refine (HC3.out _).mono ?_); rintro e w' ⟨rfl, rfl⟩)
          refine bodyPost_ret (num_results _ (by kernel_rfl) _ _ w.heap.size _ _ _ rfl rfl HQ2.out) rfl ⟨?_, rfl⟩
          exact ((HB.out.setCell (p := ⟨w.heap.size, 0, none⟩) (Nat.le_refl _) _).setCell (p := ⟨w.heap.size, 1, none⟩) (Nat.le_refl _) _)
      · rw [if_neg hw]
        rw [decide_eq_false hw] at HC3
        have HZZ : Hid ((if b = true then -(n : Int) else n).natAbs = n ∧ decide ((if b = true then -(n : Int) else n) < 0) = b) := by
          refine Lib.hid ⟨by split <;> omega, ?_⟩
          cases b
          · simp
          · have : n ≠ 0 := fun h => hbn ⟨rfl, h⟩
            simp; omega
        generalize (if b = true then -(n : Int) else n) = z at *
        clear hr hp1 hp2 hn C1 C2 C3 C4 hcut hz hal hsz hfs hone hbn hw
        rcases hbs with rfl | ⟨rfl, hone⟩
        all_goals
          go_enter Tryd.func42, Tryd.ntmps42
          go_wp2_with (go_at_call 61; (with_reducible refine (HC1.out _).mono ?_); rintro e w' ⟨rfl, rfl⟩)
          refine (HC2.out _).mono ?_
          rintro e w2 ⟨rfl, hb⟩
          have hq := (hb.block w.heap.size (by rw [HSZ.out]; omega)).trans HZ.out
          have hq2 := set_two (a := .bool false) (b := .slice none 0 0) hq
          obtain ⟨⟨e0, e1⟩, ⟨e2, e3⟩⟩ := two_cells hq
          have HB := Lib.hid (HAL.out.trans (hb.mono (by rw [HSZ.out]; omega)))
          have HQ2 := Lib.hid hq2
          have HBB := Lib.hid hb
          have HQ := Lib.hid hq
          clear hq hq2 hb HC1 HC2 e0 e1 e2 e3
          go_wp2_with (go_at_call 46; (with_reducible refine (HC3.out _).mono ?_); rintro e w' ⟨rfl, rfl⟩)
          refine (HC4.out _).mono ?_
          rintro e w3 ⟨g, rfl, hg, hrow, hb3⟩
          have hlt2 := lt_of_block HQ.out
          have hq3 := (hb3.block w.heap.size hlt2).trans HQ.out
          obtain ⟨⟨e0, e1⟩, ⟨e2, e3⟩⟩ := two_cells hq3
          have HB3 := Lib.hid (HB.out.trans (hb3.mono HB.out.size))
          have HQ3 := Lib.hid hq3
          have HROW := Lib.hid hrow
          have HG := Lib.hid hg
          have hg2 : w.heap.size < g := by omega
          clear hq3 hg hrow hb3 hlt2
          obtain ⟨k, hk⟩ : ∃ k, k = (dgs n).length := ⟨_, rfl⟩
          have HK := Lib.hid hk
          rw [← hk]
          clear hk
          go_wp2
          refine bodyPost_ret (num_results _ (by kernel_rfl) _ _ w.heap.size _ _ _ rfl rfl (set_two HQ3.out)) rfl ⟨?_, ?_⟩
          · exact ((HB3.out.setCell (p := ⟨w.heap.size, 0, none⟩) (Nat.le_refl _) _).setCell (p := ⟨w.heap.size, 1, none⟩) (Nat.le_refl _) _)
          · refine ⟨g, ?_, by omega, ?_⟩
            · rw [HZZ.out.1, HZZ.out.2, HK.out]; rfl
            · rw [HZZ.out.1]
              exact HROW.out.but ((But.set w.heap.size 0 _).trans (But.set w.heap.size 1 _)) (.inr ⟨g, 0, rfl, by omega⟩)
end Go.Proofs.YtpdkebljacmgfaaDoor
