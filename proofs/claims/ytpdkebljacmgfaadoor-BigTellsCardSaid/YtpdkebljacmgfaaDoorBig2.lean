/- package big: compare. -/
import Derived.Test.YtpdkebljacmgfaaDoorBig1
import Derived.Test.YtpdkebljacmgfaaDoorVerText
namespace Go.Proofs.YtpdkebljacmgfaaDoor
open Go.RowKit
set_option linter.unusedVariables false

/-- How two numbers stand to one another. -/
def ordI (a b : Int) : Int := if a < b then -1 else if b < a then 1 else 0
theorem ordI_lt {a b : Int} (h : a < b) : ordI a b = -1 := if_pos h
theorem ordI_gt {a b : Int} (h : b < a) : ordI a b = 1 := by unfold ordI; rw [if_neg (by omega), if_pos h]
theorem ordI_eq (a : Int) : ordI a a = 0 := by unfold ordI; rw [if_neg (by omega), if_neg (by omega)]
theorem ordI_cases (a b : Int) : (a < b ∧ ordI a b = -1) ∨ (b < a ∧ ordI a b = 1) ∨ (a = b ∧ ordI a b = 0) := by
  rcases Int.lt_trichotomy a b with h | h | h
  · exact .inl ⟨h, ordI_lt h⟩
  · subst h; exact .inr (.inr ⟨rfl, ordI_eq a⟩)
  · exact .inr (.inl ⟨h, ordI_gt h⟩)

theorem ret_int {k : IntKind} {a b : Int} (h : a = b) : Ending.returned (.int k a) = .returned (.int k b) := by rw [h]
theorem kept_same {P : Program} {f : FuncId} {args : Array Value} {w : World} {x : Kept w} {v : Value} (h : Calls P f args x.W fun e w' => e = .returned v ∧ x.W = w') :
    Calls P f args x.W fun e w'' => e = .returned v ∧ ∃ y : Kept w, w'' = y.W :=
  h.mono fun _ w' ⟨he, hb⟩ => ⟨he, x, hb.symm⟩
theorem nan_int (a : Int) (w : World) : Calls Tryd.prog 79 #[.int .i64 a] w fun e w' => e = .returned (.bool false) ∧ w = w' := by
  go_enter Tryd.func79, Tryd.ntmps79
  go_wp2
  go_ret
  exact ⟨rfl, rfl⟩
theorem nan_u64 (a : Int) (w : World) : Calls Tryd.prog 80 #[.int .u64 a] w fun e w' => e = .returned (.bool false) ∧ w = w' := by
  go_enter Tryd.func80, Tryd.ntmps80
  go_wp2
  go_ret
  exact ⟨rfl, rfl⟩

theorem cmp_int (a b : Int) (w : World) : Calls Tryd.prog 64 #[.int .i64 a, .int .i64 b] w fun e w' => e = .returned (.int .i64 (ordI a b)) ∧ w = w' := by
  rcases ordI_cases a b with ⟨h, e⟩ | ⟨h, e⟩ | ⟨h, e⟩
  all_goals
    rw [e]
    clear e
    try subst h
    go_enter Tryd.func64, Tryd.ntmps64
    go_wp2_with (go_at_call 79; refine (nan_int _ _).mono ?_; rintro e w' ⟨rfl, rfl⟩)
    go_ret
    exact ⟨rfl, rfl⟩
theorem cmp_u64 (a b : Int) (w : World) : Calls Tryd.prog 65 #[.int .u64 a, .int .u64 b] w fun e w' => e = .returned (.int .i64 (ordI a b)) ∧ w = w' := by
  rcases ordI_cases a b with ⟨h, e⟩ | ⟨h, e⟩ | ⟨h, e⟩
  all_goals
    rw [e]
    clear e
    try subst h
    go_enter Tryd.func65, Tryd.ntmps65
    go_wp2_with (go_at_call 80; refine (nan_u64 _ _).mono ?_; rintro e w' ⟨rfl, rfl⟩)
    go_ret
    exact ⟨rfl, rfl⟩

theorem RowAt.cellAt {w : World} {a : Option Addr} {l : List Nat} (h : RowAt w a l) (i : Nat) (hi : i < l.length) : ∃ b o, a = some ⟨b, o, none⟩ ∧ w.cell? ⟨b, o + i, none⟩ = some (.int .u64 (l.getD i 0)) := by
  rcases h with rfl | ⟨b, o, cur, rfl, h1, h2⟩
  · cases hi
  · exact ⟨b, o, rfl, h1.cell h2 i hi⟩

theorem drop_eq {l m : List Nat} {k : Nat} (hk : k < l.length) (hm : k < m.length) (h : l.drop (k + 1) = m.drop (k + 1)) (e : l.getD k 0 = m.getD k 0) : l.drop k = m.drop k := by
  rw [List.drop_eq_getElem_cons hk, List.drop_eq_getElem_cons hm, h]
  congr 1
  rw [List.getD_eq_getElem?_getD, List.getElem?_eq_getElem hk, List.getD_eq_getElem?_getD, List.getElem?_eq_getElem hm] at e
  exact e
/-- What the comparison stands at. -/
structure CmpAt (x y : Nat) (c p : Int) : Prop where
  lo : -1 ≤ p
  hi : p < (dgs x).length
  diff : c ≠ 0 → c = ordI x y
  same : c = 0 → (dgs x).length = (dgs y).length ∧ (dgs x).drop (p + 1).toNat = (dgs y).drop (p + 1).toNat
theorem CmpAt.start (x y : Nat) : CmpAt x y (ordI (dgs x).length (dgs y).length) (((dgs x).length : Int) - 1) := by
  refine ⟨by omega, by omega, fun h => ?_, fun h => ?_⟩
  · rcases ordI_cases (dgs x).length (dgs y).length with ⟨h1, e⟩ | ⟨h1, e⟩ | ⟨h1, e⟩
    · rw [e, ordI_lt]
      rcases Nat.lt_or_ge x y with h' | h'
      · omega
      · have := dgs_mono h'; omega
    · rw [e, ordI_gt]
      rcases Nat.lt_or_ge y x with h' | h'
      · omega
      · have := dgs_mono h'; omega
    · exact absurd e h
  · rcases ordI_cases (dgs x).length (dgs y).length with ⟨h1, e⟩ | ⟨h1, e⟩ | ⟨h1, e⟩
    · rw [e] at h; cases h
    · rw [e] at h; cases h
    · refine ⟨by omega, ?_⟩
      rw [List.drop_of_length_le (by omega), List.drop_of_length_le (by omega)]
theorem CmpAt.step {x y k : Nat} (h : CmpAt x y 0 k) : CmpAt x y (ordI ((dgs x).getD k 0) ((dgs y).getD k 0)) ((k : Int) - 1) := by
  obtain ⟨h1, h2⟩ := h.same rfl
  have hk := h.hi
  rw [show ((k : Int) + 1).toNat = k + 1 by omega] at h2
  refine ⟨by omega, by omega, fun hc => ?_, fun hc => ⟨h1, ?_⟩⟩
  · rcases ordI_cases ((dgs x).getD k 0) ((dgs y).getD k 0) with ⟨g, e⟩ | ⟨g, e⟩ | ⟨g, e⟩
    · rw [e, ordI_lt]
      have := val_order (dgs_ok x) (dgs_ok y) h1 (by omega) h2 (by omega)
      rw [val_dgs, val_dgs] at this
      omega
    · rw [e, ordI_gt]
      have := val_order (dgs_ok y) (dgs_ok x) h1.symm (by omega) h2.symm (by omega)
      rw [val_dgs, val_dgs] at this
      omega
    · exact absurd e hc
  · rw [show ((k : Int) - 1 + 1).toNat = k by omega]
    rcases ordI_cases ((dgs x).getD k 0) ((dgs y).getD k 0) with ⟨g, e⟩ | ⟨g, e⟩ | ⟨g, e⟩
    · rw [e] at hc; cases hc
    · rw [e] at hc; cases hc
    · exact drop_eq (by omega) (by omega) h2 (by omega)
theorem CmpAt.fin {x y : Nat} {c p : Int} (h : CmpAt x y c p) (hf : c ≠ 0 ∨ p = -1) : c = ordI x y := by
  by_cases hc : c = 0
  · subst hc
    obtain ⟨h1, h2⟩ := h.same rfl
    rcases hf with hf | hf
    · exact absurd rfl hf
    · subst hf
      rw [show ((-1 : Int) + 1).toNat = 0 from rfl, List.drop_zero, List.drop_zero] at h2
      have e : x = y := by rw [← val_dgs x, ← val_dgs y, h2]
      subst e
      exact (ordI_eq _).symm
  · exact h.diff hc

set_option maxHeartbeats 1000000 in
theorem compare_any (x y : Nat) (a1 a2 : Option Addr) (c1 c2 : Nat) (w : World) (h1 : RowAt w a1 (dgs x)) (h2 : RowAt w a2 (dgs y)) (hx : (dgs x).length ≤ 1000000) (hy : (dgs y).length ≤ 1000000) :
    Calls Tryd.prog 44 #[.slice a1 (dgs x).length c1, .slice a2 (dgs y).length c2] w fun e w' => e = .returned (.int .i64 (ordI x y)) ∧ Below w.heap.size w w' := by
  have HS := Lib.hid (CmpAt.start x y)
  have H1 := Lib.hid h1
  have H2 := Lib.hid h2
  clear h1 h2
  obtain ⟨n, hn⟩ : ∃ n, n = (dgs x).length := ⟨_, rfl⟩
  obtain ⟨m, hm⟩ : ∃ m, m = (dgs y).length := ⟨_, rfl⟩
  rw [← hn, ← hm] at HS ⊢
  rw [← hn] at hx
  rw [← hm] at hy
  have HN := Lib.hid hn
  have HM := Lib.hid hm
  clear hn hm
  generalize hs : ordI n m = s at HS
  have HSS := Lib.hid hs
  clear hs
  go_enter Tryd.func44, Tryd.ntmps44
  go_wp2_with (go_at_call 64; refine (cmp_int _ _ _).mono ?_; rintro e w' ⟨rfl, rfl⟩; rw [HSS.out])
  go_loopw [5, 6] (fun ov pv wr => ∃ (c p : Int), ov = .int .i64 c ∧ pv = .int .i64 p ∧ -1 ≤ p ∧ p < n ∧ Hid (CmpAt x y c p) ∧ Hid (Below w.heap.size w wr)) (fun _ pv _ => (intOf pv + 1).toNat)
  case atStart => exact ⟨s, _, rfl, rfl, by omega, by omega, HS, Lib.hid (Below.refl _ _)⟩
  case round =>
    obtain ⟨c, p, rfl, rfl, hp0, hp1, HC, HB⟩ := hrel
    by_cases hc : c = 0
    · subst hc
      by_cases hp : p = -1
      · subst hp
        have e : 0 = ordI x y := HC.out.fin (.inr rfl)
        go_wp2
        go_ret
        exact ⟨ret_int e, HB.out⟩
      · obtain ⟨k, rfl⟩ : ∃ k : Nat, p = k := ⟨p.toNat, by omega⟩
        have hi2 : k < m := by have := (HC.out.same rfl).1; have := HN.out; have := HM.out; omega
        obtain ⟨b1, o1, e1, q1⟩ := (H1.out.below HB.out).cellAt k (by rw [← HN.out]; omega)
        obtain ⟨b2, o2, e2, q2⟩ := (H2.out.below HB.out).cellAt k (by rw [← HM.out]; omega)
        have HSt := Lib.hid HC.out.step
        subst e1 e2
        generalize (dgs x).getD k 0 = d1 at *
        generalize (dgs y).getD k 0 = d2 at *
        generalize hcc : ordI (d1 : Nat) (d2 : Nat) = c' at HSt
        have HCC := Lib.hid hcc
        clear hcc HC
        have C65 : ∀ W : World, Calls Tryd.prog 65 #[.int .u64 d1, .int .u64 d2] W fun e w' => e = .returned (.int .i64 c') ∧ W = w' := fun W => by rw [← HCC.out]; exact cmp_u64 _ _ W
        clear HCC
        go_wp2
        have Q1 : ∀ z : Kept wr, z.W.cell? ⟨b1, o1 + k, none⟩ = some (.int .u64 d1) := fun z => z.cell q1
        have Q2 : ∀ z : Kept wr, z.W.cell? ⟨b2, o2 + k, none⟩ = some (.int .u64 d2) := fun z => z.cell q2
        clear q1 q2
        refine wp_region_kept (by kernel_rfl) (by kernel_rfl) ?_
        repeat (go_big_quiet_step ((first | (go_at_call 65; exact kept_same (C65 _)))))
        refine wpQuiet_nil ?_
        rintro _ ⟨z, rfl⟩
        have HB2 := Lib.hid (HB.out.trans (z.h.mono HB.out.size))
        go_wp2
        go_roundw
        case rel => exact ⟨_, _, rfl, rfl, by omega, by omega, HSt, HB2⟩
        case measure => simp [intOf]
    · have e : c = ordI x y := HC.out.fin (.inl hc)
      have g : (c == 0) = false := beq_eq_false_iff_ne.2 hc
      have HE := Lib.hid e
      clear e
      go_wp2
      go_ret
      exact ⟨ret_int HE.out, HB.out⟩
end Go.Proofs.YtpdkebljacmgfaaDoor
