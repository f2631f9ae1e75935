/- package big: goes. -/
import Derived.Test.YtpdkebljacmgfaaDoorBig5
namespace Go.Proofs.YtpdkebljacmgfaaDoor
open Go.RowKit
set_option linter.unusedVariables false

/-- The first guess. -/
def guessN (lp lb : List Nat) (n : Nat) : Nat := min ((lp.getD (n + 1) 0 * 1000000000 + lp.getD n 0) / lb.getD n 0) 999999999
theorem guess_le (lp lb : List Nat) (n : Nat) : guessN lp lb n ≤ 999999999 := Nat.min_le_right _ _
theorem guess_ge {lp lb : List Nat} {n : Nat} (hp : Dgs lp) (hb : Dgs lb) (hpl : lp.length = n + 2) (hbl : lb.length = n + 1) (ht : lb.getD n 0 ≠ 0) (hlt : val lp < val lb * 1000000000) : val lp / val lb ≤ guessN lp lb n := by
  have h1 := guess_ok hp hb hpl hbl ht
  have h2 : val lp / val lb < 1000000000 := by
    rcases Nat.eq_zero_or_pos (val lb) with h | h
    · rw [h, Nat.div_zero]; decide
    · exact (Nat.div_lt_iff_lt_mul h).2 (by rw [Nat.mul_comm]; exact hlt)
  unfold guessN
  omega
theorem guess_down {P b g : Nat} (hb : 0 < b) (hq : P / b ≤ g) (h : P < b * g) : 1 ≤ g ∧ P / b ≤ g - 1 := by
  have h1 := Nat.div_mul_le_self P b
  rw [Nat.mul_comm] at h1
  have h2 : P / b < g := by
    rcases Nat.lt_or_ge (P / b) g with h' | h'
    · exact h'
    · have := Nat.mul_le_mul_left b h'
      omega
  generalize P / b = q at *
  exact ⟨by omega, by omega⟩
theorem guess_done {P b g : Nat} (hb : 0 < b) (hq : P / b ≤ g) (h : b * g ≤ P) : g = P / b := by
  have := (Nat.le_div_iff_mul_le hb).2 (by rw [Nat.mul_comm]; exact h)
  exact Nat.le_antisymm this hq

theorem min_cast (a c g : Nat) (h : g = min (a / c) 999999999) : min ((a : Int) / (c : Int)) 999999999 = (g : Int) := by
  rw [← Int.natCast_ediv, h]
  generalize a / c = q
  omega

set_option maxHeartbeats 2000000 in
set_option maxRecDepth 100000 in
theorem goes_any (lp : List Nat) (bv n : Nat) (a1 a2 : Option Addr) (c1 c2 : Nat) (w : World) (h1 : RowAt w a1 lp) (h2 : RowAt w a2 (dgs bv)) (hp : Dgs lp) (hpl : lp.length = n + 2) (hbl : (dgs bv).length = n + 1) (hlt : val lp < bv * 1000000000) (hn : n ≤ 1000) (hc1 : n + 2 ≤ c1) :
    Calls Tryd.prog 49 #[.slice a1 (n + 2) c1, .slice a2 (n + 1) c2] w fun e w' => e = .returned (.int .u64 (val lp / bv : Nat)) ∧ Below w.heap.size w w' := by
  have ht := dgs_top bv n hbl
  have hb0 : 0 < bv := by omega
  have hg := guess_ge hp (dgs_ok bv) hpl hbl ht (by rw [val_dgs]; exact hlt)
  rw [val_dgs] at hg
  have hgl := guess_le lp (dgs bv) n
  obtain ⟨b1, o1, rfl, q1⟩ := h1.cellAt (n + 1) (by omega)
  obtain ⟨_, _, e1, q0⟩ := h1.cellAt n (by omega)
  injection e1 with e1
  injection e1 with e1 e2
  subst e1 e2
  obtain ⟨b2, o2, rfl, q2⟩ := h2.cellAt n (by omega)
  have hd1 := hp.get (n + 1)
  have hd0 := hp.get n
  have hd2 := (dgs_ok bv).get n
  have HG : Hid (guessN lp (dgs bv) n = min ((lp.getD (n + 1) 0 * 1000000000 + lp.getD n 0) / (dgs bv).getD n 0) 999999999) := Lib.hid rfl
  have HGL := Lib.hid hgl
  have HGE := Lib.hid hg
  generalize guessN lp (dgs bv) n = g0 at *
  generalize lp.getD (n + 1) 0 = d1 at *
  generalize lp.getD n 0 = d0 at *
  generalize (dgs bv).getD n 0 = d2 at *
  have Q1 : ∀ z : Kept w, z.W.cell? ⟨b1, o1 + (n + 1), none⟩ = some (.int .u64 d1) := fun z => z.cell q1
  have Q0 : ∀ z : Kept w, z.W.cell? ⟨b1, o1 + n, none⟩ = some (.int .u64 d0) := fun z => z.cell q0
  have Q2 : ∀ z : Kept w, z.W.cell? ⟨b2, o2 + n, none⟩ = some (.int .u64 d2) := fun z => z.cell q2
  have H1 := Lib.hid h1
  have H2 := Lib.hid h2
  have HP := Lib.hid hp
  have HPL := Lib.hid hpl
  have HBL := Lib.hid hbl
  have hd2' : 0 < d2 := by omega
  clear q1 q0 q2 h1 h2 hp hpl hbl hg hgl hlt ht
  go_enter Tryd.func49, Tryd.ntmps49
  go_wp2_with fail
  refine wp_region_kept (by kernel_rfl) (by kernel_rfl) ?_
  repeat (go_big_quiet_step (fail))
  refine wpQuiet_nil ?_
  rintro _ ⟨z, rfl⟩
  have e0 : min (((d1 : Int) * 1000000000 + d0) / d2) 999999999 = (g0 : Int) := by
    rw [show ((d1 : Int) * 1000000000 + d0) = ((d1 * 1000000000 + d0 : Nat) : Int) by omega]
    exact min_cast _ _ _ HG.out
  rw [e0]
  have HB := Lib.hid z.h
  obtain ⟨W, hW⟩ : ∃ W, W = z.W := ⟨_, rfl⟩
  rw [← hW] at HB ⊢
  have HW := Lib.hid hW
  clear hW e0 Q1 Q0 Q2
  go_wp2_with fail
  go_loopw [6] (fun gv wr => ∃ g : Nat, gv = .int .u64 g ∧ g ≤ 999999999 ∧ Hid (val lp / bv ≤ g) ∧ Hid (Below w.heap.size w wr)) (fun gv _ => (intOf gv).toNat)
  case atStart => exact ⟨g0, rfl, HGL.out, HGE, HB⟩
  case round =>
    clear HB HGE HGL HG
    obtain ⟨g, rfl, hg, HGE, HB⟩ := hrel
    have hra := (H2.out.below HB.out)
    have hrp := (H1.out.below HB.out)
    have hal := (Below.refl wr.heap.size wr).alloc (Nat.le_refl _) (.cells #[.int .u64 g] 59)
    have hnew : RowAt (wr.alloc (.cells #[.int .u64 g] 59)) (some ⟨wr.heap.size, 0, none⟩) [g] := .inr ⟨_, _, _, rfl, heap_alloc_new _ _, fun i hi => by
      have : i = 0 := by simpa using hi
      subst this
      rfl⟩
    have C1 := times_gen (dgs bv) [g] (dgs_ok bv) (fun d hd => by simp at hd; omega) _ _ c2 1 _ (hra.below hal) hnew (by have := HBL.out; omega) (by simp)
    rw [HBL.out] at C1
    have hval : val (dgs bv) * val [g] = bv * g := by rw [val_dgs]; simp [val]
    rw [hval] at C1
    have HC1 := Lib.hid C1
    have HRP := Lib.hid (hrp.below hal)
    have HAL := Lib.hid hal
    clear C1 hra hrp hal hnew hval
    go_wp2_with fail
    refine HC1.out.mono ?_
    rintro e w1 ⟨q, rfl, hq, hrow, hb1⟩
    have hrp1 := HRP.out.below hb1
    have C2 := cut_any lp _ c1 w1 hrp1 HP.out (by have := HPL.out; omega) (by have := HPL.out; omega)
    rw [HPL.out] at C2
    have HC2 := Lib.hid C2
    have HR := Lib.hid hrow
    have HB1 := Lib.hid hb1
    clear C2 hrow hb1 hrp1 HC1 hq
    go_wp2_with fail
    refine HC2.out.mono ?_
    rintro e w2 ⟨rfl, hcr, rfl⟩
    have hl1 : (dgs (bv * g)).length ≤ 1000000 := by
      have h1 : bv * g < pw (n + 2) := by
        have h2 := lt_dgs bv
        rw [HBL.out] at h2
        have h3 := Nat.mul_lt_mul'' h2 (show g < 1000000000 by omega)
        rw [pw_succ, Nat.mul_comm 1000000000]
        exact h3
      have := dgs_len h1
      omega
    have hl2 : (dgs (val lp)).length ≤ 1000000 := by
      have := dgs_len (val_lt HP.out)
      have := HPL.out
      omega
    have C3 := compare_any (bv * g) (val lp) _ _ (dgs (bv * g)).length (dgs (val lp)).length w1 HR.out hcr hl1 hl2
    have hbb : Below w.heap.size w w1 := HB.out.trans ((HAL.out.trans (HB1.out.mono (by simp))).mono HB.out.size)
    have HC3 := Lib.hid C3
    have HBB := Lib.hid hbb
    clear C3 hbb hcr hl1 hl2 HC2 HAL HB1 HRP HR HB
    generalize (dgs (bv * g)).length = n1 at *
    generalize (dgs (val lp)).length = n2 at *
    go_wp2_with fail
    refine HC3.out.mono ?_
    rintro e w3 ⟨rfl, hb3⟩
    have HB3 := Lib.hid (HBB.out.trans (hb3.mono HBB.out.size))
    clear hb3 HBB HC3
    by_cases hgt : val lp < bv * g
    · rw [ordI_gt (show ((val lp : Nat) : Int) < ((bv * g : Nat) : Int) by omega)]
      obtain ⟨g1, g2⟩ := guess_down hb0 HGE.out hgt
      have HG2 := Lib.hid g2
      clear hgt g2
      go_wp2
      go_roundw
      case rel => exact ⟨g - 1, by go_num, by omega, HG2, HB3⟩
      case measure => simp [intOf]; omega
    · have hd := guess_done hb0 HGE.out (Nat.le_of_not_lt hgt)
      have HD := Lib.hid hd
      rcases ordI_cases ((bv * g : Nat) : Int) ((val lp : Nat) : Int) with ⟨_, e⟩ | ⟨h', e⟩ | ⟨_, e⟩
      · rw [e]
        clear hgt hd e
        go_wp2
        go_ret
        exact ⟨by rw [← HD.out]; rfl, HB3.out⟩
      · exact absurd h' (by omega)
      · rw [e]
        clear hgt hd e
        go_wp2
        go_ret
        exact ⟨by rw [← HD.out]; rfl, HB3.out⟩
end Go.Proofs.YtpdkebljacmgfaaDoor
