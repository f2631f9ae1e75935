/- VerChains: a line toolchain more changes nothing of a go.mod. -/
import Derived.Test.YtnghlhkgeahfmaaDoorVer14
namespace Go.Proofs.YtnghlhkgeahfmaaDoor
open Go.RowKit
set_option linter.unusedVariables false

theorem conv_text (w : World) (s : ByteArray) : ∃ w' cap, (convert 9 31 (.string s)).run Tryd.prog w = .ok (.slice (some ⟨w.heap.size, 0, none⟩) s.size cap) w' ∧ s.size ≤ cap ∧ Text w' (some ⟨w.heap.size, 0, none⟩) s ∧ Below w.heap.size w w' := by
  refine ⟨_, _, Lib.run_convert_string_bytes (P := Tryd.prog) w 9 31 5 s Tryd.underlying9 Tryd.underlying31 Tryd.underlying5, grownCap_ge _ _ _ _, .inr ⟨_, _, rfl, ?_, ?_⟩, ?_⟩
  · rw [Lib.bytesWorld_size]; omega
  · intro i hi
    rw [Nat.zero_add, Lib.bytesWorld_cell w _ s i hi]
    simp [List.getD, hi]
    rfl
  · exact ⟨rfl, rfl, rfl, by rw [Lib.bytesWorld_size]; omega, fun k hk => Lib.bytesWorld_at_old w _ s k hk⟩

/-- What Read tells of what is not too long. -/
def modE : Option (List UInt8 × Nat) → Value
  | some (p, m) => modV p m
  | none => modV [] 0
def errE : Option (List UInt8 × Nat) → Int
  | some _ => 0
  | none => 7
theorem readV_short (s : ByteArray) (h : s.size ≤ 65536) : readV s = .tuple #[modE (readL (ls s)), .int .i64 (errE (readL (ls s)))] := by
  unfold readV
  rw [if_neg (by omega)]
  cases readL (ls s) <;> rfl

set_option maxRecDepth 100000 in
theorem chains_walk (a : Option Addr) (cap : Nat) (s : ByteArray) (n : Int) (w : World) (hT : Text w a s) (hc : s.size ≤ cap) (hn : (Lit.int .u8 n).wf = true) (hm : MaxLen w) : Calls Tryd.prog 9 #[.slice a s.size cap, .int .u8 n] w fun e w' => e = .returned (.bool true) ∧ Below w.heap.size w w' := by
  have hn := bounds_u8 hn
  by_cases h1 : 500 < s.size
  · have g1 : decide ((500 : Int) < (s.size : Int)) = true := by simp; omega
    clear h1 hm hT hc hn
    go_enter Tryd.func9, Tryd.ntmps9
    go_wp2
    go_ret
    exact ⟨rfl, Below.refl _ _⟩
  have g1 : decide ((500 : Int) < (s.size : Int)) = false := by simp; omega
  have c1 := read_any s a cap w hT (by omega) hm
  rw [readV_short s (by omega)] at c1
  have HM := Lib.hid hm
  have HT := Lib.hid hT
  have HS := Lib.hid h1
  clear hm hT hc h1
  obtain ⟨p, m, er, hme, her, her2⟩ : ∃ p m er, modE (readL (ls s)) = modV p m ∧ errE (readL (ls s)) = er ∧ (er = 0 ∨ er = 7) := by
    cases readL (ls s) with
    | none => exact ⟨[], 0, 7, rfl, rfl, .inr rfl⟩
    | some x => exact ⟨x.1, x.2, 0, rfl, rfl, .inl rfl⟩
  obtain ⟨d, hd, hdn⟩ : ∃ d : Nat, d < 10 ∧ n % 10 = (d : Int) := ⟨(n % 10).toNat, by omega, by omega⟩
  obtain ⟨x, hx⟩ : ∃ x, x = UInt8.ofNat (48 + d) := ⟨_, rfl⟩
  have hxv : (48 : Int) + n % 10 = ((x.toNat : Nat) : Int) := by
    rw [hdn, hx, UInt8.toNat_ofNat']
    rw [Nat.mod_eq_of_lt (show 48 + d < 2 ^ 8 by omega)]
    omega
  have HXV := Lib.hid hxv
  rw [hme, her] at c1
  unfold modV at c1
  have hs5 : s.size ≤ 500 := by have := HS.out; omega
  -- the second text
  obtain ⟨u, hu⟩ : ∃ u : ByteArray, s ++ ⟨#[10, 116, 111, 111, 108, 99, 104, 97, 105, 110, 32]⟩ ++ (⟨#[103, 111, 49, 46]⟩ ++ ⟨#[x]⟩) = u := ⟨_, rfl⟩
  have hul : ls u = ls s ++ 10 :: chainL d := by
    rw [← hu, ls_app, ls_app, ls_app, hx, List.append_assoc]; rfl
  have hus : u.size ≤ 600 := by rw [← hu, size_app, size_app, size_app]; show s.size + 11 + (4 + 1) ≤ _; omega
  have c2 := fun a cap w hT hm => read_any u a cap w hT (by omega) hm
  rw [readV_short u (by omega), hul, chains_same _ _ hd, hme, her] at c2
  unfold modV at c2
  obtain ⟨v, hv⟩ : ∃ v : ByteArray, s ++ ⟨#[10, 116, 111, 111, 108, 99, 104, 97, 105, 110]⟩ = v := ⟨_, rfl⟩
  have hvl : ls v = ls s ++ 10 :: chainW := by rw [← hv, ls_app]; rfl
  have hvs : v.size ≤ 600 := by rw [← hv, size_app]; show s.size + 10 ≤ _; omega
  have c3 := fun a cap w hT hm => read_any v a cap w hT (by omega) hm
  rw [readV_short v (by omega), hvl, chain_alone] at c3
  unfold modE errE modV at c3
  have K1 := fun w => run_string_add_sum (P := Tryd.prog) w ⟨#[103, 111, 49, 46]⟩ ⟨#[x]⟩ (by show 4 + 1 ≤ _; omega)
  have K2 := fun w => run_string_add_sum (P := Tryd.prog) w s ⟨#[10, 116, 111, 111, 108, 99, 104, 97, 105, 110, 32]⟩ (by show s.size + 11 ≤ _; omega)
  have K3 := fun w => run_string_add_sum (P := Tryd.prog) w (s ++ ⟨#[10, 116, 111, 111, 108, 99, 104, 97, 105, 110, 32]⟩) (⟨#[103, 111, 49, 46]⟩ ++ ⟨#[x]⟩) (by rw [size_app, size_app]; show s.size + 11 + (4 + 1) ≤ _; omega)
  have K4 := fun w => run_string_add_sum (P := Tryd.prog) w s ⟨#[10, 116, 111, 111, 108, 99, 104, 97, 105, 110]⟩ (by show s.size + 10 ≤ _; omega)
  rw [hu] at K3
  rw [hv] at K4
  clear hme her hs5 hu hul hus hv hvl hvs hx hxv hd hdn
  have hex : ((er : Int) == 0) = true ∨ (er == 0) = false := by cases (er == 0) <;> simp
  clear her2 hex
  go_enter Tryd.func9, Tryd.ntmps9
  go_wp2_with ((with_reducible refine c1.mono ?_); rintro e w1 ⟨rfl, hb⟩; have HB1 := Lib.hid hb; clear hb)
  clear c1
  have hT1 := text_fresh (w1.alloc (.cells #[.string ⟨p.toArray⟩, .int .i64 (m : Nat)] 33)) [x] #[.int .u8 (48 + n % 10)] 5 (0, 0) (by rw [HXV.out]; rfl)
  rw [World.size_alloc] at hT1
  have hcv := hT1.conv 1
  rw [show (⟨[x].toArray⟩ : ByteArray).size = 1 from rfl] at hcv
  rw [hcv]
  simp only [Result.andThen]
  rw [Oper.upon_value]
  have H5 := heap_alloc_new w1 (.cells #[.string ⟨p.toArray⟩, .int .i64 (m : Nat)] 33)
  have H5' := at_old _ (.cells #[.int .u8 (48 + n % 10)] 5) _ _ H5
  have HB2 := Lib.hid ((HB1.out.alloc HB1.out.size (.cells #[.string ⟨p.toArray⟩, .int .i64 (m : Nat)] 33)).alloc (by have := HB1.out.size; simp; omega) (.cells #[.int .u8 (48 + n % 10)] 5))
  obtain ⟨b5, hb5⟩ : ∃ b5, b5 = w1.heap.size := ⟨_, rfl⟩
  rw [← hb5] at H5' ⊢
  have H5h := Lib.hid H5'
  clear hcv hT1 H5 H5' hb5
  generalize (w1.alloc (.cells #[.string ⟨p.toArray⟩, .int .i64 (m : Nat)] 33)).alloc (.cells #[.int .u8 (48 + n % 10)] 5) = W2 at *
  have hcv := (HT.out.below HB2.out).conv cap
  go_wp2_with fail
  clear hcv
  obtain ⟨W3, cap3, r3, _, hT3, hb3⟩ := conv_text W2 u
  rw [r3]
  simp only [Result.andThen]
  rw [Oper.upon_value]
  have HB3 := Lib.hid (HB2.out.trans (hb3.mono HB2.out.size))
  have H53 : Hid (W3.heap[b5]? = _) := (hb3.block _ (lt_of_block H5h.out)).trans H5h.out
  have c2' := c2 _ cap3 W3 hT3 (HM.out.below HB3.out)
  clear c2 r3 hT3 hb3
  go_wp2_with ((with_reducible refine c2'.mono ?_); rintro e w4 ⟨rfl, hb⟩; have HB4 := Lib.hid hb; clear hb)
  clear c2'
  have HB4' := Lib.hid (HB3.out.trans (HB4.out.mono HB3.out.size))
  have H8 := Lib.hid (heap_alloc_new w4 (.cells #[.string ⟨p.toArray⟩, .int .i64 (m : Nat)] 33))
  have H54 : Hid ((w4.alloc (.cells #[.string ⟨p.toArray⟩, .int .i64 (m : Nat)] 33)).heap[b5]? = _) := at_old _ _ _ _ ((HB4.out.block _ (lt_of_block H53.out)).trans H53.out)
  have HB5 := Lib.hid (HB4'.out.alloc HB4'.out.size (.cells #[.string ⟨p.toArray⟩, .int .i64 (m : Nat)] 33))
  obtain ⟨b8, hb8⟩ : ∃ b8, b8 = w4.heap.size := ⟨_, rfl⟩
  rw [← hb8] at H8 ⊢
  clear hb8
  generalize w4.alloc (.cells #[.string ⟨p.toArray⟩, .int .i64 (m : Nat)] 33) = W5 at *
  rw [(HT.out.below HB5.out).conv cap]
  simp only [Result.andThen]
  rw [Oper.upon_value]
  go_wp2_with fail
  obtain ⟨W6, cap6, r6, _, hT6, hb6⟩ := conv_text W5 v
  rw [r6]
  simp only [Result.andThen]
  rw [Oper.upon_value]
  have HB6 := Lib.hid (HB5.out.trans (hb6.mono HB5.out.size))
  have H56 : Hid (W6.heap[b5]? = _) := (hb6.block _ (lt_of_block H54.out)).trans H54.out
  have H86 : Hid (W6.heap[b8]? = _) := (hb6.block _ (lt_of_block H8.out)).trans H8.out
  have c3' := c3 _ cap6 W6 hT6 (HM.out.below HB6.out)
  clear c3 r6 hT6 hb6
  go_wp2_with (first
    | ((with_reducible refine c3'.mono ?_); rintro e w7 ⟨rfl, hb⟩; have HB7 := Lib.hid (HB6.out.trans (hb.mono HB6.out.size)); have H57 := (hb.block _ (lt_of_block H56.out)).trans H56.out; have H87 := (hb.block _ (lt_of_block H86.out)).trans H86.out; obtain ⟨x0, x1, _, _⟩ := two_cells (at_old _ (.cells #[.string ⟨#[]⟩, .int .i64 0] 33) _ _ H57); obtain ⟨y0, y1, _, _⟩ := two_cells (at_old _ (.cells #[.string ⟨#[]⟩, .int .i64 0] 33) _ _ H87); have HMA := HM.out.below (HB7.out.alloc HB7.out.size (.cells #[.string ⟨#[]⟩, .int .i64 0] 33)); have HMAh := Lib.hid HMA; clear hb H57 H87 HMA)
    | ((with_reducible refine (awake_any _ HMAh.out).mono ?_); rintro e w9 ⟨rfl, hb⟩; have HB9 := Lib.hid hb; clear hb))
  go_ret
  have hb7 := HB7.out.alloc HB7.out.size (.cells #[.string ⟨#[]⟩, .int .i64 0] 33)
  exact ⟨rfl, hb7.trans (HB9.out.mono hb7.size)⟩
end Go.Proofs.YtnghlhkgeahfmaaDoor
