/- The document's scanner: ends, sign. -/
import Derived.Test.YthpengbglbgidaaDoorTok36
namespace Go.Proofs.YthpengbglbgidaaDoor
open Go.RowKit Go.Joins
set_option linter.unusedVariables false

def endsR (l : List Tk) : Bool := match l.getLast? with
  | some t => endsB t
  | none => false
theorem endL_ends (l : List Tk) (p : Nat) : endL l p = if endsR l then l ++ [⟨6, nlT, p⟩] else l := by
  unfold endL endsR
  cases l.getLast? with
  | none => simp
  | some t => rfl

structure Fine (t : Tk) : Prop where
  lo : 1 ≤ t.kind
  hi : t.kind ≤ 6
  word : t.kind = 2 ∨ t.kind = 3 → isLet (bt t.text 0) = true
  sign : t.kind = 6 → isLet (bt t.text 0) = false

def enders4 : List (List UInt8) := [[98, 114, 101, 97, 107], [99, 111, 110, 116, 105, 110, 117, 101], [114, 101, 116, 117, 114, 110], [102, 97, 108, 108, 116, 104, 114, 111, 117, 103, 104]]
def enders5 : List (List UInt8) := [[43, 43], [45, 45], [41], [93], [125]]
theorem enders_two (l : List UInt8) : enders.contains l = (among enders4 l || among enders5 l) := by
  unfold among
  rw [show enders = enders4 ++ enders5 by rfl]
  simp [List.contains_eq_mem, List.mem_append]
theorem ends_word {t : Tk} (h : Fine t) (hk : t.kind = 2 ∨ t.kind = 3) : endsB t = among enders4 t.text.toList := by
  have h1 := h.word hk
  have h5 : among enders5 t.text.toList = false := by
    cases e : among enders5 t.text.toList
    · rfl
    · have := (list_head enders5 (fun c => !isLet c) (by decide) t.text e).2
      rw [h1] at this
      cases this
  have hk' : kinds145 t.kind = false := by rcases hk with h | h <;> rw [h] <;> rfl
  unfold endsB
  rw [hk', enders_two, h5]
  simp
theorem ends_sign {t : Tk} (h : Fine t) (hk : t.kind = 6) : endsB t = among enders5 t.text.toList := by
  have h1 := h.sign hk
  have h4 : among enders4 t.text.toList = false := by
    cases e : among enders4 t.text.toList
    · rfl
    · have := (list_head enders4 isLet (by decide) t.text e).2
      rw [h1] at this
      cases this
  have hk' : kinds145 t.kind = false := by rw [hk]; rfl
  unfold endsB
  rw [hk', enders_two, h4]
  simp
theorem ends_145 {t : Tk} (hk : t.kind = 1 ∨ t.kind = 4 ∨ t.kind = 5) : endsB t = true := by
  unfold endsB
  rcases hk with h | h | h <;> rw [h] <;> rfl

theorem arr4 : arrOf enders4 = #[.string ⟨#[98, 114, 101, 97, 107]⟩, .string ⟨#[99, 111, 110, 116, 105, 110, 117, 101]⟩, .string ⟨#[114, 101, 116, 117, 114, 110]⟩, .string ⟨#[102, 97, 108, 108, 116, 104, 114, 111, 117, 103, 104]⟩] := by kernel_rfl
theorem arr5 : arrOf enders5 = #[.string ⟨#[43, 43]⟩, .string ⟨#[45, 45]⟩, .string ⟨#[41]⟩, .string ⟨#[93]⟩, .string ⟨#[125]⟩] := by kernel_rfl

set_option maxHeartbeats 1000000 in
theorem refEnds_any (l : List Tk) (a : Option Addr) (cap : Nat) (w : World) (hl : l.length ≤ 1000000) (ht : TokAt w a l) (hf : ∀ t ∈ l, Fine t) :
    Calls Tryd.prog 12 #[.slice a l.length cap] w fun e w' => e = .returned (.bool (endsR l)) ∧ Below w.heap.size w w' := by
  by_cases h0 : l.length = 0
  · have HE : Hid (endsR l = false) := by show _ = _; rw [List.length_eq_zero_iff.1 h0]; rfl
    rw [h0]
    clear h0 hl ht hf
    go_enter Tryd.func12, Tryd.ntmps12
    go_wp2
    go_ret
    rw [HE.out]
    exact ⟨rfl, Below.refl _ w⟩
  obtain ⟨m, hm⟩ : ∃ m, l.length = m + 1 := ⟨l.length - 1, by omega⟩
  have hmem : l[m]? = some (l[m]'(by omega)) := List.getElem?_eq_getElem _
  have hF := hf _ (List.getElem_mem (show m < l.length by omega))
  have HL : Hid (endsR l = endsB (l[m]'(by omega))) := by
    show _ = _
    unfold endsR
    rw [List.getLast?_eq_getElem?, show l.length - 1 = m by omega, hmem]
  generalize l[m]'(by omega) = t at *
  obtain ⟨g, rfl, hg, d0, d1, d2⟩ := ht.at hmem
  rw [hm]
  rw [hm] at hl
  have HF := Lib.hid hF
  have lo := hF.lo
  have hi := hF.hi
  clear ht hf hmem hF hm h0
  obtain ⟨kind, text, at_⟩ := t
  dsimp only at *
  have gm : decide (m < m + 1) = true := decide_eq_true (by omega)
  have g0 : (((m + 1 : Nat) : Int) == 0) = false := beq_eq_false_iff_ne.2 (by omega)
  have hs1 : (((m + 1 : Nat) : Int)) - 1 = (m : Int) := by omega
  by_cases h145 : kind = 1 ∨ kind = 4 ∨ kind = 5
  · have HE : Hid (endsR l = true) := by show _ = _; rw [HL.out]; exact ends_145 h145
    rcases h145 with rfl | rfl | rfl
    all_goals
      go_enter Tryd.func12, Tryd.ntmps12
      go_wp2
      go_ret
      rw [HE.out]
      exact ⟨rfl, (Below.refl _ w).alloc (Nat.le_refl _) _⟩
  by_cases h23 : kind = 2 ∨ kind = 3
  · have HE : Hid (endsR l = among enders4 text.toList) := by show _ = _; rw [HL.out]; exact ends_word HF.out h23
    have j := in_new text enders4 (among enders4 text.toList) (w.alloc (.cells #[.int .i64 kind, .string text, .int .i64 at_] 42)) (by decide) rfl
    rw [arr4, show enders4.length = 4 from rfl, World.size_alloc] at j
    have J := Lib.hid j
    clear j
    rcases h23 with rfl | rfl
    all_goals
      go_enter Tryd.func12, Tryd.ntmps12
      go_wp2_with fail
      refine J.out.mono ?_
      rintro e w1 ⟨rfl, rfl⟩
      go_wp2
      go_ret
      rw [HE.out]
      exact ⟨rfl, ((Below.refl _ w).alloc (Nat.le_refl _) _).alloc (by simp) _⟩
  · obtain rfl : kind = 6 := by omega
    have HE : Hid (endsR l = among enders5 text.toList) := by show _ = _; rw [HL.out]; exact ends_sign HF.out rfl
    have j := in_new text enders5 (among enders5 text.toList) (w.alloc (.cells #[.int .i64 (6 : Nat), .string text, .int .i64 at_] 42)) (by decide) rfl
    rw [arr5, show enders5.length = 5 from rfl, World.size_alloc] at j
    have J := Lib.hid j
    clear j
    go_enter Tryd.func12, Tryd.ntmps12
    go_wp2_with fail
    refine J.out.mono ?_
    rintro e w1 ⟨rfl, rfl⟩
    go_wp2
    go_ret
    rw [HE.out]
    exact ⟨rfl, ((Below.refl _ w).alloc (Nat.le_refl _) _).alloc (by simp) _⟩

/-! ### sign -/
def arr_of3 : Array Value := arrOf signs3
def arr_of2 : Array Value := arrOf signs2
def arr_of1 : Array Value := arrOf signs1
/-- The three rows of signs are laid. -/
def signW (w : World) : World := ((w.alloc (.cells (arrOf signs3) 9)).alloc (.cells (arrOf signs2) 9)).alloc (.cells (arrOf signs1) 9)
theorem signW_below (w : World) : Below w.heap.size w (signW w) := (((Below.refl _ w).alloc (Nat.le_refl _) _).alloc (by simp) _).alloc (by simp; omega) _
theorem signW_at (w : World) : (signW w).heap[w.heap.size]? = some (.cells (arrOf signs3) 9 (0, 0)) ∧ (signW w).heap[w.heap.size + 1]? = some (.cells (arrOf signs2) 9 (0, 0)) ∧ (signW w).heap[w.heap.size + 1 + 1]? = some (.cells (arrOf signs1) 9 (0, 0)) :=
  ⟨three.1, three.2.1, three.2.2.1⟩
theorem signW_in (s : ByteArray) (ws : List (List UInt8)) (g : Nat) (w : World) (hg : (signW w).heap[g]? = some (.cells (arrOf ws) 9 (0, 0))) (hl : ws.length < 1000) :
    Calls Tryd.prog 23 #[.string s, .slice (some ⟨g, 0, none⟩) ws.length ws.length] (signW w) fun e w' => e = .returned (.bool (among ws s.toList)) ∧ signW w = w' :=
  in_any s ws g ws.length _ hl (Nat.le_refl _) (fun i hi => by
    simp only [World.cell?, hg]
    simp [arrOf, hi])
theorem signs_arr3 : arrOf signs3 = #[.string ⟨#[60, 60, 61]⟩, .string ⟨#[62, 62, 61]⟩, .string ⟨#[38, 94, 61]⟩, .string ⟨#[46, 46, 46]⟩] := by kernel_rfl
theorem signs_arr2 : arrOf signs2 = #[.string ⟨#[38, 38]⟩, .string ⟨#[124, 124]⟩, .string ⟨#[61, 61]⟩, .string ⟨#[33, 61]⟩, .string ⟨#[60, 61]⟩, .string ⟨#[62, 61]⟩, .string ⟨#[58, 61]⟩, .string ⟨#[43, 43]⟩, .string ⟨#[45, 45]⟩, .string ⟨#[43, 61]⟩, .string ⟨#[45, 61]⟩, .string ⟨#[42, 61]⟩, .string ⟨#[47, 61]⟩, .string ⟨#[37, 61]⟩, .string ⟨#[38, 61]⟩, .string ⟨#[124, 61]⟩, .string ⟨#[94, 61]⟩, .string ⟨#[60, 60]⟩, .string ⟨#[62, 62]⟩, .string ⟨#[38, 94]⟩, .string ⟨#[60, 45]⟩] := by kernel_rfl
theorem signs_arr1 : arrOf signs1 = #[.string ⟨#[43]⟩, .string ⟨#[45]⟩, .string ⟨#[42]⟩, .string ⟨#[47]⟩, .string ⟨#[37]⟩, .string ⟨#[38]⟩, .string ⟨#[124]⟩, .string ⟨#[94]⟩, .string ⟨#[60]⟩, .string ⟨#[62]⟩, .string ⟨#[61]⟩, .string ⟨#[33]⟩, .string ⟨#[40]⟩, .string ⟨#[41]⟩, .string ⟨#[91]⟩, .string ⟨#[93]⟩, .string ⟨#[123]⟩, .string ⟨#[125]⟩, .string ⟨#[44]⟩, .string ⟨#[59]⟩, .string ⟨#[46]⟩, .string ⟨#[58]⟩, .string ⟨#[126]⟩] := by kernel_rfl

/-- The n bytes from p on as a text. -/
theorem conv_sub (s : ByteArray) (b o p n c : Nat) (w : World) (hc : ∀ k, k < s.size → w.cell? ⟨b, o + k, none⟩ = some (.int .u8 (bt s k))) (hp : p + n ≤ s.size) :
    (convert 22 9 (.slice (some ⟨b, o + p, none⟩) n c)).run Tryd.prog w = .ok (.string (s.extract p (p + n))) w :=
  Lib.run_convert_window (P := Tryd.prog) w 22 5 9 Tryd.underlying22 Tryd.underlying5 Tryd.underlying9 b o s (fun i hi => by rw [hc i hi, bt_eq s i hi]) p n c hp

theorem sign_pre (s : ByteArray) (p k : Nat) (h : p + k ≤ s.size) : pre (s.extract p s.size) k = s.extract p (p + k) := by
  unfold pre
  rw [ext_size _ _ _ (Nat.le_refl _), Nat.min_eq_left (by omega), ext_ext _ _ _ h]
theorem sign_short (s : ByteArray) (p k : Nat) (ws : List (List UInt8)) (hk : ws.all (fun x => x.length == k) = true) (hp : p < s.size) (h : ¬ p + k ≤ s.size) : ws.contains (pre (s.extract p s.size) k).toList = false := by
  cases e : ws.contains (pre (s.extract p s.size) k).toList
  · rfl
  · have := contains_len e hk
    rw [list_size, pre_size, ext_size _ _ _ (Nat.le_refl _)] at this
    omega

set_option maxHeartbeats 2000000 in
set_option maxRecDepth 100000 in
theorem refSign_any (s : ByteArray) (a : Option Addr) (cap p : Nat) (w : World) (hs : s.size ≤ 65536) (hp : p < s.size) (hcap : s.size ≤ cap) (ht : Text w a s) :
    Calls Tryd.prog 18 #[.slice a s.size cap, .int .i64 p] w fun e w' => e = .returned (.int .i64 (signN (s.extract p s.size))) ∧ Below w.heap.size w w' := by
  obtain ⟨b, o, rfl, hlt, hc⟩ := ht.bytes (by omega)
  have HC : Hid (Cells w b o s) := ⟨hlt, hc⟩
  clear hc ht
  have HS : Hid (signN (s.extract p s.size) = if signs3.contains (pre (s.extract p s.size) 3).toList then 3 else if signs2.contains (pre (s.extract p s.size) 2).toList then 2 else if signs1.contains (pre (s.extract p s.size) 1).toList then 1 else 0) := rfl
  have hcs := HC.out.below (signW_below w)
  have HCS := Lib.hid hcs
  clear hcs
  have n1 := conv_sub s b o p 1 (cap - p) (signW w) HCS.out.2 (by omega)
  have j1 := signW_in (s.extract p (p + 1)) signs1 (w.heap.size + 1 + 1) w (signW_at w).2.2 (by decide)
  have q1 := sign_pre s p 1 (by omega)
  rw [q1] at HS
  have HB := Lib.hid (signW_below w)
  unfold signW at n1 j1 HB
  rw [signs_arr3, signs_arr2, signs_arr1] at n1 j1 HB
  rw [show signs1.length = 23 from rfl] at j1
  have J1 := Lib.hid j1
  clear j1 q1
  by_cases h2 : p + 2 ≤ s.size
  · have n2 := conv_sub s b o p 2 (cap - p) (signW w) HCS.out.2 h2
    have j2 := signW_in (s.extract p (p + 2)) signs2 (w.heap.size + 1) w (signW_at w).2.1 (by decide)
    have q2 := sign_pre s p 2 h2
    rw [q2] at HS
    unfold signW at n2 j2
    rw [signs_arr3, signs_arr2, signs_arr1] at n2 j2
    rw [show signs2.length = 21 from rfl] at j2
    have J2 := Lib.hid j2
    clear j2 q2
    by_cases h3 : p + 3 ≤ s.size
    · have n3 := conv_sub s b o p 3 (cap - p) (signW w) HCS.out.2 h3
      have j3 := signW_in (s.extract p (p + 3)) signs3 w.heap.size w (signW_at w).1 (by decide)
      have q3 := sign_pre s p 3 h3
      rw [q3] at HS
      unfold signW at n3 j3
      rw [signs_arr3, signs_arr2, signs_arr1] at n3 j3
      rw [show signs3.length = 4 from rfl] at j3
      have J3 := Lib.hid j3
      clear j3 q3
      cases hin3 : among signs3 (s.extract p (p + 3)).toList
      · have I3 := Lib.hid hin3
        clear hin3
        cases hin2 : among signs2 (s.extract p (p + 2)).toList
        · have I2 := Lib.hid hin2
          clear hin2
          cases hin : among signs1 (s.extract p (p + 1)).toList
          · have I1 := Lib.hid hin
            have HE : Hid (signN (s.extract p s.size) = 0) := by show _ = _; rw [HS.out, show signs3.contains (s.extract p (p + 3)).toList = false from I3.out, if_neg (by simp), show signs2.contains (s.extract p (p + 2)).toList = false from I2.out, if_neg (by simp), show signs1.contains (s.extract p (p + 1)).toList = false from hin]; rfl
            clear hin HS
            go_enter Tryd.func18, Tryd.ntmps18
            go_wp2_with fail
            refine J3.out.mono ?_
            rintro e w1 ⟨rfl, rfl⟩
            rw [I3.out]
            go_wp2_with fail
            refine J2.out.mono ?_
            rintro e w1 ⟨rfl, rfl⟩
            rw [I2.out]
            go_wp2_with fail
            refine J1.out.mono ?_
            rintro e w1 ⟨rfl, rfl⟩
            rw [I1.out]
            go_wp2
            go_ret
            exact ⟨by rw [HE.out]; rfl, HB.out⟩
          · have I1 := Lib.hid hin
            have HE : Hid (signN (s.extract p s.size) = 1) := by show _ = _; rw [HS.out, show signs3.contains (s.extract p (p + 3)).toList = false from I3.out, if_neg (by simp), show signs2.contains (s.extract p (p + 2)).toList = false from I2.out, if_neg (by simp), show signs1.contains (s.extract p (p + 1)).toList = true from hin]; rfl
            clear hin HS
            go_enter Tryd.func18, Tryd.ntmps18
            go_wp2_with fail
            refine J3.out.mono ?_
            rintro e w1 ⟨rfl, rfl⟩
            rw [I3.out]
            go_wp2_with fail
            refine J2.out.mono ?_
            rintro e w1 ⟨rfl, rfl⟩
            rw [I2.out]
            go_wp2_with fail
            refine J1.out.mono ?_
            rintro e w1 ⟨rfl, rfl⟩
            rw [I1.out]
            go_wp2
            go_ret
            exact ⟨by rw [HE.out]; rfl, HB.out⟩
        · have I2 := Lib.hid hin2
          have HE : Hid (signN (s.extract p s.size) = 2) := by show _ = _; rw [HS.out, show signs3.contains (s.extract p (p + 3)).toList = false from I3.out, if_neg (by simp), show signs2.contains (s.extract p (p + 2)).toList = true from hin2]; rfl
          clear hin2 HS
          go_enter Tryd.func18, Tryd.ntmps18
          go_wp2_with fail
          refine J3.out.mono ?_
          rintro e w1 ⟨rfl, rfl⟩
          rw [I3.out]
          go_wp2_with fail
          refine J2.out.mono ?_
          rintro e w1 ⟨rfl, rfl⟩
          rw [I2.out]
          go_wp2
          go_ret
          exact ⟨by rw [HE.out]; rfl, HB.out⟩
      · have I3 := Lib.hid hin3
        have HE : Hid (signN (s.extract p s.size) = 3) := by show _ = _; rw [HS.out, show signs3.contains (s.extract p (p + 3)).toList = true from hin3]; rfl
        clear hin3 HS
        go_enter Tryd.func18, Tryd.ntmps18
        go_wp2_with fail
        refine J3.out.mono ?_
        rintro e w1 ⟨rfl, rfl⟩
        rw [I3.out]
        go_wp2
        go_ret
        exact ⟨by rw [HE.out]; rfl, HB.out⟩
    · have x3 := sign_short s p 3 signs3 (by decide) hp h3
      rw [x3, if_neg (by simp)] at HS
      clear x3
      cases hin2 : among signs2 (s.extract p (p + 2)).toList
      · have I2 := Lib.hid hin2
        clear hin2
        cases hin : among signs1 (s.extract p (p + 1)).toList
        · have I1 := Lib.hid hin
          have HE : Hid (signN (s.extract p s.size) = 0) := by show _ = _; rw [HS.out, show signs2.contains (s.extract p (p + 2)).toList = false from I2.out, if_neg (by simp), show signs1.contains (s.extract p (p + 1)).toList = false from hin]; rfl
          clear hin HS
          go_enter Tryd.func18, Tryd.ntmps18
          go_wp2_with fail
          refine J2.out.mono ?_
          rintro e w1 ⟨rfl, rfl⟩
          rw [I2.out]
          go_wp2_with fail
          refine J1.out.mono ?_
          rintro e w1 ⟨rfl, rfl⟩
          rw [I1.out]
          go_wp2
          go_ret
          exact ⟨by rw [HE.out]; rfl, HB.out⟩
        · have I1 := Lib.hid hin
          have HE : Hid (signN (s.extract p s.size) = 1) := by show _ = _; rw [HS.out, show signs2.contains (s.extract p (p + 2)).toList = false from I2.out, if_neg (by simp), show signs1.contains (s.extract p (p + 1)).toList = true from hin]; rfl
          clear hin HS
          go_enter Tryd.func18, Tryd.ntmps18
          go_wp2_with fail
          refine J2.out.mono ?_
          rintro e w1 ⟨rfl, rfl⟩
          rw [I2.out]
          go_wp2_with fail
          refine J1.out.mono ?_
          rintro e w1 ⟨rfl, rfl⟩
          rw [I1.out]
          go_wp2
          go_ret
          exact ⟨by rw [HE.out]; rfl, HB.out⟩
      · have I2 := Lib.hid hin2
        have HE : Hid (signN (s.extract p s.size) = 2) := by show _ = _; rw [HS.out, show signs2.contains (s.extract p (p + 2)).toList = true from hin2]; rfl
        clear hin2 HS
        go_enter Tryd.func18, Tryd.ntmps18
        go_wp2_with fail
        refine J2.out.mono ?_
        rintro e w1 ⟨rfl, rfl⟩
        rw [I2.out]
        go_wp2
        go_ret
        exact ⟨by rw [HE.out]; rfl, HB.out⟩
  · have x3 := sign_short s p 3 signs3 (by decide) hp (by omega)
    have x2 := sign_short s p 2 signs2 (by decide) hp h2
    rw [x3, x2, if_neg (by simp), if_neg (by simp)] at HS
    clear x3 x2
    cases hin : among signs1 (s.extract p (p + 1)).toList
    · have I1 := Lib.hid hin
      have HE : Hid (signN (s.extract p s.size) = 0) := by show _ = _; rw [HS.out, show signs1.contains (s.extract p (p + 1)).toList = false from hin]; rfl
      clear hin HS
      go_enter Tryd.func18, Tryd.ntmps18
      go_wp2_with fail
      refine J1.out.mono ?_
      rintro e w1 ⟨rfl, rfl⟩
      rw [I1.out]
      go_wp2
      go_ret
      exact ⟨by rw [HE.out]; rfl, HB.out⟩
    · have I1 := Lib.hid hin
      have HE : Hid (signN (s.extract p s.size) = 1) := by show _ = _; rw [HS.out, show signs1.contains (s.extract p (p + 1)).toList = true from hin]; rfl
      clear hin HS
      go_enter Tryd.func18, Tryd.ntmps18
      go_wp2_with fail
      refine J1.out.mono ?_
      rintro e w1 ⟨rfl, rfl⟩
      rw [I1.out]
      go_wp2
      go_ret
      exact ⟨by rw [HE.out]; rfl, HB.out⟩
end Go.Proofs.YthpengbglbgidaaDoor
