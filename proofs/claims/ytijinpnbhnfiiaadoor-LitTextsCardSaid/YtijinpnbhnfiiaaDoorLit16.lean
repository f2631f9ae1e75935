/- package lit: text (the rest), Text. -/
import Derived.Test.YtijinpnbhnfiiaaDoorLit15
namespace Go.Proofs.YtijinpnbhnfiiaaDoor
open Go.RowKit
set_option linter.unusedVariables false

set_option maxHeartbeats 2000000 in
set_option maxRecDepth 100000 in
theorem text_parts (s : ByteArray) (w : World) (hT : Tabs w) (hs : s.size ≤ 65536) (n : Nat) (h : s.size = n + 1) (hn : 0 < n) (heq : bt s 0 = bt s n) (hw : wrongR s < 0) (hk : bt s 0 = 34) :
    Calls Tryd.prog 21 #[.string s] w fun e w' => PartsEnds w (textP s) e w' := by
  have HP : Hid (textP s = partsP (s.extract 1 n)) := by show _ = _; unfold textP; rw [show s.size - 1 = n by omega, if_pos ⟨by omega, heq, hw⟩, if_pos hk]
  have h0 : 0 < s.size := by omega
  have hlt : n < s.size := by omega
  have e0 := bt_eq s 0 h0
  have e1 := bt_eq s n hlt
  have H1 : Hid (s.size = n + 1) := h
  have gq : (((s[0].toNat : Nat) : Int) == ((s[n].toNat : Nat) : Int)) = true := by rw [← e0, ← e1]; exact beq_iff_eq.2 (by omega)
  have HEQ := Lib.hid heq
  have g34 : (((s[0].toNat : Nat) : Int) == 34) = true := by rw [← e0]; exact beq_iff_eq.2 (by omega)
  clear h heq hk
  obtain ⟨wc, cap, hcv, hcap, htx, hbc⟩ := conv_text w.drew s
  have hz : w.drew.heap.size = w.heap.size := rfl
  rw [hz] at hcv htx hbc
  have HBC := Lib.hid (((Below.refl w.heap.size w).drew).trans hbc)
  have HW := Lib.hid (wrong_any s _ cap wc (by omega) htx (hT.below HBC.out) hcap)
  have gw : decide (wrongR s < 0) = true := decide_eq_true hw
  clear htx hbc hz hcap
  clear hw
  go_enter Tryd.func21, Tryd.ntmps21
  go_wp2_with fail
  refine wp_region_any (by kernel_rfl) ?_
  change wpAny _ _ _ _ _ _ _ (World.drew _)
  change wpAny _ _ _ _ _ #[false, false, false, false, false, false, false, false, false, false, false, false, false, false, false, false, false, false, false, false] ⟨#[.string s, undef, .string ⟨#[]⟩, undef, undef, undef, undef, undef, undef, undef, undef, undef, undef, undef, undef, undef, undef, undef, undef, undef, undef, undef, undef, undef, undef, undef, undef, undef, undef, undef, undef, undef, undef, undef, undef, undef, undef, undef, undef, undef, undef], []⟩ _
  refine wpAny_take (i := 0) (v := .string s) rfl (by kernel_rfl) (by kernel_rfl) (by kernel_rfl) (fun _ _ _ h => h) (Or.inl ⟨by rfl, ?_⟩) ?_
  · intro w
    go_simp
    try with_reducible rfl
  change wpAny _ _ _ _ _ #[true, false, false, false, false, false, false, false, false, false, false, false, false, false, false, false, false, false, false, false] ⟨#[.string s, undef, .string ⟨#[]⟩, undef, .string s, undef, undef, undef, undef, undef, undef, undef, undef, undef, undef, undef, undef, undef, undef, undef, undef, undef, undef, undef, undef, undef, undef, undef, undef, undef, undef, undef, undef, undef, undef, undef, undef, undef, undef, undef, undef], []⟩ _
  refine wpAny_take (i := 1) (v := .int .i64 s.size) rfl (by kernel_rfl) (by kernel_rfl) (by kernel_rfl) (fun _ _ _ h => h) (Or.inl ⟨by rfl, ?_⟩) ?_
  · intro w
    go_simp
    try with_reducible rfl
  change wpAny _ _ _ _ _ #[true, true, false, false, false, false, false, false, false, false, false, false, false, false, false, false, false, false, false, false] ⟨#[.string s, undef, .string ⟨#[]⟩, undef, .string s, .int .i64 s.size, undef, undef, undef, undef, undef, undef, undef, undef, undef, undef, undef, undef, undef, undef, undef, undef, undef, undef, undef, undef, undef, undef, undef, undef, undef, undef, undef, undef, undef, undef, undef, undef, undef, undef, undef], []⟩ _
  refine wpAny_take (i := 2) (v := .bool true) rfl (by kernel_rfl) (by kernel_rfl) (by kernel_rfl) (fun _ _ _ h => h) (Or.inl ⟨by rfl, ?_⟩) ?_
  · intro w
    go_simp
    have := H1.out; omega
  change wpAny _ _ _ _ _ #[true, true, true, false, false, false, false, false, false, false, false, false, false, false, false, false, false, false, false, false] ⟨#[.string s, undef, .string ⟨#[]⟩, undef, .string s, .int .i64 s.size, .bool true, undef, undef, undef, undef, undef, undef, undef, undef, undef, undef, undef, undef, undef, undef, undef, undef, undef, undef, undef, undef, undef, undef, undef, undef, undef, undef, undef, undef, undef, undef, undef, undef, undef, undef], []⟩ _
  refine wpAny_take (i := 3) (v := .bool true) rfl (by kernel_rfl) (by kernel_rfl) (by kernel_rfl) (fun _ _ _ h => h) (Or.inl ⟨by rfl, ?_⟩) ?_
  · intro w
    go_simp
    try with_reducible rfl
  change wpAny _ _ _ _ _ #[true, true, true, true, false, false, false, false, false, false, false, false, false, false, false, false, false, false, false, false] ⟨#[.string s, undef, .string ⟨#[]⟩, undef, .string s, .int .i64 s.size, .bool true, .bool true, undef, undef, undef, undef, undef, undef, undef, undef, undef, undef, undef, undef, undef, undef, undef, undef, undef, undef, undef, undef, undef, undef, undef, undef, undef, undef, undef, undef, undef, undef, undef, undef, undef], []⟩ _
  refine wpAny_take (i := 4) (v := .string s) rfl (by kernel_rfl) (by kernel_rfl) (by kernel_rfl) (fun _ _ _ h => h) (Or.inl ⟨by rfl, ?_⟩) ?_
  · intro w
    go_simp
    try with_reducible rfl
  change wpAny _ _ _ _ _ #[true, true, true, true, true, false, false, false, false, false, false, false, false, false, false, false, false, false, false, false] ⟨#[.string s, undef, .string ⟨#[]⟩, undef, .string s, .int .i64 s.size, .bool true, .bool true, .string s, undef, undef, undef, undef, undef, undef, undef, undef, undef, undef, undef, undef, undef, undef, undef, undef, undef, undef, undef, undef, undef, undef, undef, undef, undef, undef, undef, undef, undef, undef, undef, undef], []⟩ _
  refine wpAny_take (i := 5) (v := .int .u8 (bt s 0)) rfl (by kernel_rfl) (by kernel_rfl) (by kernel_rfl) (fun _ _ _ h => h) (Or.inl ⟨by rfl, ?_⟩) ?_
  · intro w
    go_simp
    try with_reducible rfl
  change wpAny _ _ _ _ _ #[true, true, true, true, true, true, false, false, false, false, false, false, false, false, false, false, false, false, false, false] ⟨#[.string s, undef, .string ⟨#[]⟩, undef, .string s, .int .i64 s.size, .bool true, .bool true, .string s, .int .u8 (bt s 0), undef, undef, undef, undef, undef, undef, undef, undef, undef, undef, undef, undef, undef, undef, undef, undef, undef, undef, undef, undef, undef, undef, undef, undef, undef, undef, undef, undef, undef, undef, undef], []⟩ _
  refine wpAny_take (i := 6) (v := .string s) rfl (by kernel_rfl) (by kernel_rfl) (by kernel_rfl) (fun _ _ _ h => h) (Or.inl ⟨by rfl, ?_⟩) ?_
  · intro w
    go_simp
    try with_reducible rfl
  change wpAny _ _ _ _ _ #[true, true, true, true, true, true, true, false, false, false, false, false, false, false, false, false, false, false, false, false] ⟨#[.string s, undef, .string ⟨#[]⟩, undef, .string s, .int .i64 s.size, .bool true, .bool true, .string s, .int .u8 (bt s 0), .string s, undef, undef, undef, undef, undef, undef, undef, undef, undef, undef, undef, undef, undef, undef, undef, undef, undef, undef, undef, undef, undef, undef, undef, undef, undef, undef, undef, undef, undef, undef], []⟩ _
  refine wpAny_take (i := 7) (v := .string s) rfl (by kernel_rfl) (by kernel_rfl) (by kernel_rfl) (fun _ _ _ h => h) (Or.inl ⟨by rfl, ?_⟩) ?_
  · intro w
    go_simp
    try with_reducible rfl
  change wpAny _ _ _ _ _ #[true, true, true, true, true, true, true, true, false, false, false, false, false, false, false, false, false, false, false, false] ⟨#[.string s, undef, .string ⟨#[]⟩, undef, .string s, .int .i64 s.size, .bool true, .bool true, .string s, .int .u8 (bt s 0), .string s, .string s, undef, undef, undef, undef, undef, undef, undef, undef, undef, undef, undef, undef, undef, undef, undef, undef, undef, undef, undef, undef, undef, undef, undef, undef, undef, undef, undef, undef, undef], []⟩ _
  refine wpAny_take (i := 8) (v := .int .i64 s.size) rfl (by kernel_rfl) (by kernel_rfl) (by kernel_rfl) (fun _ _ _ h => h) (Or.inl ⟨by rfl, ?_⟩) ?_
  · intro w
    go_simp
    try with_reducible rfl
  change wpAny _ _ _ _ _ #[true, true, true, true, true, true, true, true, true, false, false, false, false, false, false, false, false, false, false, false] ⟨#[.string s, undef, .string ⟨#[]⟩, undef, .string s, .int .i64 s.size, .bool true, .bool true, .string s, .int .u8 (bt s 0), .string s, .string s, .int .i64 s.size, undef, undef, undef, undef, undef, undef, undef, undef, undef, undef, undef, undef, undef, undef, undef, undef, undef, undef, undef, undef, undef, undef, undef, undef, undef, undef, undef, undef], []⟩ _
  refine wpAny_take (i := 9) (v := .int .i64 (n : Int)) rfl (by kernel_rfl) (by kernel_rfl) (by kernel_rfl) (fun _ _ _ h => h) (Or.inl ⟨by rfl, ?_⟩) ?_
  · intro w
    go_simp
    have e := H1.out; rw [show (s.size : Int) - 1 = (n : Int) by omega]; exact IntWalk.i64_in _ (by omega)
  change wpAny _ _ _ _ _ #[true, true, true, true, true, true, true, true, true, true, false, false, false, false, false, false, false, false, false, false] ⟨#[.string s, undef, .string ⟨#[]⟩, undef, .string s, .int .i64 s.size, .bool true, .bool true, .string s, .int .u8 (bt s 0), .string s, .string s, .int .i64 s.size, .int .i64 (n : Int), undef, undef, undef, undef, undef, undef, undef, undef, undef, undef, undef, undef, undef, undef, undef, undef, undef, undef, undef, undef, undef, undef, undef, undef, undef, undef, undef], []⟩ _
  refine wpAny_take (i := 10) (v := .int .u8 (bt s n)) rfl (by kernel_rfl) (by kernel_rfl) (by kernel_rfl) (fun _ _ _ h => h) (Or.inl ⟨by rfl, ?_⟩) ?_
  · intro w
    go_simp
    try with_reducible rfl
  change wpAny _ _ _ _ _ #[true, true, true, true, true, true, true, true, true, true, true, false, false, false, false, false, false, false, false, false] ⟨#[.string s, undef, .string ⟨#[]⟩, undef, .string s, .int .i64 s.size, .bool true, .bool true, .string s, .int .u8 (bt s 0), .string s, .string s, .int .i64 s.size, .int .i64 (n : Int), .int .u8 (bt s n), undef, undef, undef, undef, undef, undef, undef, undef, undef, undef, undef, undef, undef, undef, undef, undef, undef, undef, undef, undef, undef, undef, undef, undef, undef, undef], []⟩ _
  refine wpAny_take (i := 11) (v := .bool true) rfl (by kernel_rfl) (by kernel_rfl) (by kernel_rfl) (fun _ _ _ h => h) (Or.inl ⟨by rfl, ?_⟩) ?_
  · intro w
    go_simp
    try with_reducible rfl
  change wpAny _ _ _ _ _ #[true, true, true, true, true, true, true, true, true, true, true, true, false, false, false, false, false, false, false, false] ⟨#[.string s, undef, .string ⟨#[]⟩, undef, .string s, .int .i64 s.size, .bool true, .bool true, .string s, .int .u8 (bt s 0), .string s, .string s, .int .i64 s.size, .int .i64 (n : Int), .int .u8 (bt s n), .bool true, undef, undef, undef, undef, undef, undef, undef, undef, undef, undef, undef, undef, undef, undef, undef, undef, undef, undef, undef, undef, undef, undef, undef, undef, undef], []⟩ _
  refine wpAny_take (i := 12) (v := .bool true) rfl (by kernel_rfl) (by kernel_rfl) (by kernel_rfl) (fun _ _ _ h => h) (Or.inl ⟨by rfl, ?_⟩) ?_
  · intro w
    go_simp
    try with_reducible rfl
  change wpAny _ _ _ _ _ #[true, true, true, true, true, true, true, true, true, true, true, true, true, false, false, false, false, false, false, false] ⟨#[.string s, undef, .string ⟨#[]⟩, undef, .string s, .int .i64 s.size, .bool true, .bool true, .string s, .int .u8 (bt s 0), .string s, .string s, .int .i64 s.size, .int .i64 (n : Int), .int .u8 (bt s n), .bool true, .bool true, undef, undef, undef, undef, undef, undef, undef, undef, undef, undef, undef, undef, undef, undef, undef, undef, undef, undef, undef, undef, undef, undef, undef, undef], []⟩ _
  refine wpAny_take (i := 13) (v := .bool true) rfl (by kernel_rfl) (by kernel_rfl) (by kernel_rfl) (fun _ _ _ h => h) (Or.inl ⟨by rfl, ?_⟩) ?_
  · intro w
    go_simp
    try with_reducible rfl
  change wpAny _ _ _ _ _ #[true, true, true, true, true, true, true, true, true, true, true, true, true, true, false, false, false, false, false, false] ⟨#[.string s, undef, .string ⟨#[]⟩, undef, .string s, .int .i64 s.size, .bool true, .bool true, .string s, .int .u8 (bt s 0), .string s, .string s, .int .i64 s.size, .int .i64 (n : Int), .int .u8 (bt s n), .bool true, .bool true, .bool true, undef, undef, undef, undef, undef, undef, undef, undef, undef, undef, undef, undef, undef, undef, undef, undef, undef, undef, undef, undef, undef, undef, undef], []⟩ _
  refine wpAny_take (i := 14) (v := .string s) rfl (by kernel_rfl) (by kernel_rfl) (by kernel_rfl) (fun _ _ _ h => h) (Or.inl ⟨by rfl, ?_⟩) ?_
  · intro w
    go_simp
    try with_reducible rfl
  change wpAny _ _ _ _ _ #[true, true, true, true, true, true, true, true, true, true, true, true, true, true, true, false, false, false, false, false] ⟨#[.string s, undef, .string ⟨#[]⟩, undef, .string s, .int .i64 s.size, .bool true, .bool true, .string s, .int .u8 (bt s 0), .string s, .string s, .int .i64 s.size, .int .i64 (n : Int), .int .u8 (bt s n), .bool true, .bool true, .bool true, .string s, undef, undef, undef, undef, undef, undef, undef, undef, undef, undef, undef, undef, undef, undef, undef, undef, undef, undef, undef, undef, undef, undef], []⟩ _
  refine wpAny_ready (rs := [15]) (by kernel_rfl) (by simp) ?_
  refine AllReady.cons rfl (fun K hK => ?_) AllReady.nil
  go_simp
  refine hK _ _ ?_
  clear hK K
  change wpAny _ _ _ _ _ #[true, true, true, true, true, true, true, true, true, true, true, true, true, true, true, true, false, false, false, false] ⟨#[.string s, undef, .string ⟨#[]⟩, undef, .string s, .int .i64 s.size, .bool true, .bool true, .string s, .int .u8 ((s[0].toNat : Nat) : Int), .string s, .string s, .int .i64 s.size, .int .i64 (n : Int), .int .u8 ((s[n].toNat : Nat) : Int), .bool true, .bool true, .bool true, .string s, .slice (some ⟨w.heap.size, 0, none⟩) s.size cap, undef, undef, undef, undef, undef, undef, undef, undef, undef, undef, undef, undef, undef, undef, undef, undef, undef, undef, undef, undef, undef], []⟩ _
  refine wpAny_ready (rs := [16]) (by kernel_rfl) (by simp) ?_
  refine AllReady.cons rfl (fun K hK => ?_) AllReady.nil
  go_simp
  go_at_call 35
  refine HW.out.mono ?_
  rintro e w2 ⟨rfl, hb2⟩
  have HB2 := Lib.hid (HBC.out.trans (hb2.mono HBC.out.size))
  clear hb2
  refine hK _ _ ?_
  clear hK K
  change wpAny _ _ _ _ _ #[true, true, true, true, true, true, true, true, true, true, true, true, true, true, true, true, true, false, false, false] ⟨#[.string s, undef, .string ⟨#[]⟩, undef, .string s, .int .i64 s.size, .bool true, .bool true, .string s, .int .u8 ((s[0].toNat : Nat) : Int), .string s, .string s, .int .i64 s.size, .int .i64 (n : Int), .int .u8 ((s[n].toNat : Nat) : Int), .bool true, .bool true, .bool true, .string s, .slice (some ⟨w.heap.size, 0, none⟩) s.size cap, .int .i64 (wrongR s), undef, undef, undef, undef, undef, undef, undef, undef, undef, undef, undef, undef, undef, undef, undef, undef, undef, undef, undef, undef], []⟩ _
  refine wpAny_take (i := 17) (v := .bool true) rfl (by kernel_rfl) (by kernel_rfl) (by kernel_rfl) (fun _ _ _ h => h) (Or.inl ⟨by rfl, ?_⟩) ?_
  · intro w
    go_simp
    try with_reducible rfl
  change wpAny _ _ _ _ _ #[true, true, true, true, true, true, true, true, true, true, true, true, true, true, true, true, true, true, false, false] ⟨#[.string s, undef, .string ⟨#[]⟩, undef, .string s, .int .i64 s.size, .bool true, .bool true, .string s, .int .u8 ((s[0].toNat : Nat) : Int), .string s, .string s, .int .i64 s.size, .int .i64 (n : Int), .int .u8 ((s[n].toNat : Nat) : Int), .bool true, .bool true, .bool true, .string s, .slice (some ⟨w.heap.size, 0, none⟩) s.size cap, .int .i64 (wrongR s), .bool true, undef, undef, undef, undef, undef, undef, undef, undef, undef, undef, undef, undef, undef, undef, undef, undef, undef, undef, undef], []⟩ _
  refine wpAny_take (i := 18) (v := .bool true) rfl (by kernel_rfl) (by kernel_rfl) (by kernel_rfl) (fun _ _ _ h => h) (Or.inl ⟨by rfl, ?_⟩) ?_
  · intro w
    go_simp
    try with_reducible rfl
  change wpAny _ _ _ _ _ #[true, true, true, true, true, true, true, true, true, true, true, true, true, true, true, true, true, true, true, false] ⟨#[.string s, undef, .string ⟨#[]⟩, undef, .string s, .int .i64 s.size, .bool true, .bool true, .string s, .int .u8 ((s[0].toNat : Nat) : Int), .string s, .string s, .int .i64 s.size, .int .i64 (n : Int), .int .u8 ((s[n].toNat : Nat) : Int), .bool true, .bool true, .bool true, .string s, .slice (some ⟨w.heap.size, 0, none⟩) s.size cap, .int .i64 (wrongR s), .bool true, .bool true, undef, undef, undef, undef, undef, undef, undef, undef, undef, undef, undef, undef, undef, undef, undef, undef, undef, undef], []⟩ _
  refine wpAny_ready (rs := [19]) (by kernel_rfl) (by simp) ?_
  refine AllReady.cons rfl (fun K hK => ?_) AllReady.nil
  go_simp
  go_at_call 31
  refine (must_t _).mono ?_
  rintro e w6 ⟨rfl, rfl⟩
  refine hK _ _ ?_
  clear hK K
  refine wpAny_done (by kernel_rfl) ?_ _
  go_wp2_with fail
  rw [show s.size - 1 = n by have := H1.out; omega]
  refine (parts_any (s.extract 1 n) w2 (hT.below HB2.out) (by rw [ByteArray.size_extract]; omega)).mono ?_
  rintro e w3 ⟨hb3, hE⟩
  have HB3 := Lib.hid (HB2.out.trans (hb3.mono HB2.out.size))
  clear hb3 hcv HBC HW HB2
  generalize partsP (s.extract 1 n) = r at *
  cases r with
  | none =>
    have he : e = .panicked [{ v := .iface 59 (.agg #[]), recovered := false }] := hE
    subst he
    refine ⟨rfl, HB3.out, ?_⟩
    rw [HP.out]
    rfl
  | some r =>
    obtain rfl : e = .returned (.string r) := hE
    go_wp2
    go_ret
    refine ⟨HB3.out, ?_⟩
    rw [HP.out]
    rfl

set_option maxHeartbeats 2000000 in
set_option maxRecDepth 100000 in
theorem text_raw (s : ByteArray) (w : World) (hT : Tabs w) (hs : s.size ≤ 65536) (n : Nat) (h : s.size = n + 1) (hn : 0 < n) (heq : bt s 0 = bt s n) (hw : wrongR s < 0) (hk : bt s 0 = 96) :
    Calls Tryd.prog 21 #[.string s] w fun e w' => PartsEnds w (textP s) e w' := by
  have HP : Hid (textP s = rawP (s.extract 1 n)) := by show _ = _; unfold textP; rw [show s.size - 1 = n by omega, if_pos ⟨by omega, heq, hw⟩, if_neg (by omega), if_pos hk]
  have h0 : 0 < s.size := by omega
  have hlt : n < s.size := by omega
  have e0 := bt_eq s 0 h0
  have e1 := bt_eq s n hlt
  have H1 : Hid (s.size = n + 1) := h
  have gq : (((s[0].toNat : Nat) : Int) == ((s[n].toNat : Nat) : Int)) = true := by rw [← e0, ← e1]; exact beq_iff_eq.2 (by omega)
  have HEQ := Lib.hid heq
  have g34 : (((s[0].toNat : Nat) : Int) == 34) = false := by rw [← e0]; exact beq_eq_false_iff_ne.2 (by omega)
  have g96 : (((s[0].toNat : Nat) : Int) == 96) = true := by rw [← e0]; exact beq_iff_eq.2 (by omega)
  clear h heq hk
  obtain ⟨wc, cap, hcv, hcap, htx, hbc⟩ := conv_text w.drew s
  have hz : w.drew.heap.size = w.heap.size := rfl
  rw [hz] at hcv htx hbc
  have HBC := Lib.hid (((Below.refl w.heap.size w).drew).trans hbc)
  have HW := Lib.hid (wrong_any s _ cap wc (by omega) htx (hT.below HBC.out) hcap)
  have gw : decide (wrongR s < 0) = true := decide_eq_true hw
  clear htx hbc hz hcap
  clear hw
  go_enter Tryd.func21, Tryd.ntmps21
  go_wp2_with fail
  refine wp_region_any (by kernel_rfl) ?_
  change wpAny _ _ _ _ _ _ _ (World.drew _)
  change wpAny _ _ _ _ _ #[false, false, false, false, false, false, false, false, false, false, false, false, false, false, false, false, false, false, false, false] ⟨#[.string s, undef, .string ⟨#[]⟩, undef, undef, undef, undef, undef, undef, undef, undef, undef, undef, undef, undef, undef, undef, undef, undef, undef, undef, undef, undef, undef, undef, undef, undef, undef, undef, undef, undef, undef, undef, undef, undef, undef, undef, undef, undef, undef, undef], []⟩ _
  refine wpAny_take (i := 0) (v := .string s) rfl (by kernel_rfl) (by kernel_rfl) (by kernel_rfl) (fun _ _ _ h => h) (Or.inl ⟨by rfl, ?_⟩) ?_
  · intro w
    go_simp
    try with_reducible rfl
  change wpAny _ _ _ _ _ #[true, false, false, false, false, false, false, false, false, false, false, false, false, false, false, false, false, false, false, false] ⟨#[.string s, undef, .string ⟨#[]⟩, undef, .string s, undef, undef, undef, undef, undef, undef, undef, undef, undef, undef, undef, undef, undef, undef, undef, undef, undef, undef, undef, undef, undef, undef, undef, undef, undef, undef, undef, undef, undef, undef, undef, undef, undef, undef, undef, undef], []⟩ _
  refine wpAny_take (i := 1) (v := .int .i64 s.size) rfl (by kernel_rfl) (by kernel_rfl) (by kernel_rfl) (fun _ _ _ h => h) (Or.inl ⟨by rfl, ?_⟩) ?_
  · intro w
    go_simp
    try with_reducible rfl
  change wpAny _ _ _ _ _ #[true, true, false, false, false, false, false, false, false, false, false, false, false, false, false, false, false, false, false, false] ⟨#[.string s, undef, .string ⟨#[]⟩, undef, .string s, .int .i64 s.size, undef, undef, undef, undef, undef, undef, undef, undef, undef, undef, undef, undef, undef, undef, undef, undef, undef, undef, undef, undef, undef, undef, undef, undef, undef, undef, undef, undef, undef, undef, undef, undef, undef, undef, undef], []⟩ _
  refine wpAny_take (i := 2) (v := .bool true) rfl (by kernel_rfl) (by kernel_rfl) (by kernel_rfl) (fun _ _ _ h => h) (Or.inl ⟨by rfl, ?_⟩) ?_
  · intro w
    go_simp
    have := H1.out; omega
  change wpAny _ _ _ _ _ #[true, true, true, false, false, false, false, false, false, false, false, false, false, false, false, false, false, false, false, false] ⟨#[.string s, undef, .string ⟨#[]⟩, undef, .string s, .int .i64 s.size, .bool true, undef, undef, undef, undef, undef, undef, undef, undef, undef, undef, undef, undef, undef, undef, undef, undef, undef, undef, undef, undef, undef, undef, undef, undef, undef, undef, undef, undef, undef, undef, undef, undef, undef, undef], []⟩ _
  refine wpAny_take (i := 3) (v := .bool true) rfl (by kernel_rfl) (by kernel_rfl) (by kernel_rfl) (fun _ _ _ h => h) (Or.inl ⟨by rfl, ?_⟩) ?_
  · intro w
    go_simp
    try with_reducible rfl
  change wpAny _ _ _ _ _ #[true, true, true, true, false, false, false, false, false, false, false, false, false, false, false, false, false, false, false, false] ⟨#[.string s, undef, .string ⟨#[]⟩, undef, .string s, .int .i64 s.size, .bool true, .bool true, undef, undef, undef, undef, undef, undef, undef, undef, undef, undef, undef, undef, undef, undef, undef, undef, undef, undef, undef, undef, undef, undef, undef, undef, undef, undef, undef, undef, undef, undef, undef, undef, undef], []⟩ _
  refine wpAny_take (i := 4) (v := .string s) rfl (by kernel_rfl) (by kernel_rfl) (by kernel_rfl) (fun _ _ _ h => h) (Or.inl ⟨by rfl, ?_⟩) ?_
  · intro w
    go_simp
    try with_reducible rfl
  change wpAny _ _ _ _ _ #[true, true, true, true, true, false, false, false, false, false, false, false, false, false, false, false, false, false, false, false] ⟨#[.string s, undef, .string ⟨#[]⟩, undef, .string s, .int .i64 s.size, .bool true, .bool true, .string s, undef, undef, undef, undef, undef, undef, undef, undef, undef, undef, undef, undef, undef, undef, undef, undef, undef, undef, undef, undef, undef, undef, undef, undef, undef, undef, undef, undef, undef, undef, undef, undef], []⟩ _
  refine wpAny_take (i := 5) (v := .int .u8 (bt s 0)) rfl (by kernel_rfl) (by kernel_rfl) (by kernel_rfl) (fun _ _ _ h => h) (Or.inl ⟨by rfl, ?_⟩) ?_
  · intro w
    go_simp
    try with_reducible rfl
  change wpAny _ _ _ _ _ #[true, true, true, true, true, true, false, false, false, false, false, false, false, false, false, false, false, false, false, false] ⟨#[.string s, undef, .string ⟨#[]⟩, undef, .string s, .int .i64 s.size, .bool true, .bool true, .string s, .int .u8 (bt s 0), undef, undef, undef, undef, undef, undef, undef, undef, undef, undef, undef, undef, undef, undef, undef, undef, undef, undef, undef, undef, undef, undef, undef, undef, undef, undef, undef, undef, undef, undef, undef], []⟩ _
  refine wpAny_take (i := 6) (v := .string s) rfl (by kernel_rfl) (by kernel_rfl) (by kernel_rfl) (fun _ _ _ h => h) (Or.inl ⟨by rfl, ?_⟩) ?_
  · intro w
    go_simp
    try with_reducible rfl
  change wpAny _ _ _ _ _ #[true, true, true, true, true, true, true, false, false, false, false, false, false, false, false, false, false, false, false, false] ⟨#[.string s, undef, .string ⟨#[]⟩, undef, .string s, .int .i64 s.size, .bool true, .bool true, .string s, .int .u8 (bt s 0), .string s, undef, undef, undef, undef, undef, undef, undef, undef, undef, undef, undef, undef, undef, undef, undef, undef, undef, undef, undef, undef, undef, undef, undef, undef, undef, undef, undef, undef, undef, undef], []⟩ _
  refine wpAny_take (i := 7) (v := .string s) rfl (by kernel_rfl) (by kernel_rfl) (by kernel_rfl) (fun _ _ _ h => h) (Or.inl ⟨by rfl, ?_⟩) ?_
  · intro w
    go_simp
    try with_reducible rfl
  change wpAny _ _ _ _ _ #[true, true, true, true, true, true, true, true, false, false, false, false, false, false, false, false, false, false, false, false] ⟨#[.string s, undef, .string ⟨#[]⟩, undef, .string s, .int .i64 s.size, .bool true, .bool true, .string s, .int .u8 (bt s 0), .string s, .string s, undef, undef, undef, undef, undef, undef, undef, undef, undef, undef, undef, undef, undef, undef, undef, undef, undef, undef, undef, undef, undef, undef, undef, undef, undef, undef, undef, undef, undef], []⟩ _
  refine wpAny_take (i := 8) (v := .int .i64 s.size) rfl (by kernel_rfl) (by kernel_rfl) (by kernel_rfl) (fun _ _ _ h => h) (Or.inl ⟨by rfl, ?_⟩) ?_
  · intro w
    go_simp
    try with_reducible rfl
  change wpAny _ _ _ _ _ #[true, true, true, true, true, true, true, true, true, false, false, false, false, false, false, false, false, false, false, false] ⟨#[.string s, undef, .string ⟨#[]⟩, undef, .string s, .int .i64 s.size, .bool true, .bool true, .string s, .int .u8 (bt s 0), .string s, .string s, .int .i64 s.size, undef, undef, undef, undef, undef, undef, undef, undef, undef, undef, undef, undef, undef, undef, undef, undef, undef, undef, undef, undef, undef, undef, undef, undef, undef, undef, undef, undef], []⟩ _
  refine wpAny_take (i := 9) (v := .int .i64 (n : Int)) rfl (by kernel_rfl) (by kernel_rfl) (by kernel_rfl) (fun _ _ _ h => h) (Or.inl ⟨by rfl, ?_⟩) ?_
  · intro w
    go_simp
    have e := H1.out; rw [show (s.size : Int) - 1 = (n : Int) by omega]; exact IntWalk.i64_in _ (by omega)
  change wpAny _ _ _ _ _ #[true, true, true, true, true, true, true, true, true, true, false, false, false, false, false, false, false, false, false, false] ⟨#[.string s, undef, .string ⟨#[]⟩, undef, .string s, .int .i64 s.size, .bool true, .bool true, .string s, .int .u8 (bt s 0), .string s, .string s, .int .i64 s.size, .int .i64 (n : Int), undef, undef, undef, undef, undef, undef, undef, undef, undef, undef, undef, undef, undef, undef, undef, undef, undef, undef, undef, undef, undef, undef, undef, undef, undef, undef, undef], []⟩ _
  refine wpAny_take (i := 10) (v := .int .u8 (bt s n)) rfl (by kernel_rfl) (by kernel_rfl) (by kernel_rfl) (fun _ _ _ h => h) (Or.inl ⟨by rfl, ?_⟩) ?_
  · intro w
    go_simp
    try with_reducible rfl
  change wpAny _ _ _ _ _ #[true, true, true, true, true, true, true, true, true, true, true, false, false, false, false, false, false, false, false, false] ⟨#[.string s, undef, .string ⟨#[]⟩, undef, .string s, .int .i64 s.size, .bool true, .bool true, .string s, .int .u8 (bt s 0), .string s, .string s, .int .i64 s.size, .int .i64 (n : Int), .int .u8 (bt s n), undef, undef, undef, undef, undef, undef, undef, undef, undef, undef, undef, undef, undef, undef, undef, undef, undef, undef, undef, undef, undef, undef, undef, undef, undef, undef], []⟩ _
  refine wpAny_take (i := 11) (v := .bool true) rfl (by kernel_rfl) (by kernel_rfl) (by kernel_rfl) (fun _ _ _ h => h) (Or.inl ⟨by rfl, ?_⟩) ?_
  · intro w
    go_simp
    try with_reducible rfl
  change wpAny _ _ _ _ _ #[true, true, true, true, true, true, true, true, true, true, true, true, false, false, false, false, false, false, false, false] ⟨#[.string s, undef, .string ⟨#[]⟩, undef, .string s, .int .i64 s.size, .bool true, .bool true, .string s, .int .u8 (bt s 0), .string s, .string s, .int .i64 s.size, .int .i64 (n : Int), .int .u8 (bt s n), .bool true, undef, undef, undef, undef, undef, undef, undef, undef, undef, undef, undef, undef, undef, undef, undef, undef, undef, undef, undef, undef, undef, undef, undef, undef, undef], []⟩ _
  refine wpAny_take (i := 12) (v := .bool true) rfl (by kernel_rfl) (by kernel_rfl) (by kernel_rfl) (fun _ _ _ h => h) (Or.inl ⟨by rfl, ?_⟩) ?_
  · intro w
    go_simp
    try with_reducible rfl
  change wpAny _ _ _ _ _ #[true, true, true, true, true, true, true, true, true, true, true, true, true, false, false, false, false, false, false, false] ⟨#[.string s, undef, .string ⟨#[]⟩, undef, .string s, .int .i64 s.size, .bool true, .bool true, .string s, .int .u8 (bt s 0), .string s, .string s, .int .i64 s.size, .int .i64 (n : Int), .int .u8 (bt s n), .bool true, .bool true, undef, undef, undef, undef, undef, undef, undef, undef, undef, undef, undef, undef, undef, undef, undef, undef, undef, undef, undef, undef, undef, undef, undef, undef], []⟩ _
  refine wpAny_take (i := 13) (v := .bool true) rfl (by kernel_rfl) (by kernel_rfl) (by kernel_rfl) (fun _ _ _ h => h) (Or.inl ⟨by rfl, ?_⟩) ?_
  · intro w
    go_simp
    try with_reducible rfl
  change wpAny _ _ _ _ _ #[true, true, true, true, true, true, true, true, true, true, true, true, true, true, false, false, false, false, false, false] ⟨#[.string s, undef, .string ⟨#[]⟩, undef, .string s, .int .i64 s.size, .bool true, .bool true, .string s, .int .u8 (bt s 0), .string s, .string s, .int .i64 s.size, .int .i64 (n : Int), .int .u8 (bt s n), .bool true, .bool true, .bool true, undef, undef, undef, undef, undef, undef, undef, undef, undef, undef, undef, undef, undef, undef, undef, undef, undef, undef, undef, undef, undef, undef, undef], []⟩ _
  refine wpAny_take (i := 14) (v := .string s) rfl (by kernel_rfl) (by kernel_rfl) (by kernel_rfl) (fun _ _ _ h => h) (Or.inl ⟨by rfl, ?_⟩) ?_
  · intro w
    go_simp
    try with_reducible rfl
  change wpAny _ _ _ _ _ #[true, true, true, true, true, true, true, true, true, true, true, true, true, true, true, false, false, false, false, false] ⟨#[.string s, undef, .string ⟨#[]⟩, undef, .string s, .int .i64 s.size, .bool true, .bool true, .string s, .int .u8 (bt s 0), .string s, .string s, .int .i64 s.size, .int .i64 (n : Int), .int .u8 (bt s n), .bool true, .bool true, .bool true, .string s, undef, undef, undef, undef, undef, undef, undef, undef, undef, undef, undef, undef, undef, undef, undef, undef, undef, undef, undef, undef, undef, undef], []⟩ _
  refine wpAny_ready (rs := [15]) (by kernel_rfl) (by simp) ?_
  refine AllReady.cons rfl (fun K hK => ?_) AllReady.nil
  go_simp
  refine hK _ _ ?_
  clear hK K
  change wpAny _ _ _ _ _ #[true, true, true, true, true, true, true, true, true, true, true, true, true, true, true, true, false, false, false, false] ⟨#[.string s, undef, .string ⟨#[]⟩, undef, .string s, .int .i64 s.size, .bool true, .bool true, .string s, .int .u8 ((s[0].toNat : Nat) : Int), .string s, .string s, .int .i64 s.size, .int .i64 (n : Int), .int .u8 ((s[n].toNat : Nat) : Int), .bool true, .bool true, .bool true, .string s, .slice (some ⟨w.heap.size, 0, none⟩) s.size cap, undef, undef, undef, undef, undef, undef, undef, undef, undef, undef, undef, undef, undef, undef, undef, undef, undef, undef, undef, undef, undef], []⟩ _
  refine wpAny_ready (rs := [16]) (by kernel_rfl) (by simp) ?_
  refine AllReady.cons rfl (fun K hK => ?_) AllReady.nil
  go_simp
  go_at_call 35
  refine HW.out.mono ?_
  rintro e w2 ⟨rfl, hb2⟩
  have HB2 := Lib.hid (HBC.out.trans (hb2.mono HBC.out.size))
  clear hb2
  refine hK _ _ ?_
  clear hK K
  change wpAny _ _ _ _ _ #[true, true, true, true, true, true, true, true, true, true, true, true, true, true, true, true, true, false, false, false] ⟨#[.string s, undef, .string ⟨#[]⟩, undef, .string s, .int .i64 s.size, .bool true, .bool true, .string s, .int .u8 ((s[0].toNat : Nat) : Int), .string s, .string s, .int .i64 s.size, .int .i64 (n : Int), .int .u8 ((s[n].toNat : Nat) : Int), .bool true, .bool true, .bool true, .string s, .slice (some ⟨w.heap.size, 0, none⟩) s.size cap, .int .i64 (wrongR s), undef, undef, undef, undef, undef, undef, undef, undef, undef, undef, undef, undef, undef, undef, undef, undef, undef, undef, undef, undef], []⟩ _
  refine wpAny_take (i := 17) (v := .bool true) rfl (by kernel_rfl) (by kernel_rfl) (by kernel_rfl) (fun _ _ _ h => h) (Or.inl ⟨by rfl, ?_⟩) ?_
  · intro w
    go_simp
    try with_reducible rfl
  change wpAny _ _ _ _ _ #[true, true, true, true, true, true, true, true, true, true, true, true, true, true, true, true, true, true, false, false] ⟨#[.string s, undef, .string ⟨#[]⟩, undef, .string s, .int .i64 s.size, .bool true, .bool true, .string s, .int .u8 ((s[0].toNat : Nat) : Int), .string s, .string s, .int .i64 s.size, .int .i64 (n : Int), .int .u8 ((s[n].toNat : Nat) : Int), .bool true, .bool true, .bool true, .string s, .slice (some ⟨w.heap.size, 0, none⟩) s.size cap, .int .i64 (wrongR s), .bool true, undef, undef, undef, undef, undef, undef, undef, undef, undef, undef, undef, undef, undef, undef, undef, undef, undef, undef, undef], []⟩ _
  refine wpAny_take (i := 18) (v := .bool true) rfl (by kernel_rfl) (by kernel_rfl) (by kernel_rfl) (fun _ _ _ h => h) (Or.inl ⟨by rfl, ?_⟩) ?_
  · intro w
    go_simp
    try with_reducible rfl
  change wpAny _ _ _ _ _ #[true, true, true, true, true, true, true, true, true, true, true, true, true, true, true, true, true, true, true, false] ⟨#[.string s, undef, .string ⟨#[]⟩, undef, .string s, .int .i64 s.size, .bool true, .bool true, .string s, .int .u8 ((s[0].toNat : Nat) : Int), .string s, .string s, .int .i64 s.size, .int .i64 (n : Int), .int .u8 ((s[n].toNat : Nat) : Int), .bool true, .bool true, .bool true, .string s, .slice (some ⟨w.heap.size, 0, none⟩) s.size cap, .int .i64 (wrongR s), .bool true, .bool true, undef, undef, undef, undef, undef, undef, undef, undef, undef, undef, undef, undef, undef, undef, undef, undef, undef, undef], []⟩ _
  refine wpAny_ready (rs := [19]) (by kernel_rfl) (by simp) ?_
  refine AllReady.cons rfl (fun K hK => ?_) AllReady.nil
  go_simp
  go_at_call 31
  refine (must_t _).mono ?_
  rintro e w6 ⟨rfl, rfl⟩
  refine hK _ _ ?_
  clear hK K
  refine wpAny_done (by kernel_rfl) ?_ _
  go_wp2_with fail
  rw [show s.size - 1 = n by have := H1.out; omega]
  refine (raw_any (s.extract 1 n) w2 (by rw [ByteArray.size_extract]; omega)).mono ?_
  rintro e w3 ⟨hb3, hE⟩
  have HB3 := Lib.hid (HB2.out.trans (hb3.mono HB2.out.size))
  clear hb3 hcv HBC HW HB2
  generalize rawP (s.extract 1 n) = r at *
  cases r with
  | none =>
    have he : e = .panicked [{ v := .iface 59 (.agg #[]), recovered := false }] := hE
    subst he
    refine ⟨rfl, HB3.out, ?_⟩
    rw [HP.out]
    rfl
  | some r =>
    obtain rfl : e = .returned (.string r) := hE
    go_wp2
    go_ret
    refine ⟨HB3.out, ?_⟩
    rw [HP.out]
    rfl

theorem text_any (s : ByteArray) (w : World) (hT : Tabs w) (hs : s.size ≤ 65536) : Calls Tryd.prog 21 #[.string s] w fun e w' => PartsEnds w (textP s) e w' := by
  by_cases h : 1 < s.size
  · obtain ⟨n, hn⟩ : ∃ n, s.size = n + 1 := ⟨s.size - 1, by omega⟩
    by_cases heq : bt s 0 = bt s n
    · by_cases hw : wrongR s < 0
      · by_cases h34 : bt s 0 = 34
        · exact text_parts s w hT hs n hn (by omega) heq hw h34
        · by_cases h96 : bt s 0 = 96
          · exact text_raw s w hT hs n hn (by omega) heq hw h96
          · exact text_other s w hT hs n hn (by omega) heq hw ⟨h34, h96⟩
      · exact text_wrong s w hT hs n hn (by omega) heq hw
    · exact text_apart s w hs n hn (by omega) heq
  · exact text_short s w h
end Go.Proofs.YtijinpnbhnfiiaaDoor
