/- The reference's Sign tells the width that Go's decoding gives, and its number, or -1 where none begins. -/
import Derived.Test.YtijinpnbhnfiiaaDoorText
import Derived.Test.YtijinpnbhnfiiaaDoorBase
import Derived.Handy
namespace Go.Proofs.YtijinpnbhnfiiaaDoor
open Go.RowKit

def Sgn (s : ByteArray) (p : Nat) (w : World) (e : Ending) (w' : World) : Prop := e = .returned (.tuple #[.int .i64 (wid s p), .int .i64 (sgv s p)]) ∧ w = w'

theorem sgn_bad {s : ByteArray} {p : Nat} {w : World} (h : Bad s p) : Sgn s p w (.returned (.tuple #[.int .i64 1, .int .i64 (-1)])) w := by
  unfold Sgn; rw [h.wid, h.sgv]; exact ⟨rfl, rfl⟩

set_option maxRecDepth 100000 in
theorem sign_0 (s : ByteArray) (b o cap p : Nat) (w : World) (hp : p < s.size) (h : Lib.Bytes w b o s) (hc : bt s p < 128) :
    Calls Tryd.prog 38 #[.slice (some ⟨b, o, none⟩) s.size cap, .int .i64 p] w (Sgn s p w) := by
  have c0 := Text.byte h p hp
  have hb0 := bt_lt s p
  have e1 : wid s p = 1 := by unfold wid; rw [dec_1 s p hc]
  have e2 : sgv s p = bt s p := by
    have e3 : sig s p = bt s p := by unfold sig; rw [dec_1 s p hc]
    unfold sgv; rw [e3, if_neg (by omega)]
  have E1 := Lib.hid e1
  have E2 := Lib.hid e2
  clear h e1 e2
  go_enter Tryd.func38, Tryd.ntmps38
  go_wp2
  go_ret2
  unfold Sgn
  rw [E1.out, E2.out]
  exact ⟨rfl, rfl⟩

set_option maxRecDepth 100000 in
theorem sign_x (s : ByteArray) (b o cap p : Nat) (w : World) (hp : p < s.size) (h : Lib.Bytes w b o s) (hc : 128 ≤ bt s p) (hx : bt s p < 194 ∨ 245 ≤ bt s p) (hb : Bad s p) :
    Calls Tryd.prog 38 #[.slice (some ⟨b, o, none⟩) s.size cap, .int .i64 p] w (Sgn s p w) := by
  have c0 := Text.byte h p hp
  have hb0 := bt_lt s p
  have HB := Lib.hid (sgn_bad (w := w) hb)
  clear h hb
  rcases hx with hx | hx
  all_goals
    go_enter Tryd.func38, Tryd.ntmps38
    go_wp2
    go_ret2
    exact HB.out


theorem sgn_ok {s : ByteArray} {p n : Nat} {v : Nat} {z : Int} {w : World} (h : Utf8.decode s p = (v, n)) (hn : 2 ≤ n) (hz : z = v) : Sgn s p w (.returned (.tuple #[.int .i64 n, .int .i64 z])) w := by
  subst hz
  have e1 : wid s p = n := by unfold wid; rw [h]
  have e2 : sig s p = v := by unfold sig; rw [h]
  unfold Sgn sgv
  rw [e1, e2, if_neg (by omega)]
  exact ⟨rfl, rfl⟩

/-- Two bytes. -/
theorem two_no {s : ByteArray} {p : Nat} {w : World} (h1 : 194 ≤ bt s p) (h2 : bt s p ≤ 223) (h : bt s (p + 1) < 128 ∨ 191 < bt s (p + 1)) : Sgn s p w (.returned (.tuple #[.int .i64 1, .int .i64 (-1)])) w :=
  sgn_bad (by unfold Bad; rw [dec_2 s p (by omega) (by omega), if_neg (by omega)])
theorem two_ok {s : ByteArray} {p : Nat} {w : World} (h1 : 194 ≤ bt s p) (h2 : bt s p ≤ 223) (hn : p + 2 ≤ s.size) (h3 : 128 ≤ bt s (p + 1)) (h4 : bt s (p + 1) ≤ 191) :
    Sgn s p w (.returned (.tuple #[.int .i64 2, .int .i64 (64 * ((bt s p : Int) - 192) + bt s (p + 1) - 128)])) w :=
  sgn_ok (n := 2) (by rw [dec_2 s p (by omega) (by omega), if_pos (by omega)]) (by omega) (by omega)

set_option maxRecDepth 100000 in
theorem sign_2 (s : ByteArray) (b o cap p : Nat) (w : World) (hs : s.size ≤ 1000000) (hp : p < s.size) (h : Lib.Bytes w b o s) (h1 : 194 ≤ bt s p) (h2 : bt s p ≤ 223) :
    Calls Tryd.prog 38 #[.slice (some ⟨b, o, none⟩) s.size cap, .int .i64 p] w (Sgn s p w) := by
  have c0 := Text.byte h p hp
  have hb0 := bt_lt s p
  have hl0 := bt_lt s (p + 1)
  by_cases hn : p + 2 ≤ s.size
  · have c1 := Text.byte h (p + 1) (by omega)
    clear h
    go_enter Tryd.func38, Tryd.ntmps38
    go_wp2
    go_rounds 2
    all_goals
      go_ret2
      first
        | exact two_no h1 h2 (by omega)
        | exact two_ok h1 h2 hn (by omega) (by omega)
  · have hb : Bad s p := by unfold Bad; rw [dec_2 s p (by omega) (by omega), if_neg (by omega)]
    have HB := Lib.hid (sgn_bad (w := w) hb)
    clear h hb
    go_enter Tryd.func38, Tryd.ntmps38
    go_wp2
    go_ret2
    exact HB.out

/-- Three bytes. -/
theorem three_no {s : ByteArray} {p : Nat} {w : World} (h1 : 224 ≤ bt s p) (h2 : bt s p ≤ 239) (h : ¬ (128 ≤ bt s (p + 1) ∧ bt s (p + 1) ≤ 191 ∧ 128 ≤ bt s (p + 2) ∧ bt s (p + 2) ≤ 191 ∧ 2048 ≤ (bt s p - 224) * 4096 + (bt s (p + 1) - 128) * 64 + (bt s (p + 2) - 128) ∧
        ((bt s p - 224) * 4096 + (bt s (p + 1) - 128) * 64 + (bt s (p + 2) - 128) < 55296 ∨ 57344 ≤ (bt s p - 224) * 4096 + (bt s (p + 1) - 128) * 64 + (bt s (p + 2) - 128)))) : Sgn s p w (.returned (.tuple #[.int .i64 1, .int .i64 (-1)])) w :=
  sgn_bad (by unfold Bad; rw [dec_3 s p (by omega) (by omega), if_neg (by omega)])
theorem three_ok {s : ByteArray} {p : Nat} {w : World} {z : Int} (h1 : 224 ≤ bt s p) (h2 : bt s p ≤ 239) (hn : p + 3 ≤ s.size) (h3 : 128 ≤ bt s (p + 1)) (h4 : bt s (p + 1) ≤ 191) (h5 : 128 ≤ bt s (p + 2)) (h6 : bt s (p + 2) ≤ 191)
    (hz : z = 64 * (64 * ((bt s p : Int) - 224) + bt s (p + 1) - 128) + bt s (p + 2) - 128) (h7 : 2048 ≤ z) (h8 : z < 55296 ∨ 57344 ≤ z) :
    Sgn s p w (.returned (.tuple #[.int .i64 3, .int .i64 z])) w :=
  sgn_ok (n := 3) (by rw [dec_3 s p (by omega) (by omega), if_pos (by omega)]) (by omega) (by omega)

set_option maxRecDepth 100000 in
theorem sign_3 (s : ByteArray) (b o cap p : Nat) (w : World) (hs : s.size ≤ 1000000) (hp : p < s.size) (h : Lib.Bytes w b o s) (h1 : 224 ≤ bt s p) (h2 : bt s p ≤ 239) :
    Calls Tryd.prog 38 #[.slice (some ⟨b, o, none⟩) s.size cap, .int .i64 p] w (Sgn s p w) := by
  have c0 := Text.byte h p hp
  have hb0 := bt_lt s p
  have hl0 := bt_lt s (p + 1)
  have hl1 := bt_lt s (p + 2)
  by_cases hn : p + 3 ≤ s.size
  · have c1 := Text.byte h (p + 1) (by omega)
    have c2 := Text.byte h (p + 2) (by omega)
    clear h
    go_enter Tryd.func38, Tryd.ntmps38
    go_wp2
    go_rounds 3
    all_goals
      go_ret2
      first
        | exact three_no h1 h2 (by omega)
        | exact three_ok h1 h2 hn (by omega) (by omega) (by omega) (by omega) rfl (by omega) (by omega)
  · have hb : Bad s p := by unfold Bad; rw [dec_3 s p (by omega) (by omega), if_neg (by omega)]
    have HB := Lib.hid (sgn_bad (w := w) hb)
    clear h hb
    go_enter Tryd.func38, Tryd.ntmps38
    go_wp2
    go_ret2
    exact HB.out

/-- Four bytes. -/
theorem four_no {s : ByteArray} {p : Nat} {w : World} (h1 : 240 ≤ bt s p) (h2 : bt s p ≤ 244) (h : ¬ (128 ≤ bt s (p + 1) ∧ bt s (p + 1) ≤ 191 ∧ 128 ≤ bt s (p + 2) ∧ bt s (p + 2) ≤ 191 ∧ 128 ≤ bt s (p + 3) ∧ bt s (p + 3) ≤ 191 ∧ 65536 ≤ (bt s p - 240) * 262144 + (bt s (p + 1) - 128) * 4096 + (bt s (p + 2) - 128) * 64 + (bt s (p + 3) - 128) ∧
        (bt s p - 240) * 262144 + (bt s (p + 1) - 128) * 4096 + (bt s (p + 2) - 128) * 64 + (bt s (p + 3) - 128) ≤ 1114111)) : Sgn s p w (.returned (.tuple #[.int .i64 1, .int .i64 (-1)])) w :=
  sgn_bad (by unfold Bad; rw [dec_4 s p (by omega) (by omega), if_neg (by omega)])
theorem four_ok {s : ByteArray} {p : Nat} {w : World} {z : Int} (h1 : 240 ≤ bt s p) (h2 : bt s p ≤ 244) (hn : p + 4 ≤ s.size) (h3 : 128 ≤ bt s (p + 1)) (h4 : bt s (p + 1) ≤ 191) (h5 : 128 ≤ bt s (p + 2)) (h6 : bt s (p + 2) ≤ 191) (h7 : 128 ≤ bt s (p + 3)) (h8 : bt s (p + 3) ≤ 191)
    (hz : z = 64 * (64 * (64 * ((bt s p : Int) - 240) + bt s (p + 1) - 128) + bt s (p + 2) - 128) + bt s (p + 3) - 128) (h9 : 65536 ≤ z) (h10 : z ≤ 1114111) :
    Sgn s p w (.returned (.tuple #[.int .i64 4, .int .i64 z])) w :=
  sgn_ok (n := 4) (by rw [dec_4 s p (by omega) (by omega), if_pos (by omega)]) (by omega) (by omega)

set_option maxRecDepth 100000 in
set_option maxHeartbeats 1000000 in
theorem sign_4 (s : ByteArray) (b o cap p : Nat) (w : World) (hs : s.size ≤ 1000000) (hp : p < s.size) (h : Lib.Bytes w b o s) (h1 : 240 ≤ bt s p) (h2 : bt s p ≤ 244) :
    Calls Tryd.prog 38 #[.slice (some ⟨b, o, none⟩) s.size cap, .int .i64 p] w (Sgn s p w) := by
  have c0 := Text.byte h p hp
  have hb0 := bt_lt s p
  have hl0 := bt_lt s (p + 1)
  have hl1 := bt_lt s (p + 2)
  have hl2 := bt_lt s (p + 3)
  by_cases hn : p + 4 ≤ s.size
  · have c1 := Text.byte h (p + 1) (by omega)
    have c2 := Text.byte h (p + 2) (by omega)
    have c3 := Text.byte h (p + 3) (by omega)
    clear h
    go_enter Tryd.func38, Tryd.ntmps38
    go_wp2
    go_rounds 4
    all_goals
      go_ret2
      first
        | exact four_no h1 h2 (by omega)
        | exact four_ok h1 h2 hn (by omega) (by omega) (by omega) (by omega) (by omega) (by omega) rfl (by omega) (by omega)
  · have hb : Bad s p := by unfold Bad; rw [dec_4 s p (by omega) (by omega), if_neg (by omega)]
    have HB := Lib.hid (sgn_bad (w := w) hb)
    clear h hb
    go_enter Tryd.func38, Tryd.ntmps38
    go_wp2
    go_ret2
    exact HB.out

theorem refsign_any (s : ByteArray) (a : Option Addr) (cap p : Nat) (w : World) (hs : s.size ≤ 1000000) (hp : p < s.size) (h : Text w a s) :
    Calls Tryd.prog 38 #[.slice a s.size cap, .int .i64 p] w (Sgn s p w) := by
  rcases h with h | ⟨b, o, rfl, _, h⟩
  · omega
  by_cases k1 : bt s p < 128
  · exact sign_0 s b o cap p w hp h k1
  by_cases k2 : bt s p < 192
  · exact sign_x s b o cap p w hp h (by omega) (by omega) (dec_x s p (by omega) (by omega))
  by_cases k3 : bt s p < 194
  · refine sign_x s b o cap p w hp h (by omega) (by omega) ?_
    have := bt_lt s (p + 1)
    unfold Bad; rw [dec_2 s p (by omega) (by omega), if_neg (by omega)]
  by_cases k4 : bt s p ≤ 223
  · exact sign_2 s b o cap p w hs hp h (by omega) k4
  by_cases k5 : bt s p ≤ 239
  · exact sign_3 s b o cap p w hs hp h (by omega) k5
  by_cases k6 : bt s p ≤ 244
  · exact sign_4 s b o cap p w hs hp h (by omega) k6
  by_cases k7 : bt s p < 248
  · refine sign_x s b o cap p w hp h (by omega) (by omega) ?_
    unfold Bad; rw [dec_4 s p (by omega) (by omega), if_neg (by omega)]
  · exact sign_x s b o cap p w hp h (by omega) (by omega) (dec_x s p (by omega) (by omega))
end Go.Proofs.YtijinpnbhnfiiaaDoor
