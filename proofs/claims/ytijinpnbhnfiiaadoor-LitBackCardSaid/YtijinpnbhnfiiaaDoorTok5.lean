/- package token: how long a sign is. -/
import Derived.Test.YtijinpnbhnfiiaaDoorTok4
namespace Go.Proofs.YtijinpnbhnfiiaaDoor
open Go.RowKit
set_option linter.unusedVariables false

def signs3 : List (List UInt8) := [[60, 60, 61],
  [62, 62, 61],
  [38, 94, 61],
  [46, 46, 46]]
def signs2 : List (List UInt8) := [[38, 38],
  [124, 124],
  [61, 61],
  [33, 61],
  [60, 61],
  [62, 61],
  [58, 61],
  [43, 43],
  [45, 45],
  [43, 61],
  [45, 61],
  [42, 61],
  [47, 61],
  [37, 61],
  [38, 61],
  [124, 61],
  [94, 61],
  [60, 60],
  [62, 62],
  [38, 94],
  [60, 45]]
def signs1 : List (List UInt8) := [[43],
  [45],
  [42],
  [47],
  [37],
  [38],
  [124],
  [94],
  [60],
  [62],
  [61],
  [33],
  [40],
  [41],
  [91],
  [93],
  [123],
  [125],
  [44],
  [59],
  [46],
  [58],
  [126]]

def pre (s : ByteArray) (k : Nat) : ByteArray := s.extract 0 (min k s.size)
/-- How long the sign is with which s begins. -/
def signN (s : ByteArray) : Nat := if signs3.contains (pre s 3).toList then 3 else if signs2.contains (pre s 2).toList then 2 else if signs1.contains (pre s 1).toList then 1 else 0

theorem pre_int (s : ByteArray) (k : Nat) : s.extract 0 (min (k : Int) (s.size : Int)).toNat = pre s k := by
  unfold pre
  rw [show (min (k : Int) (s.size : Int)).toNat = min k s.size by omega]

set_option maxHeartbeats 1000000 in
set_option maxRecDepth 100000 in
theorem sign3_0 (s x3 x2 x1 : ByteArray) (w : World) (e3 : s.extract 0 (min 3 (s.size : Int)).toNat = x3) (e2 : s.extract 0 (min 2 (s.size : Int)).toNat = x2) (e1 : s.extract 0 (min 1 (s.size : Int)).toNat = x1) (h : x3.toList = [60, 60, 61]) : Calls Tryd.prog 73 #[.string s] w fun e w' => e = .returned (.int .i64 3) ∧ w = w' := by
  go_enter Tryd.func73, Tryd.ntmps73
  go_wp2
  go_ret
  exact ⟨rfl, rfl⟩

set_option maxHeartbeats 1000000 in
set_option maxRecDepth 100000 in
theorem sign3_1 (s x3 x2 x1 : ByteArray) (w : World) (e3 : s.extract 0 (min 3 (s.size : Int)).toNat = x3) (e2 : s.extract 0 (min 2 (s.size : Int)).toNat = x2) (e1 : s.extract 0 (min 1 (s.size : Int)).toNat = x1) (h : x3.toList = [62, 62, 61]) : Calls Tryd.prog 73 #[.string s] w fun e w' => e = .returned (.int .i64 3) ∧ w = w' := by
  go_enter Tryd.func73, Tryd.ntmps73
  go_wp2
  go_ret
  exact ⟨rfl, rfl⟩

set_option maxHeartbeats 1000000 in
set_option maxRecDepth 100000 in
theorem sign3_2 (s x3 x2 x1 : ByteArray) (w : World) (e3 : s.extract 0 (min 3 (s.size : Int)).toNat = x3) (e2 : s.extract 0 (min 2 (s.size : Int)).toNat = x2) (e1 : s.extract 0 (min 1 (s.size : Int)).toNat = x1) (h : x3.toList = [38, 94, 61]) : Calls Tryd.prog 73 #[.string s] w fun e w' => e = .returned (.int .i64 3) ∧ w = w' := by
  go_enter Tryd.func73, Tryd.ntmps73
  go_wp2
  go_ret
  exact ⟨rfl, rfl⟩

set_option maxHeartbeats 1000000 in
set_option maxRecDepth 100000 in
theorem sign3_3 (s x3 x2 x1 : ByteArray) (w : World) (e3 : s.extract 0 (min 3 (s.size : Int)).toNat = x3) (e2 : s.extract 0 (min 2 (s.size : Int)).toNat = x2) (e1 : s.extract 0 (min 1 (s.size : Int)).toNat = x1) (h : x3.toList = [46, 46, 46]) : Calls Tryd.prog 73 #[.string s] w fun e w' => e = .returned (.int .i64 3) ∧ w = w' := by
  go_enter Tryd.func73, Tryd.ntmps73
  go_wp2
  go_ret
  exact ⟨rfl, rfl⟩

set_option maxHeartbeats 1000000 in
set_option maxRecDepth 100000 in
theorem sign2_0 (s x3 x2 x1 : ByteArray) (w : World) (e3 : s.extract 0 (min 3 (s.size : Int)).toNat = x3) (e2 : s.extract 0 (min 2 (s.size : Int)).toNat = x2) (e1 : s.extract 0 (min 1 (s.size : Int)).toNat = x1) (h3 : signs3.contains x3.toList = false) (h : x2.toList = [38, 38]) : Calls Tryd.prog 73 #[.string s] w fun e w' => e = .returned (.int .i64 2) ∧ w = w' := by
  have a0 := not_in h3 [60, 60, 61] (by decide)
  have a1 := not_in h3 [62, 62, 61] (by decide)
  have a2 := not_in h3 [38, 94, 61] (by decide)
  have a3 := not_in h3 [46, 46, 46] (by decide)
  clear h3
  go_enter Tryd.func73, Tryd.ntmps73
  go_wp2
  go_ret
  exact ⟨rfl, rfl⟩

set_option maxHeartbeats 1000000 in
set_option maxRecDepth 100000 in
theorem sign2_1 (s x3 x2 x1 : ByteArray) (w : World) (e3 : s.extract 0 (min 3 (s.size : Int)).toNat = x3) (e2 : s.extract 0 (min 2 (s.size : Int)).toNat = x2) (e1 : s.extract 0 (min 1 (s.size : Int)).toNat = x1) (h3 : signs3.contains x3.toList = false) (h : x2.toList = [124, 124]) : Calls Tryd.prog 73 #[.string s] w fun e w' => e = .returned (.int .i64 2) ∧ w = w' := by
  have a0 := not_in h3 [60, 60, 61] (by decide)
  have a1 := not_in h3 [62, 62, 61] (by decide)
  have a2 := not_in h3 [38, 94, 61] (by decide)
  have a3 := not_in h3 [46, 46, 46] (by decide)
  clear h3
  go_enter Tryd.func73, Tryd.ntmps73
  go_wp2
  go_ret
  exact ⟨rfl, rfl⟩

set_option maxHeartbeats 1000000 in
set_option maxRecDepth 100000 in
theorem sign2_2 (s x3 x2 x1 : ByteArray) (w : World) (e3 : s.extract 0 (min 3 (s.size : Int)).toNat = x3) (e2 : s.extract 0 (min 2 (s.size : Int)).toNat = x2) (e1 : s.extract 0 (min 1 (s.size : Int)).toNat = x1) (h3 : signs3.contains x3.toList = false) (h : x2.toList = [61, 61]) : Calls Tryd.prog 73 #[.string s] w fun e w' => e = .returned (.int .i64 2) ∧ w = w' := by
  have a0 := not_in h3 [60, 60, 61] (by decide)
  have a1 := not_in h3 [62, 62, 61] (by decide)
  have a2 := not_in h3 [38, 94, 61] (by decide)
  have a3 := not_in h3 [46, 46, 46] (by decide)
  clear h3
  go_enter Tryd.func73, Tryd.ntmps73
  go_wp2
  go_ret
  exact ⟨rfl, rfl⟩

set_option maxHeartbeats 1000000 in
set_option maxRecDepth 100000 in
theorem sign2_3 (s x3 x2 x1 : ByteArray) (w : World) (e3 : s.extract 0 (min 3 (s.size : Int)).toNat = x3) (e2 : s.extract 0 (min 2 (s.size : Int)).toNat = x2) (e1 : s.extract 0 (min 1 (s.size : Int)).toNat = x1) (h3 : signs3.contains x3.toList = false) (h : x2.toList = [33, 61]) : Calls Tryd.prog 73 #[.string s] w fun e w' => e = .returned (.int .i64 2) ∧ w = w' := by
  have a0 := not_in h3 [60, 60, 61] (by decide)
  have a1 := not_in h3 [62, 62, 61] (by decide)
  have a2 := not_in h3 [38, 94, 61] (by decide)
  have a3 := not_in h3 [46, 46, 46] (by decide)
  clear h3
  go_enter Tryd.func73, Tryd.ntmps73
  go_wp2
  go_ret
  exact ⟨rfl, rfl⟩

set_option maxHeartbeats 1000000 in
set_option maxRecDepth 100000 in
theorem sign2_4 (s x3 x2 x1 : ByteArray) (w : World) (e3 : s.extract 0 (min 3 (s.size : Int)).toNat = x3) (e2 : s.extract 0 (min 2 (s.size : Int)).toNat = x2) (e1 : s.extract 0 (min 1 (s.size : Int)).toNat = x1) (h3 : signs3.contains x3.toList = false) (h : x2.toList = [60, 61]) : Calls Tryd.prog 73 #[.string s] w fun e w' => e = .returned (.int .i64 2) ∧ w = w' := by
  have a0 := not_in h3 [60, 60, 61] (by decide)
  have a1 := not_in h3 [62, 62, 61] (by decide)
  have a2 := not_in h3 [38, 94, 61] (by decide)
  have a3 := not_in h3 [46, 46, 46] (by decide)
  clear h3
  go_enter Tryd.func73, Tryd.ntmps73
  go_wp2
  go_ret
  exact ⟨rfl, rfl⟩

set_option maxHeartbeats 1000000 in
set_option maxRecDepth 100000 in
theorem sign2_5 (s x3 x2 x1 : ByteArray) (w : World) (e3 : s.extract 0 (min 3 (s.size : Int)).toNat = x3) (e2 : s.extract 0 (min 2 (s.size : Int)).toNat = x2) (e1 : s.extract 0 (min 1 (s.size : Int)).toNat = x1) (h3 : signs3.contains x3.toList = false) (h : x2.toList = [62, 61]) : Calls Tryd.prog 73 #[.string s] w fun e w' => e = .returned (.int .i64 2) ∧ w = w' := by
  have a0 := not_in h3 [60, 60, 61] (by decide)
  have a1 := not_in h3 [62, 62, 61] (by decide)
  have a2 := not_in h3 [38, 94, 61] (by decide)
  have a3 := not_in h3 [46, 46, 46] (by decide)
  clear h3
  go_enter Tryd.func73, Tryd.ntmps73
  go_wp2
  go_ret
  exact ⟨rfl, rfl⟩

set_option maxHeartbeats 1000000 in
set_option maxRecDepth 100000 in
theorem sign2_6 (s x3 x2 x1 : ByteArray) (w : World) (e3 : s.extract 0 (min 3 (s.size : Int)).toNat = x3) (e2 : s.extract 0 (min 2 (s.size : Int)).toNat = x2) (e1 : s.extract 0 (min 1 (s.size : Int)).toNat = x1) (h3 : signs3.contains x3.toList = false) (h : x2.toList = [58, 61]) : Calls Tryd.prog 73 #[.string s] w fun e w' => e = .returned (.int .i64 2) ∧ w = w' := by
  have a0 := not_in h3 [60, 60, 61] (by decide)
  have a1 := not_in h3 [62, 62, 61] (by decide)
  have a2 := not_in h3 [38, 94, 61] (by decide)
  have a3 := not_in h3 [46, 46, 46] (by decide)
  clear h3
  go_enter Tryd.func73, Tryd.ntmps73
  go_wp2
  go_ret
  exact ⟨rfl, rfl⟩

set_option maxHeartbeats 1000000 in
set_option maxRecDepth 100000 in
theorem sign2_7 (s x3 x2 x1 : ByteArray) (w : World) (e3 : s.extract 0 (min 3 (s.size : Int)).toNat = x3) (e2 : s.extract 0 (min 2 (s.size : Int)).toNat = x2) (e1 : s.extract 0 (min 1 (s.size : Int)).toNat = x1) (h3 : signs3.contains x3.toList = false) (h : x2.toList = [43, 43]) : Calls Tryd.prog 73 #[.string s] w fun e w' => e = .returned (.int .i64 2) ∧ w = w' := by
  have a0 := not_in h3 [60, 60, 61] (by decide)
  have a1 := not_in h3 [62, 62, 61] (by decide)
  have a2 := not_in h3 [38, 94, 61] (by decide)
  have a3 := not_in h3 [46, 46, 46] (by decide)
  clear h3
  go_enter Tryd.func73, Tryd.ntmps73
  go_wp2
  go_ret
  exact ⟨rfl, rfl⟩

set_option maxHeartbeats 1000000 in
set_option maxRecDepth 100000 in
theorem sign2_8 (s x3 x2 x1 : ByteArray) (w : World) (e3 : s.extract 0 (min 3 (s.size : Int)).toNat = x3) (e2 : s.extract 0 (min 2 (s.size : Int)).toNat = x2) (e1 : s.extract 0 (min 1 (s.size : Int)).toNat = x1) (h3 : signs3.contains x3.toList = false) (h : x2.toList = [45, 45]) : Calls Tryd.prog 73 #[.string s] w fun e w' => e = .returned (.int .i64 2) ∧ w = w' := by
  have a0 := not_in h3 [60, 60, 61] (by decide)
  have a1 := not_in h3 [62, 62, 61] (by decide)
  have a2 := not_in h3 [38, 94, 61] (by decide)
  have a3 := not_in h3 [46, 46, 46] (by decide)
  clear h3
  go_enter Tryd.func73, Tryd.ntmps73
  go_wp2
  go_ret
  exact ⟨rfl, rfl⟩

set_option maxHeartbeats 1000000 in
set_option maxRecDepth 100000 in
theorem sign2_9 (s x3 x2 x1 : ByteArray) (w : World) (e3 : s.extract 0 (min 3 (s.size : Int)).toNat = x3) (e2 : s.extract 0 (min 2 (s.size : Int)).toNat = x2) (e1 : s.extract 0 (min 1 (s.size : Int)).toNat = x1) (h3 : signs3.contains x3.toList = false) (h : x2.toList = [43, 61]) : Calls Tryd.prog 73 #[.string s] w fun e w' => e = .returned (.int .i64 2) ∧ w = w' := by
  have a0 := not_in h3 [60, 60, 61] (by decide)
  have a1 := not_in h3 [62, 62, 61] (by decide)
  have a2 := not_in h3 [38, 94, 61] (by decide)
  have a3 := not_in h3 [46, 46, 46] (by decide)
  clear h3
  go_enter Tryd.func73, Tryd.ntmps73
  go_wp2
  go_ret
  exact ⟨rfl, rfl⟩

set_option maxHeartbeats 1000000 in
set_option maxRecDepth 100000 in
theorem sign2_10 (s x3 x2 x1 : ByteArray) (w : World) (e3 : s.extract 0 (min 3 (s.size : Int)).toNat = x3) (e2 : s.extract 0 (min 2 (s.size : Int)).toNat = x2) (e1 : s.extract 0 (min 1 (s.size : Int)).toNat = x1) (h3 : signs3.contains x3.toList = false) (h : x2.toList = [45, 61]) : Calls Tryd.prog 73 #[.string s] w fun e w' => e = .returned (.int .i64 2) ∧ w = w' := by
  have a0 := not_in h3 [60, 60, 61] (by decide)
  have a1 := not_in h3 [62, 62, 61] (by decide)
  have a2 := not_in h3 [38, 94, 61] (by decide)
  have a3 := not_in h3 [46, 46, 46] (by decide)
  clear h3
  go_enter Tryd.func73, Tryd.ntmps73
  go_wp2
  go_ret
  exact ⟨rfl, rfl⟩

set_option maxHeartbeats 1000000 in
set_option maxRecDepth 100000 in
theorem sign2_11 (s x3 x2 x1 : ByteArray) (w : World) (e3 : s.extract 0 (min 3 (s.size : Int)).toNat = x3) (e2 : s.extract 0 (min 2 (s.size : Int)).toNat = x2) (e1 : s.extract 0 (min 1 (s.size : Int)).toNat = x1) (h3 : signs3.contains x3.toList = false) (h : x2.toList = [42, 61]) : Calls Tryd.prog 73 #[.string s] w fun e w' => e = .returned (.int .i64 2) ∧ w = w' := by
  have a0 := not_in h3 [60, 60, 61] (by decide)
  have a1 := not_in h3 [62, 62, 61] (by decide)
  have a2 := not_in h3 [38, 94, 61] (by decide)
  have a3 := not_in h3 [46, 46, 46] (by decide)
  clear h3
  go_enter Tryd.func73, Tryd.ntmps73
  go_wp2
  go_ret
  exact ⟨rfl, rfl⟩

set_option maxHeartbeats 1000000 in
set_option maxRecDepth 100000 in
theorem sign2_12 (s x3 x2 x1 : ByteArray) (w : World) (e3 : s.extract 0 (min 3 (s.size : Int)).toNat = x3) (e2 : s.extract 0 (min 2 (s.size : Int)).toNat = x2) (e1 : s.extract 0 (min 1 (s.size : Int)).toNat = x1) (h3 : signs3.contains x3.toList = false) (h : x2.toList = [47, 61]) : Calls Tryd.prog 73 #[.string s] w fun e w' => e = .returned (.int .i64 2) ∧ w = w' := by
  have a0 := not_in h3 [60, 60, 61] (by decide)
  have a1 := not_in h3 [62, 62, 61] (by decide)
  have a2 := not_in h3 [38, 94, 61] (by decide)
  have a3 := not_in h3 [46, 46, 46] (by decide)
  clear h3
  go_enter Tryd.func73, Tryd.ntmps73
  go_wp2
  go_ret
  exact ⟨rfl, rfl⟩

set_option maxHeartbeats 1000000 in
set_option maxRecDepth 100000 in
theorem sign2_13 (s x3 x2 x1 : ByteArray) (w : World) (e3 : s.extract 0 (min 3 (s.size : Int)).toNat = x3) (e2 : s.extract 0 (min 2 (s.size : Int)).toNat = x2) (e1 : s.extract 0 (min 1 (s.size : Int)).toNat = x1) (h3 : signs3.contains x3.toList = false) (h : x2.toList = [37, 61]) : Calls Tryd.prog 73 #[.string s] w fun e w' => e = .returned (.int .i64 2) ∧ w = w' := by
  have a0 := not_in h3 [60, 60, 61] (by decide)
  have a1 := not_in h3 [62, 62, 61] (by decide)
  have a2 := not_in h3 [38, 94, 61] (by decide)
  have a3 := not_in h3 [46, 46, 46] (by decide)
  clear h3
  go_enter Tryd.func73, Tryd.ntmps73
  go_wp2
  go_ret
  exact ⟨rfl, rfl⟩

set_option maxHeartbeats 1000000 in
set_option maxRecDepth 100000 in
theorem sign2_14 (s x3 x2 x1 : ByteArray) (w : World) (e3 : s.extract 0 (min 3 (s.size : Int)).toNat = x3) (e2 : s.extract 0 (min 2 (s.size : Int)).toNat = x2) (e1 : s.extract 0 (min 1 (s.size : Int)).toNat = x1) (h3 : signs3.contains x3.toList = false) (h : x2.toList = [38, 61]) : Calls Tryd.prog 73 #[.string s] w fun e w' => e = .returned (.int .i64 2) ∧ w = w' := by
  have a0 := not_in h3 [60, 60, 61] (by decide)
  have a1 := not_in h3 [62, 62, 61] (by decide)
  have a2 := not_in h3 [38, 94, 61] (by decide)
  have a3 := not_in h3 [46, 46, 46] (by decide)
  clear h3
  go_enter Tryd.func73, Tryd.ntmps73
  go_wp2
  go_ret
  exact ⟨rfl, rfl⟩

set_option maxHeartbeats 1000000 in
set_option maxRecDepth 100000 in
theorem sign2_15 (s x3 x2 x1 : ByteArray) (w : World) (e3 : s.extract 0 (min 3 (s.size : Int)).toNat = x3) (e2 : s.extract 0 (min 2 (s.size : Int)).toNat = x2) (e1 : s.extract 0 (min 1 (s.size : Int)).toNat = x1) (h3 : signs3.contains x3.toList = false) (h : x2.toList = [124, 61]) : Calls Tryd.prog 73 #[.string s] w fun e w' => e = .returned (.int .i64 2) ∧ w = w' := by
  have a0 := not_in h3 [60, 60, 61] (by decide)
  have a1 := not_in h3 [62, 62, 61] (by decide)
  have a2 := not_in h3 [38, 94, 61] (by decide)
  have a3 := not_in h3 [46, 46, 46] (by decide)
  clear h3
  go_enter Tryd.func73, Tryd.ntmps73
  go_wp2
  go_ret
  exact ⟨rfl, rfl⟩

set_option maxHeartbeats 1000000 in
set_option maxRecDepth 100000 in
theorem sign2_16 (s x3 x2 x1 : ByteArray) (w : World) (e3 : s.extract 0 (min 3 (s.size : Int)).toNat = x3) (e2 : s.extract 0 (min 2 (s.size : Int)).toNat = x2) (e1 : s.extract 0 (min 1 (s.size : Int)).toNat = x1) (h3 : signs3.contains x3.toList = false) (h : x2.toList = [94, 61]) : Calls Tryd.prog 73 #[.string s] w fun e w' => e = .returned (.int .i64 2) ∧ w = w' := by
  have a0 := not_in h3 [60, 60, 61] (by decide)
  have a1 := not_in h3 [62, 62, 61] (by decide)
  have a2 := not_in h3 [38, 94, 61] (by decide)
  have a3 := not_in h3 [46, 46, 46] (by decide)
  clear h3
  go_enter Tryd.func73, Tryd.ntmps73
  go_wp2
  go_ret
  exact ⟨rfl, rfl⟩

set_option maxHeartbeats 1000000 in
set_option maxRecDepth 100000 in
theorem sign2_17 (s x3 x2 x1 : ByteArray) (w : World) (e3 : s.extract 0 (min 3 (s.size : Int)).toNat = x3) (e2 : s.extract 0 (min 2 (s.size : Int)).toNat = x2) (e1 : s.extract 0 (min 1 (s.size : Int)).toNat = x1) (h3 : signs3.contains x3.toList = false) (h : x2.toList = [60, 60]) : Calls Tryd.prog 73 #[.string s] w fun e w' => e = .returned (.int .i64 2) ∧ w = w' := by
  have a0 := not_in h3 [60, 60, 61] (by decide)
  have a1 := not_in h3 [62, 62, 61] (by decide)
  have a2 := not_in h3 [38, 94, 61] (by decide)
  have a3 := not_in h3 [46, 46, 46] (by decide)
  clear h3
  go_enter Tryd.func73, Tryd.ntmps73
  go_wp2
  go_ret
  exact ⟨rfl, rfl⟩

set_option maxHeartbeats 1000000 in
set_option maxRecDepth 100000 in
theorem sign2_18 (s x3 x2 x1 : ByteArray) (w : World) (e3 : s.extract 0 (min 3 (s.size : Int)).toNat = x3) (e2 : s.extract 0 (min 2 (s.size : Int)).toNat = x2) (e1 : s.extract 0 (min 1 (s.size : Int)).toNat = x1) (h3 : signs3.contains x3.toList = false) (h : x2.toList = [62, 62]) : Calls Tryd.prog 73 #[.string s] w fun e w' => e = .returned (.int .i64 2) ∧ w = w' := by
  have a0 := not_in h3 [60, 60, 61] (by decide)
  have a1 := not_in h3 [62, 62, 61] (by decide)
  have a2 := not_in h3 [38, 94, 61] (by decide)
  have a3 := not_in h3 [46, 46, 46] (by decide)
  clear h3
  go_enter Tryd.func73, Tryd.ntmps73
  go_wp2
  go_ret
  exact ⟨rfl, rfl⟩

set_option maxHeartbeats 1000000 in
set_option maxRecDepth 100000 in
theorem sign2_19 (s x3 x2 x1 : ByteArray) (w : World) (e3 : s.extract 0 (min 3 (s.size : Int)).toNat = x3) (e2 : s.extract 0 (min 2 (s.size : Int)).toNat = x2) (e1 : s.extract 0 (min 1 (s.size : Int)).toNat = x1) (h3 : signs3.contains x3.toList = false) (h : x2.toList = [38, 94]) : Calls Tryd.prog 73 #[.string s] w fun e w' => e = .returned (.int .i64 2) ∧ w = w' := by
  have a0 := not_in h3 [60, 60, 61] (by decide)
  have a1 := not_in h3 [62, 62, 61] (by decide)
  have a2 := not_in h3 [38, 94, 61] (by decide)
  have a3 := not_in h3 [46, 46, 46] (by decide)
  clear h3
  go_enter Tryd.func73, Tryd.ntmps73
  go_wp2
  go_ret
  exact ⟨rfl, rfl⟩

set_option maxHeartbeats 1000000 in
set_option maxRecDepth 100000 in
theorem sign2_20 (s x3 x2 x1 : ByteArray) (w : World) (e3 : s.extract 0 (min 3 (s.size : Int)).toNat = x3) (e2 : s.extract 0 (min 2 (s.size : Int)).toNat = x2) (e1 : s.extract 0 (min 1 (s.size : Int)).toNat = x1) (h3 : signs3.contains x3.toList = false) (h : x2.toList = [60, 45]) : Calls Tryd.prog 73 #[.string s] w fun e w' => e = .returned (.int .i64 2) ∧ w = w' := by
  have a0 := not_in h3 [60, 60, 61] (by decide)
  have a1 := not_in h3 [62, 62, 61] (by decide)
  have a2 := not_in h3 [38, 94, 61] (by decide)
  have a3 := not_in h3 [46, 46, 46] (by decide)
  clear h3
  go_enter Tryd.func73, Tryd.ntmps73
  go_wp2
  go_ret
  exact ⟨rfl, rfl⟩

set_option maxHeartbeats 1000000 in
set_option maxRecDepth 100000 in
theorem sign1_0 (s x3 x2 x1 : ByteArray) (w : World) (e3 : s.extract 0 (min 3 (s.size : Int)).toNat = x3) (e2 : s.extract 0 (min 2 (s.size : Int)).toNat = x2) (e1 : s.extract 0 (min 1 (s.size : Int)).toNat = x1) (h3 : signs3.contains x3.toList = false) (h2 : signs2.contains x2.toList = false) (h : x1.toList = [43]) : Calls Tryd.prog 73 #[.string s] w fun e w' => e = .returned (.int .i64 1) ∧ w = w' := by
  have a0 := not_in h3 [60, 60, 61] (by decide)
  have a1 := not_in h3 [62, 62, 61] (by decide)
  have a2 := not_in h3 [38, 94, 61] (by decide)
  have a3 := not_in h3 [46, 46, 46] (by decide)
  have b0 := not_in h2 [38, 38] (by decide)
  have b1 := not_in h2 [124, 124] (by decide)
  have b2 := not_in h2 [61, 61] (by decide)
  have b3 := not_in h2 [33, 61] (by decide)
  have b4 := not_in h2 [60, 61] (by decide)
  have b5 := not_in h2 [62, 61] (by decide)
  have b6 := not_in h2 [58, 61] (by decide)
  have b7 := not_in h2 [43, 43] (by decide)
  have b8 := not_in h2 [45, 45] (by decide)
  have b9 := not_in h2 [43, 61] (by decide)
  have b10 := not_in h2 [45, 61] (by decide)
  have b11 := not_in h2 [42, 61] (by decide)
  have b12 := not_in h2 [47, 61] (by decide)
  have b13 := not_in h2 [37, 61] (by decide)
  have b14 := not_in h2 [38, 61] (by decide)
  have b15 := not_in h2 [124, 61] (by decide)
  have b16 := not_in h2 [94, 61] (by decide)
  have b17 := not_in h2 [60, 60] (by decide)
  have b18 := not_in h2 [62, 62] (by decide)
  have b19 := not_in h2 [38, 94] (by decide)
  have b20 := not_in h2 [60, 45] (by decide)
  clear h3 h2
  go_enter Tryd.func73, Tryd.ntmps73
  go_wp2
  go_ret
  exact ⟨rfl, rfl⟩

set_option maxHeartbeats 1000000 in
set_option maxRecDepth 100000 in
theorem sign1_1 (s x3 x2 x1 : ByteArray) (w : World) (e3 : s.extract 0 (min 3 (s.size : Int)).toNat = x3) (e2 : s.extract 0 (min 2 (s.size : Int)).toNat = x2) (e1 : s.extract 0 (min 1 (s.size : Int)).toNat = x1) (h3 : signs3.contains x3.toList = false) (h2 : signs2.contains x2.toList = false) (h : x1.toList = [45]) : Calls Tryd.prog 73 #[.string s] w fun e w' => e = .returned (.int .i64 1) ∧ w = w' := by
  have a0 := not_in h3 [60, 60, 61] (by decide)
  have a1 := not_in h3 [62, 62, 61] (by decide)
  have a2 := not_in h3 [38, 94, 61] (by decide)
  have a3 := not_in h3 [46, 46, 46] (by decide)
  have b0 := not_in h2 [38, 38] (by decide)
  have b1 := not_in h2 [124, 124] (by decide)
  have b2 := not_in h2 [61, 61] (by decide)
  have b3 := not_in h2 [33, 61] (by decide)
  have b4 := not_in h2 [60, 61] (by decide)
  have b5 := not_in h2 [62, 61] (by decide)
  have b6 := not_in h2 [58, 61] (by decide)
  have b7 := not_in h2 [43, 43] (by decide)
  have b8 := not_in h2 [45, 45] (by decide)
  have b9 := not_in h2 [43, 61] (by decide)
  have b10 := not_in h2 [45, 61] (by decide)
  have b11 := not_in h2 [42, 61] (by decide)
  have b12 := not_in h2 [47, 61] (by decide)
  have b13 := not_in h2 [37, 61] (by decide)
  have b14 := not_in h2 [38, 61] (by decide)
  have b15 := not_in h2 [124, 61] (by decide)
  have b16 := not_in h2 [94, 61] (by decide)
  have b17 := not_in h2 [60, 60] (by decide)
  have b18 := not_in h2 [62, 62] (by decide)
  have b19 := not_in h2 [38, 94] (by decide)
  have b20 := not_in h2 [60, 45] (by decide)
  clear h3 h2
  go_enter Tryd.func73, Tryd.ntmps73
  go_wp2
  go_ret
  exact ⟨rfl, rfl⟩

set_option maxHeartbeats 1000000 in
set_option maxRecDepth 100000 in
theorem sign1_2 (s x3 x2 x1 : ByteArray) (w : World) (e3 : s.extract 0 (min 3 (s.size : Int)).toNat = x3) (e2 : s.extract 0 (min 2 (s.size : Int)).toNat = x2) (e1 : s.extract 0 (min 1 (s.size : Int)).toNat = x1) (h3 : signs3.contains x3.toList = false) (h2 : signs2.contains x2.toList = false) (h : x1.toList = [42]) : Calls Tryd.prog 73 #[.string s] w fun e w' => e = .returned (.int .i64 1) ∧ w = w' := by
  have a0 := not_in h3 [60, 60, 61] (by decide)
  have a1 := not_in h3 [62, 62, 61] (by decide)
  have a2 := not_in h3 [38, 94, 61] (by decide)
  have a3 := not_in h3 [46, 46, 46] (by decide)
  have b0 := not_in h2 [38, 38] (by decide)
  have b1 := not_in h2 [124, 124] (by decide)
  have b2 := not_in h2 [61, 61] (by decide)
  have b3 := not_in h2 [33, 61] (by decide)
  have b4 := not_in h2 [60, 61] (by decide)
  have b5 := not_in h2 [62, 61] (by decide)
  have b6 := not_in h2 [58, 61] (by decide)
  have b7 := not_in h2 [43, 43] (by decide)
  have b8 := not_in h2 [45, 45] (by decide)
  have b9 := not_in h2 [43, 61] (by decide)
  have b10 := not_in h2 [45, 61] (by decide)
  have b11 := not_in h2 [42, 61] (by decide)
  have b12 := not_in h2 [47, 61] (by decide)
  have b13 := not_in h2 [37, 61] (by decide)
  have b14 := not_in h2 [38, 61] (by decide)
  have b15 := not_in h2 [124, 61] (by decide)
  have b16 := not_in h2 [94, 61] (by decide)
  have b17 := not_in h2 [60, 60] (by decide)
  have b18 := not_in h2 [62, 62] (by decide)
  have b19 := not_in h2 [38, 94] (by decide)
  have b20 := not_in h2 [60, 45] (by decide)
  clear h3 h2
  go_enter Tryd.func73, Tryd.ntmps73
  go_wp2
  go_ret
  exact ⟨rfl, rfl⟩

set_option maxHeartbeats 1000000 in
set_option maxRecDepth 100000 in
theorem sign1_3 (s x3 x2 x1 : ByteArray) (w : World) (e3 : s.extract 0 (min 3 (s.size : Int)).toNat = x3) (e2 : s.extract 0 (min 2 (s.size : Int)).toNat = x2) (e1 : s.extract 0 (min 1 (s.size : Int)).toNat = x1) (h3 : signs3.contains x3.toList = false) (h2 : signs2.contains x2.toList = false) (h : x1.toList = [47]) : Calls Tryd.prog 73 #[.string s] w fun e w' => e = .returned (.int .i64 1) ∧ w = w' := by
  have a0 := not_in h3 [60, 60, 61] (by decide)
  have a1 := not_in h3 [62, 62, 61] (by decide)
  have a2 := not_in h3 [38, 94, 61] (by decide)
  have a3 := not_in h3 [46, 46, 46] (by decide)
  have b0 := not_in h2 [38, 38] (by decide)
  have b1 := not_in h2 [124, 124] (by decide)
  have b2 := not_in h2 [61, 61] (by decide)
  have b3 := not_in h2 [33, 61] (by decide)
  have b4 := not_in h2 [60, 61] (by decide)
  have b5 := not_in h2 [62, 61] (by decide)
  have b6 := not_in h2 [58, 61] (by decide)
  have b7 := not_in h2 [43, 43] (by decide)
  have b8 := not_in h2 [45, 45] (by decide)
  have b9 := not_in h2 [43, 61] (by decide)
  have b10 := not_in h2 [45, 61] (by decide)
  have b11 := not_in h2 [42, 61] (by decide)
  have b12 := not_in h2 [47, 61] (by decide)
  have b13 := not_in h2 [37, 61] (by decide)
  have b14 := not_in h2 [38, 61] (by decide)
  have b15 := not_in h2 [124, 61] (by decide)
  have b16 := not_in h2 [94, 61] (by decide)
  have b17 := not_in h2 [60, 60] (by decide)
  have b18 := not_in h2 [62, 62] (by decide)
  have b19 := not_in h2 [38, 94] (by decide)
  have b20 := not_in h2 [60, 45] (by decide)
  clear h3 h2
  go_enter Tryd.func73, Tryd.ntmps73
  go_wp2
  go_ret
  exact ⟨rfl, rfl⟩

set_option maxHeartbeats 1000000 in
set_option maxRecDepth 100000 in
theorem sign1_4 (s x3 x2 x1 : ByteArray) (w : World) (e3 : s.extract 0 (min 3 (s.size : Int)).toNat = x3) (e2 : s.extract 0 (min 2 (s.size : Int)).toNat = x2) (e1 : s.extract 0 (min 1 (s.size : Int)).toNat = x1) (h3 : signs3.contains x3.toList = false) (h2 : signs2.contains x2.toList = false) (h : x1.toList = [37]) : Calls Tryd.prog 73 #[.string s] w fun e w' => e = .returned (.int .i64 1) ∧ w = w' := by
  have a0 := not_in h3 [60, 60, 61] (by decide)
  have a1 := not_in h3 [62, 62, 61] (by decide)
  have a2 := not_in h3 [38, 94, 61] (by decide)
  have a3 := not_in h3 [46, 46, 46] (by decide)
  have b0 := not_in h2 [38, 38] (by decide)
  have b1 := not_in h2 [124, 124] (by decide)
  have b2 := not_in h2 [61, 61] (by decide)
  have b3 := not_in h2 [33, 61] (by decide)
  have b4 := not_in h2 [60, 61] (by decide)
  have b5 := not_in h2 [62, 61] (by decide)
  have b6 := not_in h2 [58, 61] (by decide)
  have b7 := not_in h2 [43, 43] (by decide)
  have b8 := not_in h2 [45, 45] (by decide)
  have b9 := not_in h2 [43, 61] (by decide)
  have b10 := not_in h2 [45, 61] (by decide)
  have b11 := not_in h2 [42, 61] (by decide)
  have b12 := not_in h2 [47, 61] (by decide)
  have b13 := not_in h2 [37, 61] (by decide)
  have b14 := not_in h2 [38, 61] (by decide)
  have b15 := not_in h2 [124, 61] (by decide)
  have b16 := not_in h2 [94, 61] (by decide)
  have b17 := not_in h2 [60, 60] (by decide)
  have b18 := not_in h2 [62, 62] (by decide)
  have b19 := not_in h2 [38, 94] (by decide)
  have b20 := not_in h2 [60, 45] (by decide)
  clear h3 h2
  go_enter Tryd.func73, Tryd.ntmps73
  go_wp2
  go_ret
  exact ⟨rfl, rfl⟩

set_option maxHeartbeats 1000000 in
set_option maxRecDepth 100000 in
theorem sign1_5 (s x3 x2 x1 : ByteArray) (w : World) (e3 : s.extract 0 (min 3 (s.size : Int)).toNat = x3) (e2 : s.extract 0 (min 2 (s.size : Int)).toNat = x2) (e1 : s.extract 0 (min 1 (s.size : Int)).toNat = x1) (h3 : signs3.contains x3.toList = false) (h2 : signs2.contains x2.toList = false) (h : x1.toList = [38]) : Calls Tryd.prog 73 #[.string s] w fun e w' => e = .returned (.int .i64 1) ∧ w = w' := by
  have a0 := not_in h3 [60, 60, 61] (by decide)
  have a1 := not_in h3 [62, 62, 61] (by decide)
  have a2 := not_in h3 [38, 94, 61] (by decide)
  have a3 := not_in h3 [46, 46, 46] (by decide)
  have b0 := not_in h2 [38, 38] (by decide)
  have b1 := not_in h2 [124, 124] (by decide)
  have b2 := not_in h2 [61, 61] (by decide)
  have b3 := not_in h2 [33, 61] (by decide)
  have b4 := not_in h2 [60, 61] (by decide)
  have b5 := not_in h2 [62, 61] (by decide)
  have b6 := not_in h2 [58, 61] (by decide)
  have b7 := not_in h2 [43, 43] (by decide)
  have b8 := not_in h2 [45, 45] (by decide)
  have b9 := not_in h2 [43, 61] (by decide)
  have b10 := not_in h2 [45, 61] (by decide)
  have b11 := not_in h2 [42, 61] (by decide)
  have b12 := not_in h2 [47, 61] (by decide)
  have b13 := not_in h2 [37, 61] (by decide)
  have b14 := not_in h2 [38, 61] (by decide)
  have b15 := not_in h2 [124, 61] (by decide)
  have b16 := not_in h2 [94, 61] (by decide)
  have b17 := not_in h2 [60, 60] (by decide)
  have b18 := not_in h2 [62, 62] (by decide)
  have b19 := not_in h2 [38, 94] (by decide)
  have b20 := not_in h2 [60, 45] (by decide)
  clear h3 h2
  go_enter Tryd.func73, Tryd.ntmps73
  go_wp2
  go_ret
  exact ⟨rfl, rfl⟩

set_option maxHeartbeats 1000000 in
set_option maxRecDepth 100000 in
theorem sign1_6 (s x3 x2 x1 : ByteArray) (w : World) (e3 : s.extract 0 (min 3 (s.size : Int)).toNat = x3) (e2 : s.extract 0 (min 2 (s.size : Int)).toNat = x2) (e1 : s.extract 0 (min 1 (s.size : Int)).toNat = x1) (h3 : signs3.contains x3.toList = false) (h2 : signs2.contains x2.toList = false) (h : x1.toList = [124]) : Calls Tryd.prog 73 #[.string s] w fun e w' => e = .returned (.int .i64 1) ∧ w = w' := by
  have a0 := not_in h3 [60, 60, 61] (by decide)
  have a1 := not_in h3 [62, 62, 61] (by decide)
  have a2 := not_in h3 [38, 94, 61] (by decide)
  have a3 := not_in h3 [46, 46, 46] (by decide)
  have b0 := not_in h2 [38, 38] (by decide)
  have b1 := not_in h2 [124, 124] (by decide)
  have b2 := not_in h2 [61, 61] (by decide)
  have b3 := not_in h2 [33, 61] (by decide)
  have b4 := not_in h2 [60, 61] (by decide)
  have b5 := not_in h2 [62, 61] (by decide)
  have b6 := not_in h2 [58, 61] (by decide)
  have b7 := not_in h2 [43, 43] (by decide)
  have b8 := not_in h2 [45, 45] (by decide)
  have b9 := not_in h2 [43, 61] (by decide)
  have b10 := not_in h2 [45, 61] (by decide)
  have b11 := not_in h2 [42, 61] (by decide)
  have b12 := not_in h2 [47, 61] (by decide)
  have b13 := not_in h2 [37, 61] (by decide)
  have b14 := not_in h2 [38, 61] (by decide)
  have b15 := not_in h2 [124, 61] (by decide)
  have b16 := not_in h2 [94, 61] (by decide)
  have b17 := not_in h2 [60, 60] (by decide)
  have b18 := not_in h2 [62, 62] (by decide)
  have b19 := not_in h2 [38, 94] (by decide)
  have b20 := not_in h2 [60, 45] (by decide)
  clear h3 h2
  go_enter Tryd.func73, Tryd.ntmps73
  go_wp2
  go_ret
  exact ⟨rfl, rfl⟩

set_option maxHeartbeats 1000000 in
set_option maxRecDepth 100000 in
theorem sign1_7 (s x3 x2 x1 : ByteArray) (w : World) (e3 : s.extract 0 (min 3 (s.size : Int)).toNat = x3) (e2 : s.extract 0 (min 2 (s.size : Int)).toNat = x2) (e1 : s.extract 0 (min 1 (s.size : Int)).toNat = x1) (h3 : signs3.contains x3.toList = false) (h2 : signs2.contains x2.toList = false) (h : x1.toList = [94]) : Calls Tryd.prog 73 #[.string s] w fun e w' => e = .returned (.int .i64 1) ∧ w = w' := by
  have a0 := not_in h3 [60, 60, 61] (by decide)
  have a1 := not_in h3 [62, 62, 61] (by decide)
  have a2 := not_in h3 [38, 94, 61] (by decide)
  have a3 := not_in h3 [46, 46, 46] (by decide)
  have b0 := not_in h2 [38, 38] (by decide)
  have b1 := not_in h2 [124, 124] (by decide)
  have b2 := not_in h2 [61, 61] (by decide)
  have b3 := not_in h2 [33, 61] (by decide)
  have b4 := not_in h2 [60, 61] (by decide)
  have b5 := not_in h2 [62, 61] (by decide)
  have b6 := not_in h2 [58, 61] (by decide)
  have b7 := not_in h2 [43, 43] (by decide)
  have b8 := not_in h2 [45, 45] (by decide)
  have b9 := not_in h2 [43, 61] (by decide)
  have b10 := not_in h2 [45, 61] (by decide)
  have b11 := not_in h2 [42, 61] (by decide)
  have b12 := not_in h2 [47, 61] (by decide)
  have b13 := not_in h2 [37, 61] (by decide)
  have b14 := not_in h2 [38, 61] (by decide)
  have b15 := not_in h2 [124, 61] (by decide)
  have b16 := not_in h2 [94, 61] (by decide)
  have b17 := not_in h2 [60, 60] (by decide)
  have b18 := not_in h2 [62, 62] (by decide)
  have b19 := not_in h2 [38, 94] (by decide)
  have b20 := not_in h2 [60, 45] (by decide)
  clear h3 h2
  go_enter Tryd.func73, Tryd.ntmps73
  go_wp2
  go_ret
  exact ⟨rfl, rfl⟩

set_option maxHeartbeats 1000000 in
set_option maxRecDepth 100000 in
theorem sign1_8 (s x3 x2 x1 : ByteArray) (w : World) (e3 : s.extract 0 (min 3 (s.size : Int)).toNat = x3) (e2 : s.extract 0 (min 2 (s.size : Int)).toNat = x2) (e1 : s.extract 0 (min 1 (s.size : Int)).toNat = x1) (h3 : signs3.contains x3.toList = false) (h2 : signs2.contains x2.toList = false) (h : x1.toList = [60]) : Calls Tryd.prog 73 #[.string s] w fun e w' => e = .returned (.int .i64 1) ∧ w = w' := by
  have a0 := not_in h3 [60, 60, 61] (by decide)
  have a1 := not_in h3 [62, 62, 61] (by decide)
  have a2 := not_in h3 [38, 94, 61] (by decide)
  have a3 := not_in h3 [46, 46, 46] (by decide)
  have b0 := not_in h2 [38, 38] (by decide)
  have b1 := not_in h2 [124, 124] (by decide)
  have b2 := not_in h2 [61, 61] (by decide)
  have b3 := not_in h2 [33, 61] (by decide)
  have b4 := not_in h2 [60, 61] (by decide)
  have b5 := not_in h2 [62, 61] (by decide)
  have b6 := not_in h2 [58, 61] (by decide)
  have b7 := not_in h2 [43, 43] (by decide)
  have b8 := not_in h2 [45, 45] (by decide)
  have b9 := not_in h2 [43, 61] (by decide)
  have b10 := not_in h2 [45, 61] (by decide)
  have b11 := not_in h2 [42, 61] (by decide)
  have b12 := not_in h2 [47, 61] (by decide)
  have b13 := not_in h2 [37, 61] (by decide)
  have b14 := not_in h2 [38, 61] (by decide)
  have b15 := not_in h2 [124, 61] (by decide)
  have b16 := not_in h2 [94, 61] (by decide)
  have b17 := not_in h2 [60, 60] (by decide)
  have b18 := not_in h2 [62, 62] (by decide)
  have b19 := not_in h2 [38, 94] (by decide)
  have b20 := not_in h2 [60, 45] (by decide)
  clear h3 h2
  go_enter Tryd.func73, Tryd.ntmps73
  go_wp2
  go_ret
  exact ⟨rfl, rfl⟩

set_option maxHeartbeats 1000000 in
set_option maxRecDepth 100000 in
theorem sign1_9 (s x3 x2 x1 : ByteArray) (w : World) (e3 : s.extract 0 (min 3 (s.size : Int)).toNat = x3) (e2 : s.extract 0 (min 2 (s.size : Int)).toNat = x2) (e1 : s.extract 0 (min 1 (s.size : Int)).toNat = x1) (h3 : signs3.contains x3.toList = false) (h2 : signs2.contains x2.toList = false) (h : x1.toList = [62]) : Calls Tryd.prog 73 #[.string s] w fun e w' => e = .returned (.int .i64 1) ∧ w = w' := by
  have a0 := not_in h3 [60, 60, 61] (by decide)
  have a1 := not_in h3 [62, 62, 61] (by decide)
  have a2 := not_in h3 [38, 94, 61] (by decide)
  have a3 := not_in h3 [46, 46, 46] (by decide)
  have b0 := not_in h2 [38, 38] (by decide)
  have b1 := not_in h2 [124, 124] (by decide)
  have b2 := not_in h2 [61, 61] (by decide)
  have b3 := not_in h2 [33, 61] (by decide)
  have b4 := not_in h2 [60, 61] (by decide)
  have b5 := not_in h2 [62, 61] (by decide)
  have b6 := not_in h2 [58, 61] (by decide)
  have b7 := not_in h2 [43, 43] (by decide)
  have b8 := not_in h2 [45, 45] (by decide)
  have b9 := not_in h2 [43, 61] (by decide)
  have b10 := not_in h2 [45, 61] (by decide)
  have b11 := not_in h2 [42, 61] (by decide)
  have b12 := not_in h2 [47, 61] (by decide)
  have b13 := not_in h2 [37, 61] (by decide)
  have b14 := not_in h2 [38, 61] (by decide)
  have b15 := not_in h2 [124, 61] (by decide)
  have b16 := not_in h2 [94, 61] (by decide)
  have b17 := not_in h2 [60, 60] (by decide)
  have b18 := not_in h2 [62, 62] (by decide)
  have b19 := not_in h2 [38, 94] (by decide)
  have b20 := not_in h2 [60, 45] (by decide)
  clear h3 h2
  go_enter Tryd.func73, Tryd.ntmps73
  go_wp2
  go_ret
  exact ⟨rfl, rfl⟩

set_option maxHeartbeats 1000000 in
set_option maxRecDepth 100000 in
theorem sign1_10 (s x3 x2 x1 : ByteArray) (w : World) (e3 : s.extract 0 (min 3 (s.size : Int)).toNat = x3) (e2 : s.extract 0 (min 2 (s.size : Int)).toNat = x2) (e1 : s.extract 0 (min 1 (s.size : Int)).toNat = x1) (h3 : signs3.contains x3.toList = false) (h2 : signs2.contains x2.toList = false) (h : x1.toList = [61]) : Calls Tryd.prog 73 #[.string s] w fun e w' => e = .returned (.int .i64 1) ∧ w = w' := by
  have a0 := not_in h3 [60, 60, 61] (by decide)
  have a1 := not_in h3 [62, 62, 61] (by decide)
  have a2 := not_in h3 [38, 94, 61] (by decide)
  have a3 := not_in h3 [46, 46, 46] (by decide)
  have b0 := not_in h2 [38, 38] (by decide)
  have b1 := not_in h2 [124, 124] (by decide)
  have b2 := not_in h2 [61, 61] (by decide)
  have b3 := not_in h2 [33, 61] (by decide)
  have b4 := not_in h2 [60, 61] (by decide)
  have b5 := not_in h2 [62, 61] (by decide)
  have b6 := not_in h2 [58, 61] (by decide)
  have b7 := not_in h2 [43, 43] (by decide)
  have b8 := not_in h2 [45, 45] (by decide)
  have b9 := not_in h2 [43, 61] (by decide)
  have b10 := not_in h2 [45, 61] (by decide)
  have b11 := not_in h2 [42, 61] (by decide)
  have b12 := not_in h2 [47, 61] (by decide)
  have b13 := not_in h2 [37, 61] (by decide)
  have b14 := not_in h2 [38, 61] (by decide)
  have b15 := not_in h2 [124, 61] (by decide)
  have b16 := not_in h2 [94, 61] (by decide)
  have b17 := not_in h2 [60, 60] (by decide)
  have b18 := not_in h2 [62, 62] (by decide)
  have b19 := not_in h2 [38, 94] (by decide)
  have b20 := not_in h2 [60, 45] (by decide)
  clear h3 h2
  go_enter Tryd.func73, Tryd.ntmps73
  go_wp2
  go_ret
  exact ⟨rfl, rfl⟩

set_option maxHeartbeats 1000000 in
set_option maxRecDepth 100000 in
theorem sign1_11 (s x3 x2 x1 : ByteArray) (w : World) (e3 : s.extract 0 (min 3 (s.size : Int)).toNat = x3) (e2 : s.extract 0 (min 2 (s.size : Int)).toNat = x2) (e1 : s.extract 0 (min 1 (s.size : Int)).toNat = x1) (h3 : signs3.contains x3.toList = false) (h2 : signs2.contains x2.toList = false) (h : x1.toList = [33]) : Calls Tryd.prog 73 #[.string s] w fun e w' => e = .returned (.int .i64 1) ∧ w = w' := by
  have a0 := not_in h3 [60, 60, 61] (by decide)
  have a1 := not_in h3 [62, 62, 61] (by decide)
  have a2 := not_in h3 [38, 94, 61] (by decide)
  have a3 := not_in h3 [46, 46, 46] (by decide)
  have b0 := not_in h2 [38, 38] (by decide)
  have b1 := not_in h2 [124, 124] (by decide)
  have b2 := not_in h2 [61, 61] (by decide)
  have b3 := not_in h2 [33, 61] (by decide)
  have b4 := not_in h2 [60, 61] (by decide)
  have b5 := not_in h2 [62, 61] (by decide)
  have b6 := not_in h2 [58, 61] (by decide)
  have b7 := not_in h2 [43, 43] (by decide)
  have b8 := not_in h2 [45, 45] (by decide)
  have b9 := not_in h2 [43, 61] (by decide)
  have b10 := not_in h2 [45, 61] (by decide)
  have b11 := not_in h2 [42, 61] (by decide)
  have b12 := not_in h2 [47, 61] (by decide)
  have b13 := not_in h2 [37, 61] (by decide)
  have b14 := not_in h2 [38, 61] (by decide)
  have b15 := not_in h2 [124, 61] (by decide)
  have b16 := not_in h2 [94, 61] (by decide)
  have b17 := not_in h2 [60, 60] (by decide)
  have b18 := not_in h2 [62, 62] (by decide)
  have b19 := not_in h2 [38, 94] (by decide)
  have b20 := not_in h2 [60, 45] (by decide)
  clear h3 h2
  go_enter Tryd.func73, Tryd.ntmps73
  go_wp2
  go_ret
  exact ⟨rfl, rfl⟩

set_option maxHeartbeats 1000000 in
set_option maxRecDepth 100000 in
theorem sign1_12 (s x3 x2 x1 : ByteArray) (w : World) (e3 : s.extract 0 (min 3 (s.size : Int)).toNat = x3) (e2 : s.extract 0 (min 2 (s.size : Int)).toNat = x2) (e1 : s.extract 0 (min 1 (s.size : Int)).toNat = x1) (h3 : signs3.contains x3.toList = false) (h2 : signs2.contains x2.toList = false) (h : x1.toList = [40]) : Calls Tryd.prog 73 #[.string s] w fun e w' => e = .returned (.int .i64 1) ∧ w = w' := by
  have a0 := not_in h3 [60, 60, 61] (by decide)
  have a1 := not_in h3 [62, 62, 61] (by decide)
  have a2 := not_in h3 [38, 94, 61] (by decide)
  have a3 := not_in h3 [46, 46, 46] (by decide)
  have b0 := not_in h2 [38, 38] (by decide)
  have b1 := not_in h2 [124, 124] (by decide)
  have b2 := not_in h2 [61, 61] (by decide)
  have b3 := not_in h2 [33, 61] (by decide)
  have b4 := not_in h2 [60, 61] (by decide)
  have b5 := not_in h2 [62, 61] (by decide)
  have b6 := not_in h2 [58, 61] (by decide)
  have b7 := not_in h2 [43, 43] (by decide)
  have b8 := not_in h2 [45, 45] (by decide)
  have b9 := not_in h2 [43, 61] (by decide)
  have b10 := not_in h2 [45, 61] (by decide)
  have b11 := not_in h2 [42, 61] (by decide)
  have b12 := not_in h2 [47, 61] (by decide)
  have b13 := not_in h2 [37, 61] (by decide)
  have b14 := not_in h2 [38, 61] (by decide)
  have b15 := not_in h2 [124, 61] (by decide)
  have b16 := not_in h2 [94, 61] (by decide)
  have b17 := not_in h2 [60, 60] (by decide)
  have b18 := not_in h2 [62, 62] (by decide)
  have b19 := not_in h2 [38, 94] (by decide)
  have b20 := not_in h2 [60, 45] (by decide)
  clear h3 h2
  go_enter Tryd.func73, Tryd.ntmps73
  go_wp2
  go_ret
  exact ⟨rfl, rfl⟩

set_option maxHeartbeats 1000000 in
set_option maxRecDepth 100000 in
theorem sign1_13 (s x3 x2 x1 : ByteArray) (w : World) (e3 : s.extract 0 (min 3 (s.size : Int)).toNat = x3) (e2 : s.extract 0 (min 2 (s.size : Int)).toNat = x2) (e1 : s.extract 0 (min 1 (s.size : Int)).toNat = x1) (h3 : signs3.contains x3.toList = false) (h2 : signs2.contains x2.toList = false) (h : x1.toList = [41]) : Calls Tryd.prog 73 #[.string s] w fun e w' => e = .returned (.int .i64 1) ∧ w = w' := by
  have a0 := not_in h3 [60, 60, 61] (by decide)
  have a1 := not_in h3 [62, 62, 61] (by decide)
  have a2 := not_in h3 [38, 94, 61] (by decide)
  have a3 := not_in h3 [46, 46, 46] (by decide)
  have b0 := not_in h2 [38, 38] (by decide)
  have b1 := not_in h2 [124, 124] (by decide)
  have b2 := not_in h2 [61, 61] (by decide)
  have b3 := not_in h2 [33, 61] (by decide)
  have b4 := not_in h2 [60, 61] (by decide)
  have b5 := not_in h2 [62, 61] (by decide)
  have b6 := not_in h2 [58, 61] (by decide)
  have b7 := not_in h2 [43, 43] (by decide)
  have b8 := not_in h2 [45, 45] (by decide)
  have b9 := not_in h2 [43, 61] (by decide)
  have b10 := not_in h2 [45, 61] (by decide)
  have b11 := not_in h2 [42, 61] (by decide)
  have b12 := not_in h2 [47, 61] (by decide)
  have b13 := not_in h2 [37, 61] (by decide)
  have b14 := not_in h2 [38, 61] (by decide)
  have b15 := not_in h2 [124, 61] (by decide)
  have b16 := not_in h2 [94, 61] (by decide)
  have b17 := not_in h2 [60, 60] (by decide)
  have b18 := not_in h2 [62, 62] (by decide)
  have b19 := not_in h2 [38, 94] (by decide)
  have b20 := not_in h2 [60, 45] (by decide)
  clear h3 h2
  go_enter Tryd.func73, Tryd.ntmps73
  go_wp2
  go_ret
  exact ⟨rfl, rfl⟩

set_option maxHeartbeats 1000000 in
set_option maxRecDepth 100000 in
theorem sign1_14 (s x3 x2 x1 : ByteArray) (w : World) (e3 : s.extract 0 (min 3 (s.size : Int)).toNat = x3) (e2 : s.extract 0 (min 2 (s.size : Int)).toNat = x2) (e1 : s.extract 0 (min 1 (s.size : Int)).toNat = x1) (h3 : signs3.contains x3.toList = false) (h2 : signs2.contains x2.toList = false) (h : x1.toList = [91]) : Calls Tryd.prog 73 #[.string s] w fun e w' => e = .returned (.int .i64 1) ∧ w = w' := by
  have a0 := not_in h3 [60, 60, 61] (by decide)
  have a1 := not_in h3 [62, 62, 61] (by decide)
  have a2 := not_in h3 [38, 94, 61] (by decide)
  have a3 := not_in h3 [46, 46, 46] (by decide)
  have b0 := not_in h2 [38, 38] (by decide)
  have b1 := not_in h2 [124, 124] (by decide)
  have b2 := not_in h2 [61, 61] (by decide)
  have b3 := not_in h2 [33, 61] (by decide)
  have b4 := not_in h2 [60, 61] (by decide)
  have b5 := not_in h2 [62, 61] (by decide)
  have b6 := not_in h2 [58, 61] (by decide)
  have b7 := not_in h2 [43, 43] (by decide)
  have b8 := not_in h2 [45, 45] (by decide)
  have b9 := not_in h2 [43, 61] (by decide)
  have b10 := not_in h2 [45, 61] (by decide)
  have b11 := not_in h2 [42, 61] (by decide)
  have b12 := not_in h2 [47, 61] (by decide)
  have b13 := not_in h2 [37, 61] (by decide)
  have b14 := not_in h2 [38, 61] (by decide)
  have b15 := not_in h2 [124, 61] (by decide)
  have b16 := not_in h2 [94, 61] (by decide)
  have b17 := not_in h2 [60, 60] (by decide)
  have b18 := not_in h2 [62, 62] (by decide)
  have b19 := not_in h2 [38, 94] (by decide)
  have b20 := not_in h2 [60, 45] (by decide)
  clear h3 h2
  go_enter Tryd.func73, Tryd.ntmps73
  go_wp2
  go_ret
  exact ⟨rfl, rfl⟩

set_option maxHeartbeats 1000000 in
set_option maxRecDepth 100000 in
theorem sign1_15 (s x3 x2 x1 : ByteArray) (w : World) (e3 : s.extract 0 (min 3 (s.size : Int)).toNat = x3) (e2 : s.extract 0 (min 2 (s.size : Int)).toNat = x2) (e1 : s.extract 0 (min 1 (s.size : Int)).toNat = x1) (h3 : signs3.contains x3.toList = false) (h2 : signs2.contains x2.toList = false) (h : x1.toList = [93]) : Calls Tryd.prog 73 #[.string s] w fun e w' => e = .returned (.int .i64 1) ∧ w = w' := by
  have a0 := not_in h3 [60, 60, 61] (by decide)
  have a1 := not_in h3 [62, 62, 61] (by decide)
  have a2 := not_in h3 [38, 94, 61] (by decide)
  have a3 := not_in h3 [46, 46, 46] (by decide)
  have b0 := not_in h2 [38, 38] (by decide)
  have b1 := not_in h2 [124, 124] (by decide)
  have b2 := not_in h2 [61, 61] (by decide)
  have b3 := not_in h2 [33, 61] (by decide)
  have b4 := not_in h2 [60, 61] (by decide)
  have b5 := not_in h2 [62, 61] (by decide)
  have b6 := not_in h2 [58, 61] (by decide)
  have b7 := not_in h2 [43, 43] (by decide)
  have b8 := not_in h2 [45, 45] (by decide)
  have b9 := not_in h2 [43, 61] (by decide)
  have b10 := not_in h2 [45, 61] (by decide)
  have b11 := not_in h2 [42, 61] (by decide)
  have b12 := not_in h2 [47, 61] (by decide)
  have b13 := not_in h2 [37, 61] (by decide)
  have b14 := not_in h2 [38, 61] (by decide)
  have b15 := not_in h2 [124, 61] (by decide)
  have b16 := not_in h2 [94, 61] (by decide)
  have b17 := not_in h2 [60, 60] (by decide)
  have b18 := not_in h2 [62, 62] (by decide)
  have b19 := not_in h2 [38, 94] (by decide)
  have b20 := not_in h2 [60, 45] (by decide)
  clear h3 h2
  go_enter Tryd.func73, Tryd.ntmps73
  go_wp2
  go_ret
  exact ⟨rfl, rfl⟩

set_option maxHeartbeats 1000000 in
set_option maxRecDepth 100000 in
theorem sign1_16 (s x3 x2 x1 : ByteArray) (w : World) (e3 : s.extract 0 (min 3 (s.size : Int)).toNat = x3) (e2 : s.extract 0 (min 2 (s.size : Int)).toNat = x2) (e1 : s.extract 0 (min 1 (s.size : Int)).toNat = x1) (h3 : signs3.contains x3.toList = false) (h2 : signs2.contains x2.toList = false) (h : x1.toList = [123]) : Calls Tryd.prog 73 #[.string s] w fun e w' => e = .returned (.int .i64 1) ∧ w = w' := by
  have a0 := not_in h3 [60, 60, 61] (by decide)
  have a1 := not_in h3 [62, 62, 61] (by decide)
  have a2 := not_in h3 [38, 94, 61] (by decide)
  have a3 := not_in h3 [46, 46, 46] (by decide)
  have b0 := not_in h2 [38, 38] (by decide)
  have b1 := not_in h2 [124, 124] (by decide)
  have b2 := not_in h2 [61, 61] (by decide)
  have b3 := not_in h2 [33, 61] (by decide)
  have b4 := not_in h2 [60, 61] (by decide)
  have b5 := not_in h2 [62, 61] (by decide)
  have b6 := not_in h2 [58, 61] (by decide)
  have b7 := not_in h2 [43, 43] (by decide)
  have b8 := not_in h2 [45, 45] (by decide)
  have b9 := not_in h2 [43, 61] (by decide)
  have b10 := not_in h2 [45, 61] (by decide)
  have b11 := not_in h2 [42, 61] (by decide)
  have b12 := not_in h2 [47, 61] (by decide)
  have b13 := not_in h2 [37, 61] (by decide)
  have b14 := not_in h2 [38, 61] (by decide)
  have b15 := not_in h2 [124, 61] (by decide)
  have b16 := not_in h2 [94, 61] (by decide)
  have b17 := not_in h2 [60, 60] (by decide)
  have b18 := not_in h2 [62, 62] (by decide)
  have b19 := not_in h2 [38, 94] (by decide)
  have b20 := not_in h2 [60, 45] (by decide)
  clear h3 h2
  go_enter Tryd.func73, Tryd.ntmps73
  go_wp2
  go_ret
  exact ⟨rfl, rfl⟩

set_option maxHeartbeats 1000000 in
set_option maxRecDepth 100000 in
theorem sign1_17 (s x3 x2 x1 : ByteArray) (w : World) (e3 : s.extract 0 (min 3 (s.size : Int)).toNat = x3) (e2 : s.extract 0 (min 2 (s.size : Int)).toNat = x2) (e1 : s.extract 0 (min 1 (s.size : Int)).toNat = x1) (h3 : signs3.contains x3.toList = false) (h2 : signs2.contains x2.toList = false) (h : x1.toList = [125]) : Calls Tryd.prog 73 #[.string s] w fun e w' => e = .returned (.int .i64 1) ∧ w = w' := by
  have a0 := not_in h3 [60, 60, 61] (by decide)
  have a1 := not_in h3 [62, 62, 61] (by decide)
  have a2 := not_in h3 [38, 94, 61] (by decide)
  have a3 := not_in h3 [46, 46, 46] (by decide)
  have b0 := not_in h2 [38, 38] (by decide)
  have b1 := not_in h2 [124, 124] (by decide)
  have b2 := not_in h2 [61, 61] (by decide)
  have b3 := not_in h2 [33, 61] (by decide)
  have b4 := not_in h2 [60, 61] (by decide)
  have b5 := not_in h2 [62, 61] (by decide)
  have b6 := not_in h2 [58, 61] (by decide)
  have b7 := not_in h2 [43, 43] (by decide)
  have b8 := not_in h2 [45, 45] (by decide)
  have b9 := not_in h2 [43, 61] (by decide)
  have b10 := not_in h2 [45, 61] (by decide)
  have b11 := not_in h2 [42, 61] (by decide)
  have b12 := not_in h2 [47, 61] (by decide)
  have b13 := not_in h2 [37, 61] (by decide)
  have b14 := not_in h2 [38, 61] (by decide)
  have b15 := not_in h2 [124, 61] (by decide)
  have b16 := not_in h2 [94, 61] (by decide)
  have b17 := not_in h2 [60, 60] (by decide)
  have b18 := not_in h2 [62, 62] (by decide)
  have b19 := not_in h2 [38, 94] (by decide)
  have b20 := not_in h2 [60, 45] (by decide)
  clear h3 h2
  go_enter Tryd.func73, Tryd.ntmps73
  go_wp2
  go_ret
  exact ⟨rfl, rfl⟩

set_option maxHeartbeats 1000000 in
set_option maxRecDepth 100000 in
theorem sign1_18 (s x3 x2 x1 : ByteArray) (w : World) (e3 : s.extract 0 (min 3 (s.size : Int)).toNat = x3) (e2 : s.extract 0 (min 2 (s.size : Int)).toNat = x2) (e1 : s.extract 0 (min 1 (s.size : Int)).toNat = x1) (h3 : signs3.contains x3.toList = false) (h2 : signs2.contains x2.toList = false) (h : x1.toList = [44]) : Calls Tryd.prog 73 #[.string s] w fun e w' => e = .returned (.int .i64 1) ∧ w = w' := by
  have a0 := not_in h3 [60, 60, 61] (by decide)
  have a1 := not_in h3 [62, 62, 61] (by decide)
  have a2 := not_in h3 [38, 94, 61] (by decide)
  have a3 := not_in h3 [46, 46, 46] (by decide)
  have b0 := not_in h2 [38, 38] (by decide)
  have b1 := not_in h2 [124, 124] (by decide)
  have b2 := not_in h2 [61, 61] (by decide)
  have b3 := not_in h2 [33, 61] (by decide)
  have b4 := not_in h2 [60, 61] (by decide)
  have b5 := not_in h2 [62, 61] (by decide)
  have b6 := not_in h2 [58, 61] (by decide)
  have b7 := not_in h2 [43, 43] (by decide)
  have b8 := not_in h2 [45, 45] (by decide)
  have b9 := not_in h2 [43, 61] (by decide)
  have b10 := not_in h2 [45, 61] (by decide)
  have b11 := not_in h2 [42, 61] (by decide)
  have b12 := not_in h2 [47, 61] (by decide)
  have b13 := not_in h2 [37, 61] (by decide)
  have b14 := not_in h2 [38, 61] (by decide)
  have b15 := not_in h2 [124, 61] (by decide)
  have b16 := not_in h2 [94, 61] (by decide)
  have b17 := not_in h2 [60, 60] (by decide)
  have b18 := not_in h2 [62, 62] (by decide)
  have b19 := not_in h2 [38, 94] (by decide)
  have b20 := not_in h2 [60, 45] (by decide)
  clear h3 h2
  go_enter Tryd.func73, Tryd.ntmps73
  go_wp2
  go_ret
  exact ⟨rfl, rfl⟩

set_option maxHeartbeats 1000000 in
set_option maxRecDepth 100000 in
theorem sign1_19 (s x3 x2 x1 : ByteArray) (w : World) (e3 : s.extract 0 (min 3 (s.size : Int)).toNat = x3) (e2 : s.extract 0 (min 2 (s.size : Int)).toNat = x2) (e1 : s.extract 0 (min 1 (s.size : Int)).toNat = x1) (h3 : signs3.contains x3.toList = false) (h2 : signs2.contains x2.toList = false) (h : x1.toList = [59]) : Calls Tryd.prog 73 #[.string s] w fun e w' => e = .returned (.int .i64 1) ∧ w = w' := by
  have a0 := not_in h3 [60, 60, 61] (by decide)
  have a1 := not_in h3 [62, 62, 61] (by decide)
  have a2 := not_in h3 [38, 94, 61] (by decide)
  have a3 := not_in h3 [46, 46, 46] (by decide)
  have b0 := not_in h2 [38, 38] (by decide)
  have b1 := not_in h2 [124, 124] (by decide)
  have b2 := not_in h2 [61, 61] (by decide)
  have b3 := not_in h2 [33, 61] (by decide)
  have b4 := not_in h2 [60, 61] (by decide)
  have b5 := not_in h2 [62, 61] (by decide)
  have b6 := not_in h2 [58, 61] (by decide)
  have b7 := not_in h2 [43, 43] (by decide)
  have b8 := not_in h2 [45, 45] (by decide)
  have b9 := not_in h2 [43, 61] (by decide)
  have b10 := not_in h2 [45, 61] (by decide)
  have b11 := not_in h2 [42, 61] (by decide)
  have b12 := not_in h2 [47, 61] (by decide)
  have b13 := not_in h2 [37, 61] (by decide)
  have b14 := not_in h2 [38, 61] (by decide)
  have b15 := not_in h2 [124, 61] (by decide)
  have b16 := not_in h2 [94, 61] (by decide)
  have b17 := not_in h2 [60, 60] (by decide)
  have b18 := not_in h2 [62, 62] (by decide)
  have b19 := not_in h2 [38, 94] (by decide)
  have b20 := not_in h2 [60, 45] (by decide)
  clear h3 h2
  go_enter Tryd.func73, Tryd.ntmps73
  go_wp2
  go_ret
  exact ⟨rfl, rfl⟩

set_option maxHeartbeats 1000000 in
set_option maxRecDepth 100000 in
theorem sign1_20 (s x3 x2 x1 : ByteArray) (w : World) (e3 : s.extract 0 (min 3 (s.size : Int)).toNat = x3) (e2 : s.extract 0 (min 2 (s.size : Int)).toNat = x2) (e1 : s.extract 0 (min 1 (s.size : Int)).toNat = x1) (h3 : signs3.contains x3.toList = false) (h2 : signs2.contains x2.toList = false) (h : x1.toList = [46]) : Calls Tryd.prog 73 #[.string s] w fun e w' => e = .returned (.int .i64 1) ∧ w = w' := by
  have a0 := not_in h3 [60, 60, 61] (by decide)
  have a1 := not_in h3 [62, 62, 61] (by decide)
  have a2 := not_in h3 [38, 94, 61] (by decide)
  have a3 := not_in h3 [46, 46, 46] (by decide)
  have b0 := not_in h2 [38, 38] (by decide)
  have b1 := not_in h2 [124, 124] (by decide)
  have b2 := not_in h2 [61, 61] (by decide)
  have b3 := not_in h2 [33, 61] (by decide)
  have b4 := not_in h2 [60, 61] (by decide)
  have b5 := not_in h2 [62, 61] (by decide)
  have b6 := not_in h2 [58, 61] (by decide)
  have b7 := not_in h2 [43, 43] (by decide)
  have b8 := not_in h2 [45, 45] (by decide)
  have b9 := not_in h2 [43, 61] (by decide)
  have b10 := not_in h2 [45, 61] (by decide)
  have b11 := not_in h2 [42, 61] (by decide)
  have b12 := not_in h2 [47, 61] (by decide)
  have b13 := not_in h2 [37, 61] (by decide)
  have b14 := not_in h2 [38, 61] (by decide)
  have b15 := not_in h2 [124, 61] (by decide)
  have b16 := not_in h2 [94, 61] (by decide)
  have b17 := not_in h2 [60, 60] (by decide)
  have b18 := not_in h2 [62, 62] (by decide)
  have b19 := not_in h2 [38, 94] (by decide)
  have b20 := not_in h2 [60, 45] (by decide)
  clear h3 h2
  go_enter Tryd.func73, Tryd.ntmps73
  go_wp2
  go_ret
  exact ⟨rfl, rfl⟩

set_option maxHeartbeats 1000000 in
set_option maxRecDepth 100000 in
theorem sign1_21 (s x3 x2 x1 : ByteArray) (w : World) (e3 : s.extract 0 (min 3 (s.size : Int)).toNat = x3) (e2 : s.extract 0 (min 2 (s.size : Int)).toNat = x2) (e1 : s.extract 0 (min 1 (s.size : Int)).toNat = x1) (h3 : signs3.contains x3.toList = false) (h2 : signs2.contains x2.toList = false) (h : x1.toList = [58]) : Calls Tryd.prog 73 #[.string s] w fun e w' => e = .returned (.int .i64 1) ∧ w = w' := by
  have a0 := not_in h3 [60, 60, 61] (by decide)
  have a1 := not_in h3 [62, 62, 61] (by decide)
  have a2 := not_in h3 [38, 94, 61] (by decide)
  have a3 := not_in h3 [46, 46, 46] (by decide)
  have b0 := not_in h2 [38, 38] (by decide)
  have b1 := not_in h2 [124, 124] (by decide)
  have b2 := not_in h2 [61, 61] (by decide)
  have b3 := not_in h2 [33, 61] (by decide)
  have b4 := not_in h2 [60, 61] (by decide)
  have b5 := not_in h2 [62, 61] (by decide)
  have b6 := not_in h2 [58, 61] (by decide)
  have b7 := not_in h2 [43, 43] (by decide)
  have b8 := not_in h2 [45, 45] (by decide)
  have b9 := not_in h2 [43, 61] (by decide)
  have b10 := not_in h2 [45, 61] (by decide)
  have b11 := not_in h2 [42, 61] (by decide)
  have b12 := not_in h2 [47, 61] (by decide)
  have b13 := not_in h2 [37, 61] (by decide)
  have b14 := not_in h2 [38, 61] (by decide)
  have b15 := not_in h2 [124, 61] (by decide)
  have b16 := not_in h2 [94, 61] (by decide)
  have b17 := not_in h2 [60, 60] (by decide)
  have b18 := not_in h2 [62, 62] (by decide)
  have b19 := not_in h2 [38, 94] (by decide)
  have b20 := not_in h2 [60, 45] (by decide)
  clear h3 h2
  go_enter Tryd.func73, Tryd.ntmps73
  go_wp2
  go_ret
  exact ⟨rfl, rfl⟩

set_option maxHeartbeats 1000000 in
set_option maxRecDepth 100000 in
theorem sign1_22 (s x3 x2 x1 : ByteArray) (w : World) (e3 : s.extract 0 (min 3 (s.size : Int)).toNat = x3) (e2 : s.extract 0 (min 2 (s.size : Int)).toNat = x2) (e1 : s.extract 0 (min 1 (s.size : Int)).toNat = x1) (h3 : signs3.contains x3.toList = false) (h2 : signs2.contains x2.toList = false) (h : x1.toList = [126]) : Calls Tryd.prog 73 #[.string s] w fun e w' => e = .returned (.int .i64 1) ∧ w = w' := by
  have a0 := not_in h3 [60, 60, 61] (by decide)
  have a1 := not_in h3 [62, 62, 61] (by decide)
  have a2 := not_in h3 [38, 94, 61] (by decide)
  have a3 := not_in h3 [46, 46, 46] (by decide)
  have b0 := not_in h2 [38, 38] (by decide)
  have b1 := not_in h2 [124, 124] (by decide)
  have b2 := not_in h2 [61, 61] (by decide)
  have b3 := not_in h2 [33, 61] (by decide)
  have b4 := not_in h2 [60, 61] (by decide)
  have b5 := not_in h2 [62, 61] (by decide)
  have b6 := not_in h2 [58, 61] (by decide)
  have b7 := not_in h2 [43, 43] (by decide)
  have b8 := not_in h2 [45, 45] (by decide)
  have b9 := not_in h2 [43, 61] (by decide)
  have b10 := not_in h2 [45, 61] (by decide)
  have b11 := not_in h2 [42, 61] (by decide)
  have b12 := not_in h2 [47, 61] (by decide)
  have b13 := not_in h2 [37, 61] (by decide)
  have b14 := not_in h2 [38, 61] (by decide)
  have b15 := not_in h2 [124, 61] (by decide)
  have b16 := not_in h2 [94, 61] (by decide)
  have b17 := not_in h2 [60, 60] (by decide)
  have b18 := not_in h2 [62, 62] (by decide)
  have b19 := not_in h2 [38, 94] (by decide)
  have b20 := not_in h2 [60, 45] (by decide)
  clear h3 h2
  go_enter Tryd.func73, Tryd.ntmps73
  go_wp2
  go_ret
  exact ⟨rfl, rfl⟩

set_option maxHeartbeats 1000000 in
set_option maxRecDepth 100000 in
theorem sign0 (s x3 x2 x1 : ByteArray) (w : World) (e3 : s.extract 0 (min 3 (s.size : Int)).toNat = x3) (e2 : s.extract 0 (min 2 (s.size : Int)).toNat = x2) (e1 : s.extract 0 (min 1 (s.size : Int)).toNat = x1) (h3 : signs3.contains x3.toList = false) (h2 : signs2.contains x2.toList = false) (h1 : signs1.contains x1.toList = false) : Calls Tryd.prog 73 #[.string s] w fun e w' => e = .returned (.int .i64 0) ∧ w = w' := by
  have a0 := not_in h3 [60, 60, 61] (by decide)
  have a1 := not_in h3 [62, 62, 61] (by decide)
  have a2 := not_in h3 [38, 94, 61] (by decide)
  have a3 := not_in h3 [46, 46, 46] (by decide)
  have b0 := not_in h2 [38, 38] (by decide)
  have b1 := not_in h2 [124, 124] (by decide)
  have b2 := not_in h2 [61, 61] (by decide)
  have b3 := not_in h2 [33, 61] (by decide)
  have b4 := not_in h2 [60, 61] (by decide)
  have b5 := not_in h2 [62, 61] (by decide)
  have b6 := not_in h2 [58, 61] (by decide)
  have b7 := not_in h2 [43, 43] (by decide)
  have b8 := not_in h2 [45, 45] (by decide)
  have b9 := not_in h2 [43, 61] (by decide)
  have b10 := not_in h2 [45, 61] (by decide)
  have b11 := not_in h2 [42, 61] (by decide)
  have b12 := not_in h2 [47, 61] (by decide)
  have b13 := not_in h2 [37, 61] (by decide)
  have b14 := not_in h2 [38, 61] (by decide)
  have b15 := not_in h2 [124, 61] (by decide)
  have b16 := not_in h2 [94, 61] (by decide)
  have b17 := not_in h2 [60, 60] (by decide)
  have b18 := not_in h2 [62, 62] (by decide)
  have b19 := not_in h2 [38, 94] (by decide)
  have b20 := not_in h2 [60, 45] (by decide)
  have c0 := not_in h1 [43] (by decide)
  have c1 := not_in h1 [45] (by decide)
  have c2 := not_in h1 [42] (by decide)
  have c3 := not_in h1 [47] (by decide)
  have c4 := not_in h1 [37] (by decide)
  have c5 := not_in h1 [38] (by decide)
  have c6 := not_in h1 [124] (by decide)
  have c7 := not_in h1 [94] (by decide)
  have c8 := not_in h1 [60] (by decide)
  have c9 := not_in h1 [62] (by decide)
  have c10 := not_in h1 [61] (by decide)
  have c11 := not_in h1 [33] (by decide)
  have c12 := not_in h1 [40] (by decide)
  have c13 := not_in h1 [41] (by decide)
  have c14 := not_in h1 [91] (by decide)
  have c15 := not_in h1 [93] (by decide)
  have c16 := not_in h1 [123] (by decide)
  have c17 := not_in h1 [125] (by decide)
  have c18 := not_in h1 [44] (by decide)
  have c19 := not_in h1 [59] (by decide)
  have c20 := not_in h1 [46] (by decide)
  have c21 := not_in h1 [58] (by decide)
  have c22 := not_in h1 [126] (by decide)
  clear h3 h2 h1
  go_enter Tryd.func73, Tryd.ntmps73
  go_wp2
  go_ret
  exact ⟨rfl, rfl⟩

theorem signSize_any (s : ByteArray) (w : World) : Calls Tryd.prog 73 #[.string s] w fun e w' => e = .returned (.int .i64 (signN s)) ∧ w = w' := by
  have e3 := pre_int s 3
  have e2 := pre_int s 2
  have e1 := pre_int s 1
  unfold signN
  cases h3 : signs3.contains (pre s 3).toList
  · cases h2 : signs2.contains (pre s 2).toList
    · cases h1 : signs1.contains (pre s 1).toList
      · exact sign0 s _ _ _ w e3 e2 e1 h3 h2 h1
      · have h := mem_contains h1
        simp only [signs1, List.mem_cons, List.not_mem_nil, or_false] at h
        rcases h with h | h | h | h | h | h | h | h | h | h | h | h | h | h | h | h | h | h | h | h | h | h | h
        · exact sign1_0 s _ _ _ w e3 e2 e1 h3 h2 h
        · exact sign1_1 s _ _ _ w e3 e2 e1 h3 h2 h
        · exact sign1_2 s _ _ _ w e3 e2 e1 h3 h2 h
        · exact sign1_3 s _ _ _ w e3 e2 e1 h3 h2 h
        · exact sign1_4 s _ _ _ w e3 e2 e1 h3 h2 h
        · exact sign1_5 s _ _ _ w e3 e2 e1 h3 h2 h
        · exact sign1_6 s _ _ _ w e3 e2 e1 h3 h2 h
        · exact sign1_7 s _ _ _ w e3 e2 e1 h3 h2 h
        · exact sign1_8 s _ _ _ w e3 e2 e1 h3 h2 h
        · exact sign1_9 s _ _ _ w e3 e2 e1 h3 h2 h
        · exact sign1_10 s _ _ _ w e3 e2 e1 h3 h2 h
        · exact sign1_11 s _ _ _ w e3 e2 e1 h3 h2 h
        · exact sign1_12 s _ _ _ w e3 e2 e1 h3 h2 h
        · exact sign1_13 s _ _ _ w e3 e2 e1 h3 h2 h
        · exact sign1_14 s _ _ _ w e3 e2 e1 h3 h2 h
        · exact sign1_15 s _ _ _ w e3 e2 e1 h3 h2 h
        · exact sign1_16 s _ _ _ w e3 e2 e1 h3 h2 h
        · exact sign1_17 s _ _ _ w e3 e2 e1 h3 h2 h
        · exact sign1_18 s _ _ _ w e3 e2 e1 h3 h2 h
        · exact sign1_19 s _ _ _ w e3 e2 e1 h3 h2 h
        · exact sign1_20 s _ _ _ w e3 e2 e1 h3 h2 h
        · exact sign1_21 s _ _ _ w e3 e2 e1 h3 h2 h
        · exact sign1_22 s _ _ _ w e3 e2 e1 h3 h2 h
    · have h := mem_contains h2
      simp only [signs2, List.mem_cons, List.not_mem_nil, or_false] at h
      rcases h with h | h | h | h | h | h | h | h | h | h | h | h | h | h | h | h | h | h | h | h | h
      · exact sign2_0 s _ _ _ w e3 e2 e1 h3 h
      · exact sign2_1 s _ _ _ w e3 e2 e1 h3 h
      · exact sign2_2 s _ _ _ w e3 e2 e1 h3 h
      · exact sign2_3 s _ _ _ w e3 e2 e1 h3 h
      · exact sign2_4 s _ _ _ w e3 e2 e1 h3 h
      · exact sign2_5 s _ _ _ w e3 e2 e1 h3 h
      · exact sign2_6 s _ _ _ w e3 e2 e1 h3 h
      · exact sign2_7 s _ _ _ w e3 e2 e1 h3 h
      · exact sign2_8 s _ _ _ w e3 e2 e1 h3 h
      · exact sign2_9 s _ _ _ w e3 e2 e1 h3 h
      · exact sign2_10 s _ _ _ w e3 e2 e1 h3 h
      · exact sign2_11 s _ _ _ w e3 e2 e1 h3 h
      · exact sign2_12 s _ _ _ w e3 e2 e1 h3 h
      · exact sign2_13 s _ _ _ w e3 e2 e1 h3 h
      · exact sign2_14 s _ _ _ w e3 e2 e1 h3 h
      · exact sign2_15 s _ _ _ w e3 e2 e1 h3 h
      · exact sign2_16 s _ _ _ w e3 e2 e1 h3 h
      · exact sign2_17 s _ _ _ w e3 e2 e1 h3 h
      · exact sign2_18 s _ _ _ w e3 e2 e1 h3 h
      · exact sign2_19 s _ _ _ w e3 e2 e1 h3 h
      · exact sign2_20 s _ _ _ w e3 e2 e1 h3 h
  · have h := mem_contains h3
    simp only [signs3, List.mem_cons, List.not_mem_nil, or_false] at h
    rcases h with h | h | h | h
    · exact sign3_0 s _ _ _ w e3 e2 e1 h
    · exact sign3_1 s _ _ _ w e3 e2 e1 h
    · exact sign3_2 s _ _ _ w e3 e2 e1 h
    · exact sign3_3 s _ _ _ w e3 e2 e1 h
end Go.Proofs.YtijinpnbhnfiiaaDoor
