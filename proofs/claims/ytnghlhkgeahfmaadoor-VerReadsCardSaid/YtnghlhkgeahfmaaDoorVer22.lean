/- The document's answer: a version's text. -/
import Derived.Test.YtnghlhkgeahfmaaDoorVer20
namespace Go.Proofs.YtnghlhkgeahfmaaDoor
open Go.RowKit
set_option linter.unusedVariables false

def figsD : ByteArray := ⟨#[48, 49, 50, 51, 52, 53, 54, 55, 56, 57]⟩
theorem figsD_at : ∀ k : Fin 10, figsD.extract k.val (k.val + 1) = ⟨#[UInt8.ofNat (48 + k.val)]⟩ := by decide +kernel
theorem app_mk (a b : List UInt8) : (⟨a.toArray⟩ : ByteArray) ++ ⟨b.toArray⟩ = ⟨(a ++ b).toArray⟩ := by
  apply ls_inj
  rw [ls_app]

set_option maxRecDepth 100000 in
theorem refText_any (m : Int) (h0 : -9223372036854775808 ≤ m) (h1 : m ≤ 9223372036854775807) (w : World) : Calls Tryd.prog 15 #[.int .i64 m] w fun e w' => e = .returned (.string (textV m)) ∧ Below w.heap.size w w' := by
  by_cases a : m < 0
  · have e : textV m = ⟨#[]⟩ := by unfold textV; rw [if_pos (.inl a)]; rfl
    rw [e]
    clear e
    go_enter Tryd.func15, Tryd.ntmps15
    go_wp2
    go_ret
    exact ⟨rfl, Below.refl _ _⟩
  by_cases b : 99 < m
  · have e : textV m = ⟨#[]⟩ := by unfold textV; rw [if_pos (.inr b)]; rfl
    rw [e]
    clear e
    go_enter Tryd.func15, Tryd.ntmps15
    go_wp2
    go_ret
    exact ⟨rfl, Below.refl _ _⟩
  obtain ⟨k, rfl⟩ : ∃ k : Nat, m = k := ⟨m.toNat, by omega⟩
  have hk : k < 100 := by omega
  rw [textV_dig k hk]
  have g1 : decide ((k : Int) < 0) = false := by simp
  have g2 : decide ((99 : Int) < (k : Int)) = false := by simp; omega
  have hmx : Tryd.prog.follows .mixedOrders = true := by kernel_rfl
  by_cases c : k < 10
  · have g3 : decide ((k : Int) < 10) = true := by simp; omega
    have f1 : (k : Int) + 1 ≤ 10 := by omega
    have f2 : (0 : Int) ≤ (k : Int) := by omega
    have hx := figsD_at ⟨k, c⟩
    have K1 := fun w => run_string_add_sum (P := Tryd.prog) w ⟨#[49, 46]⟩ (figsD.extract k (k + 1)) (by rw [hx]; show 2 + 1 ≤ _; omega)
    have hd : Hid ((⟨#[49, 46]⟩ : ByteArray) ++ figsD.extract k (k + 1) = ⟨(49 :: 46 :: digL k).toArray⟩) := by
      show _ = _
      rw [hx]
      show (⟨[49, 46].toArray⟩ : ByteArray) ++ ⟨[UInt8.ofNat (48 + k)].toArray⟩ = _
      rw [app_mk]
      unfold digL
      rw [if_pos c]; rfl
    unfold figsD at K1 hd
    clear a b h0 h1 hk c hx
    go_enter Tryd.func15, Tryd.ntmps15
    go_wp2
    go_ret
    rw [← hd.out]
    exact ⟨rfl, Below.refl _ _⟩
  · have g3 : decide ((k : Int) < 10) = false := by simp; omega
    obtain ⟨q, hq⟩ : ∃ q, q = k / 10 := ⟨_, rfl⟩
    obtain ⟨r, hr⟩ : ∃ r, r = k % 10 := ⟨_, rfl⟩
    have q1 : (k : Int) / 10 = (q : Int) := by omega
    have r1 : (k : Int) % 10 = (r : Int) := by omega
    have hq9 : q < 10 := by omega
    have hr9 : r < 10 := by omega
    have f1 : (q : Int) + 1 ≤ 10 := by omega
    have f2 : (0 : Int) ≤ (q : Int) := by omega
    have f3 : (r : Int) + 1 ≤ 10 := by omega
    have f4 : (0 : Int) ≤ (r : Int) := by omega
    have hx := figsD_at ⟨q, hq9⟩
    have hy := figsD_at ⟨r, hr9⟩
    have K1 := fun w => run_string_add_sum (P := Tryd.prog) w ⟨#[49, 46]⟩ (figsD.extract q (q + 1)) (by rw [hx]; show 2 + 1 ≤ _; omega)
    have K2 := fun w => run_string_add_sum (P := Tryd.prog) w (⟨#[49, 46]⟩ ++ figsD.extract q (q + 1)) (figsD.extract r (r + 1)) (by rw [size_app, hx, hy]; show 2 + 1 + 1 ≤ _; omega)
    have hd : Hid ((⟨#[49, 46]⟩ : ByteArray) ++ figsD.extract q (q + 1) ++ figsD.extract r (r + 1) = ⟨(49 :: 46 :: digL k).toArray⟩) := by
      show _ = _
      rw [hx, hy]
      show (⟨[49, 46].toArray⟩ : ByteArray) ++ ⟨[UInt8.ofNat (48 + q)].toArray⟩ ++ ⟨[UInt8.ofNat (48 + r)].toArray⟩ = _
      rw [app_mk, app_mk]
      unfold digL
      rw [if_neg c, hq, hr]; rfl
    unfold figsD at K1 K2 hd
    have Q0 : (0 : Int) ≤ (k : Int) := by omega
    clear a b h0 h1 hk c hx hy hq hr hq9 hr9
    go_enter Tryd.func15, Tryd.ntmps15
    go_wp2_with fail
    go_quiet (fail)
    go_wp2
    go_ret
    rw [← hd.out]
    exact ⟨rfl, Go.Proofs.below_drewN' (Below.refl _ _) _⟩
end Go.Proofs.YtnghlhkgeahfmaaDoor
