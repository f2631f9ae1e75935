/- package tag: which signs stand in a tag; what is taken; what must be. -/
import Derived.Test.YtojdhlmmnhjolaaDoorTag1
import Derived.Test.YtojdhlmmnhjolaaDoorTag5
namespace Go.Proofs.YtojdhlmmnhjolaaDoor
open Go.RowKit
set_option linter.unusedVariables false

/-- But one block b, all that was there stands. -/
structure But (b : Nat) (w w' : World) : Prop where
  os : w'.os = w.os
  tape : w'.tape = w.tape
  output : w'.output = w.output
  size : w.heap.size ≤ w'.heap.size
  block : ∀ k, k < w.heap.size → k ≠ b → w'.heap[k]? = w.heap[k]?
theorem But.refl (b : Nat) (w : World) : But b w w := ⟨rfl, rfl, rfl, Nat.le_refl _, fun _ _ _ => rfl⟩
theorem But.trans {b : Nat} {u v w : World} (h : But b u v) (k : But b v w) : But b u w :=
  ⟨k.os.trans h.os, k.tape.trans h.tape, k.output.trans h.output, Nat.le_trans h.size k.size, fun i hi hb => (k.block i (Nat.lt_of_lt_of_le hi h.size) hb).trans (h.block i hi hb)⟩
theorem But.of_below {b : Nat} {w w' : World} (h : Below w.heap.size w w') : But b w w' := ⟨h.os, h.tape, h.output, h.size, fun k hk _ => h.block k hk⟩
theorem But.below {b B : Nat} {w w' : World} (h : But b w w') (hb : B ≤ b) (hB : B ≤ w.heap.size) : Below B w w' := ⟨h.os, h.tape, h.output, h.size, fun k hk => h.block k (by omega) (by omega)⟩
theorem But.setCell {b : Nat} {u w : World} (h : But b u w) {a : Addr} (hk : u.heap.size ≤ a.block ∨ a.block = b) (v : Value) : But b u (w.setCell a v) :=
  ⟨h.os, h.tape, h.output, by have := h.size; simpa [World.setCell] using this, fun i hi hb => (Below.heap_setCell w a v i (by omega)).trans (h.block i hi hb)⟩
theorem But.alloc {b : Nat} {u w : World} (h : But b u w) (o : Obj) : But b u (w.alloc o) :=
  ⟨h.os, h.tape, h.output, by have := h.size; simp; omega, fun i hi hb => (Below.heap_alloc w o i (Nat.lt_of_lt_of_le hi h.size)).trans (h.block i hi hb)⟩
theorem one_cell {w : World} {b : Nat} {x : Value} {t : TypeId} (h : w.heap[b]? = some (.cells #[x] t (0, 0))) : w.cell? ⟨b, 0, none⟩ = some x ∧ w.frozen? ⟨b, 0, none⟩ = false := by
  simp [World.cell?, World.frozen?, h]
theorem one_set {w : World} {b : Nat} {x u : Value} {t : TypeId} (h : w.heap[b]? = some (.cells #[x] t (0, 0))) : (w.setCell ⟨b, 0, none⟩ u).heap[b]? = some (.cells #[u] t (0, 0)) := by
  have hlt := lt_of_block h
  have h' : w.heap[b] = .cells #[x] t (0, 0) := by simpa [Array.getElem?_eq_getElem hlt] using h
  show (w.heap.modify b _)[b]? = _
  rw [Array.getElem?_eq_getElem (by simpa using hlt), Array.getElem_modify_self, h']
  rfl

theorem tbl_cases (n : Nat) : (tblN n = true ∧ ((n : Int) == 32) = true) ∨ (tblN n = true ∧ ((n : Int) == 32) = false ∧ ((n : Int) == 9) = true) ∨ (tblN n = false ∧ ((n : Int) == 32) = false ∧ ((n : Int) == 9) = false) := by
  unfold tblN
  simp only [Bool.or_eq_true, Bool.or_eq_false_iff, beq_iff_eq, beq_eq_false_iff_ne]
  omega
set_option maxRecDepth 100000 in
theorem tblank_any (n : Nat) (h : n ≤ 1114111) (w : World) : Calls Tryd.prog 60 #[.int .i32 n] w fun e w' => e = .returned (.bool (tblN n)) ∧ ∃ q, w' = w.drewN q := by
  rcases tbl_cases n with ⟨e, h1⟩ | ⟨e, h1, h2⟩ | ⟨e, h1, h2⟩
  all_goals
    rw [e]
    go_enter Tryd.func60, Tryd.ntmps60
    go_wp2
    go_ret
    exact ⟨rfl, 0, rfl⟩

theorem tag_cases (n : Nat) : (tagN n = true ∧ decide ((97 : Int) ≤ (n : Int)) = true ∧ decide ((n : Int) ≤ 122) = true) ∨
    (tagN n = false ∧ decide ((97 : Int) ≤ (n : Int)) = true ∧ decide ((n : Int) ≤ 122) = false ∧ decide ((65 : Int) ≤ (n : Int)) = true ∧ decide ((n : Int) ≤ 90) = false ∧ decide ((48 : Int) ≤ (n : Int)) = true ∧ decide ((n : Int) ≤ 57) = false ∧ ((n : Int) == 95) = false ∧ ((n : Int) == 46) = false) ∨
    (tagN n = true ∧ decide ((97 : Int) ≤ (n : Int)) = false ∧ decide ((65 : Int) ≤ (n : Int)) = true ∧ decide ((n : Int) ≤ 90) = true) ∨
    (tagN n = false ∧ decide ((97 : Int) ≤ (n : Int)) = false ∧ decide ((65 : Int) ≤ (n : Int)) = true ∧ decide ((n : Int) ≤ 90) = false ∧ decide ((48 : Int) ≤ (n : Int)) = true ∧ decide ((n : Int) ≤ 57) = false ∧ ((n : Int) == 95) = false ∧ ((n : Int) == 46) = false) ∨
    (tagN n = true ∧ decide ((97 : Int) ≤ (n : Int)) = false ∧ decide ((65 : Int) ≤ (n : Int)) = true ∧ decide ((n : Int) ≤ 90) = false ∧ decide ((48 : Int) ≤ (n : Int)) = true ∧ decide ((n : Int) ≤ 57) = false ∧ ((n : Int) == 95) = true) ∨
    (tagN n = true ∧ decide ((97 : Int) ≤ (n : Int)) = false ∧ decide ((65 : Int) ≤ (n : Int)) = false ∧ decide ((48 : Int) ≤ (n : Int)) = true ∧ decide ((n : Int) ≤ 57) = true) ∨
    (tagN n = false ∧ decide ((97 : Int) ≤ (n : Int)) = false ∧ decide ((65 : Int) ≤ (n : Int)) = false ∧ decide ((48 : Int) ≤ (n : Int)) = true ∧ decide ((n : Int) ≤ 57) = false ∧ ((n : Int) == 95) = false ∧ ((n : Int) == 46) = false) ∨
    (tagN n = false ∧ decide ((97 : Int) ≤ (n : Int)) = false ∧ decide ((65 : Int) ≤ (n : Int)) = false ∧ decide ((48 : Int) ≤ (n : Int)) = false ∧ ((n : Int) == 95) = false ∧ ((n : Int) == 46) = false) ∨
    (tagN n = true ∧ decide ((97 : Int) ≤ (n : Int)) = false ∧ decide ((65 : Int) ≤ (n : Int)) = false ∧ decide ((48 : Int) ≤ (n : Int)) = false ∧ ((n : Int) == 95) = false ∧ ((n : Int) == 46) = true) := by
  by_cases a1 : 97 ≤ n
  · by_cases a2 : n ≤ 122
    · exact .inl ⟨by simp [tagN, a1, a2], by simp; omega, by simp; omega⟩
    · exact .inr (.inl ⟨by simp [tagN]; omega, by simp; omega, by simp; omega, by simp; omega, by simp; omega, by simp; omega, by simp; omega, by simp; omega, by simp; omega⟩)
  by_cases a3 : 65 ≤ n
  · by_cases a4 : n ≤ 90
    · exact .inr (.inr (.inl ⟨by simp [tagN, a3, a4], by simp; omega, by simp; omega, by simp; omega⟩))
    by_cases a5 : n = 95
    · exact .inr (.inr (.inr (.inr (.inl ⟨by simp [tagN, a5], by simp; omega, by simp; omega, by simp; omega, by simp; omega, by simp; omega, by simp; omega⟩))))
    · exact .inr (.inr (.inr (.inl ⟨by simp [tagN]; omega, by simp; omega, by simp; omega, by simp; omega, by simp; omega, by simp; omega, by simp; omega, by simp; omega⟩)))
  by_cases a6 : 48 ≤ n
  · by_cases a7 : n ≤ 57
    · exact .inr (.inr (.inr (.inr (.inr (.inl ⟨by simp [tagN, a6, a7], by simp; omega, by simp; omega, by simp; omega, by simp; omega⟩)))))
    · exact .inr (.inr (.inr (.inr (.inr (.inr (.inl ⟨by simp [tagN]; omega, by simp; omega, by simp; omega, by simp; omega, by simp; omega, by simp; omega, by simp; omega⟩))))))
  by_cases a8 : n = 46
  · exact .inr (.inr (.inr (.inr (.inr (.inr (.inr (.inr ⟨by simp [tagN, a8], by simp; omega, by simp; omega, by simp; omega, by simp; omega, by simp; omega⟩)))))))
  · exact .inr (.inr (.inr (.inr (.inr (.inr (.inr (.inl ⟨by simp [tagN]; omega, by simp; omega, by simp; omega, by simp; omega, by simp; omega, by simp; omega⟩)))))))
set_option maxRecDepth 100000 in
theorem inTag_any (n : Nat) (h : n ≤ 1114111) (w : World) : Calls Tryd.prog 41 #[.int .i32 n] w fun e w' => e = .returned (.bool (tagN n)) ∧ ∃ q, w' = w.drewN q := by
  have hc := tag_cases n
  rcases hc with ⟨e, h1, h2⟩ | ⟨e, h1, h2, h3, h4, h5, h6, h7, h8⟩ | ⟨e, h1, h3, h4⟩ | ⟨e, h1, h3, h4, h5, h6, h7, h8⟩ | ⟨e, h1, h3, h4, h5, h6, h7⟩ | ⟨e, h1, h3, h5, h6⟩ | ⟨e, h1, h3, h5, h6, h7, h8⟩ | ⟨e, h1, h3, h5, h7, h8⟩ | ⟨e, h1, h3, h5, h7, h8⟩
  all_goals
    rw [e]
    clear h
    go_enter Tryd.func41, Tryd.ntmps41
    go_wp2
    go_ret
    exact ⟨rfl, 0, rfl⟩
theorem tblank_enters : ∀ args W, (callFunc 60 args).run Tryd.prog W = .ok (.enter 60 args) W := fun args W => by kernel_rfl
theorem inTag_enters : ∀ args W, (callFunc 41 args).run Tryd.prog W = .ok (.enter 41 args) W := fun args W => by kernel_rfl
theorem row_tbl (s : ByteArray) (w : World) (hs : s.size ≤ 4294967296) : Calls Tryd.prog 40 #[.string s, .func (.func 60) #[] #[]] w fun e w' => e = .returned (.int .i64 (rowN tblN s)) ∧ Below w.heap.size w w' :=
  trow_any _ tblN tblN_big tblank_enters s w hs (fun W x hx _ => tblank_any x hx W)
theorem row_tag (s : ByteArray) (w : World) (hs : s.size ≤ 4294967296) : Calls Tryd.prog 40 #[.string s, .func (.func 41) #[] #[]] w fun e w' => e = .returned (.int .i64 (rowN tagN s)) ∧ Below w.heap.size w w' :=
  trow_any _ tagN tagN_big inTag_enters s w hs (fun W x hx _ => inTag_any x hx W)

/-! ### must -/
def wrongE : Ending := .panicked [{ v := .iface 62 (.agg #[]), recovered := false }]
theorem must_t (w : World) : Calls Tryd.prog 39 #[.bool true] w fun e w' => e = .returned (.tuple #[]) ∧ w = w' := by
  go_enter Tryd.func39, Tryd.ntmps39
  go_wp2
  refine bodyPost_end (results_none rfl _ _ _) rfl ?_
  exact ⟨rfl, rfl⟩
theorem must_f (w : World) : Calls Tryd.prog 39 #[.bool false] w fun e w' => e = .panicked [{ v := .iface 62 (.agg #[]), recovered := false }] ∧ w = w' := by
  go_enter Tryd.func39, Tryd.ntmps39
  go_wp2
  exact ⟨rfl, rfl, rfl⟩

/-! ### The reader -/
def RdAt (b : Nat) (s : ByteArray) (w : World) : Prop := w.heap[b]? = some (.cells #[.string s] 65 (0, 0))
def takeB (sign s : ByteArray) : Bool × ByteArray := (hasPre (s.extract (rowN tblN s) s.size) sign, behind (s.extract (rowN tblN s) s.size) sign)
theorem takeB_list (sign s : ByteArray) : (takeB sign s).1 = (takeS (ls sign) (ls s)).1 ∧ ls (takeB sign s).2 = (takeS (ls sign) (ls s)).2 := by
  have e : ls (s.extract (rowN tblN s) s.size) = (ls s).drop ((ls s).takeWhile tblB).length := Lib.extract_to_end s _
  unfold takeB takeS behind
  rw [hasPre_list, e]
  by_cases h : (ls sign).isPrefixOf ((ls s).drop ((ls s).takeWhile tblB).length) = true
  · rw [if_pos h, if_pos h]
    refine ⟨h, ?_⟩
    show ls ((s.extract (rowN tblN s) s.size).extract sign.size (s.extract (rowN tblN s) s.size).size) = _
    rw [show ls ((s.extract (rowN tblN s) s.size).extract sign.size (s.extract (rowN tblN s) s.size).size) = (ls (s.extract (rowN tblN s) s.size)).drop sign.size from Lib.extract_to_end _ _, e, ls_len]
  · rw [if_neg h, if_neg h]
    refine ⟨?_, e⟩
    exact Bool.eq_false_iff.2 h
theorem takeB_size (sign s : ByteArray) : (takeB sign s).2.size ≤ s.size := by
  rw [← ls_len, ← ls_len, (takeB_list sign s).2]
  exact takeS_le _ _

set_option maxRecDepth 100000 in
theorem take_any (b : Nat) (s sign : ByteArray) (w : World) (hs : s.size ≤ 3000000) (h : RdAt b s w) : Calls Tryd.prog 57 #[.pointer (some ⟨b, 0, none⟩), .string sign] w fun e w' => e = .returned (.bool (takeB sign s).1) ∧ RdAt b (takeB sign s).2 w' ∧ But b w w' := by
  have c1 := fun w => row_tbl s w (by omega)
  have hk := rowN_le tblN s
  unfold takeB
  obtain ⟨k, hke⟩ : ∃ k, rowN tblN s = k := ⟨_, rfl⟩
  rw [hke] at c1 hk ⊢
  have c2 : ∀ w, Calls Tryd.prog 42 #[.string (s.extract k s.size), .string sign] w fun e w' => e = .returned (.tuple #[.string (behind (s.extract k s.size) sign), .bool (hasPre (s.extract k s.size) sign)]) ∧ Below w.heap.size w w' := fun w => (cutPrefix_any (s.extract k s.size) sign w).mono fun e w' h => ⟨h.1, by rw [← h.2]; exact Below.refl _ _⟩
  generalize hasPre (s.extract k s.size) sign = ok at *
  generalize behind (s.extract k s.size) sign = t at *
  obtain ⟨d0, z0⟩ := one_cell h
  have H := Lib.hid h
  have f1 : (0 : Int) ≤ (k : Int) := by omega
  have f2 : (k : Int) ≤ (s.size : Int) := by omega
  have key : ∀ w1, Below w.heap.size w w1 → RdAt b t (w1.setCell ⟨b, 0, none⟩ (.string t)) ∧ But b w (w1.setCell ⟨b, 0, none⟩ (.string t)) ∧ w1.cell? ⟨b, 0, none⟩ = some (.string s) ∧ w1.frozen? ⟨b, 0, none⟩ = false := fun w1 hb => by
    have h1 : w1.heap[b]? = _ := (hb.block b (lt_of_block H.out)).trans H.out
    exact ⟨one_set h1, But.setCell (b := b) (a := ⟨b, 0, none⟩) (.of_below hb) (.inr rfl) _, one_cell h1⟩
  have KEY := Lib.hid key
  have hmx : Tryd.prog.follows .mixedOrders = true := by kernel_rfl
  clear key h hs hk hke
  go_enter Tryd.func57, Tryd.ntmps57
  go_wp2_with fail
  have hk0 := fun x : Kept w => Kept.cell d0 x
  refine wp_region_kept hmx (by kernel_rfl) ?_
  repeat (go_big_quiet_step (first | (go_at_call 40; exact kept_call (c1 _)) | (go_at_call 42; exact kept_call (c2 _))))
  refine wpQuiet_nil ?_
  rintro _ ⟨v, rfl⟩
  obtain ⟨k1, k2, k3, k4⟩ := KEY.out v.W v.h
  have K1 := Lib.hid (And.intro k1 k2)
  generalize v.W = W1 at *
  clear k1 k2 d0 z0 hk0
  go_wp2_with fail
  go_ret
  exact ⟨rfl, K1.out.1, K1.out.2⟩
end Go.Proofs.YtojdhlmmnhjolaaDoor
