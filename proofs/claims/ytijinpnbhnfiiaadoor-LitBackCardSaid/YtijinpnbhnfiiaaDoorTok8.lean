/- package token: a token taken. -/
import Derived.Test.YtijinpnbhnfiiaaDoorTok7
namespace Go.Proofs.YtijinpnbhnfiiaaDoor
open Go.RowKit Go.Joins

/-- The scanner with one token more. -/
theorem sc_putT {w w' : World} {b base : Nat} {text : ByteArray} {at_ : Nat} {vt vn v' : Value} {toks notes : List Tk} (h : Sc w b base text at_ vt vn toks notes) (tn : Tk) (hk : tn.kind ≠ 0)
    (hg : w.grownBy w' vt.ownBlock) (hown : w'.ownsRow base 35 3 v' (toks.length + 1) (cellsOf toks ++ tn.cells)) :
    w'.heap[b]? = some (.cells #[.string text, .int .i64 at_, vt, vn] 55 (0, 0)) ∧
    Sc (w'.setCell ⟨b, 2, none⟩ v') b base text at_ v' vn (toks ++ [tn]) notes ∧ Keeps base b w (w'.setCell ⟨b, 2, none⟩ v') := by
  have hbox : w'.heap[b]? = some (.cells #[.string text, .int .i64 at_, vt, vn] 55 (0, 0)) := by
    have hlt := lt_of_block h.box
    rw [hg.block b hlt (fun e => h.off.1 e.symm)]
    exact h.box
  have off' : v'.ownBlock ≠ some b := fun e => by
    obtain ⟨c, fz, hc⟩ := Lib.ownsRow_kind hown b e
    rw [hbox] at hc
    injection hc with hc; injection hc with _ hc; revert hc; decide
  have hap : vn.ownBlock = none ∨ vn.ownBlock ≠ vt.ownBlock := by
    rcases h.apart with e | e
    · rw [e]; cases vn.ownBlock <;> simp
    · exact .inr fun q => e q.symm
  refine ⟨hbox, ⟨?_, ?_, ?_, ?_, h.kindN, ?_, h.nilN, h.above⟩, ?_⟩
  · exact block_setCell hbox v'
  · have e : cellsOf (toks ++ [tn]) = cellsOf toks ++ tn.cells := by rw [cellsOf_append]; simp [cellsOf]
    rw [e, show (toks ++ [tn]).length = toks.length + 1 by simp]
    exact ownsRow_setCell_other hown off' _
  · exact ownsRow_setCell_other (h.rowN.kept hg hap) (h.off.2) _
  · intro t ht
    rcases List.mem_append.1 ht with ht | ht
    · exact h.kindT t ht
    · simp at ht; subst ht; exact hk
  · intro e; simp at e
  · exact Keeps.trans (Keeps.grown hg h.rowT) (Keeps.setCell _ _)

theorem take_any (w : World) (b base : Nat) (text : ByteArray) (at_ : Nat) (vt vn : Value) (toks notes : List Tk) (kind p n : Nat) (h : Sc w b base text at_ vt vn toks notes) (hk : kind ≠ 0) (hn : 0 < n) (hp : p + n ≤ text.size) (ht : text.size < 100000) (hl : toks.length < 1000000) :
    Calls Tryd.prog 68 #[.pointer (some ⟨b, 0, none⟩), .int .i64 kind, .int .i64 p, .int .i64 n] w fun e w' => e = .returned (.tuple #[]) ∧ Keeps base b w w' ∧ ∃ vt', Sc w' b base text (p + n) vt' vn (toks ++ [⟨kind, text.extract p (p + n), p⟩]) notes := by
  have HP := Lib.hid (piece_any w.drew b base text at_ vt vn toks notes kind p n (h.below ((Below.refl _ _).drew)) hn hp ht)
  have c2 : w.cell? ⟨b, 2, none⟩ = some vt := h.cell.2.2.1
  have hbase : base ≤ w.heap.size := by have h1 := h.above; have h2 := lt_of_block h.box; omega
  clear h
  generalize hs : text.extract p (p + n) = s at *
  clear hs hp hn
  go_enter Tryd.func68, Tryd.ntmps68
  go_wp2_with fail
  go_region_law (first | (refine step_tok kind s p rfl (.tmp 12) (.tmp 18) rfl base _ toks.length (cellsOf toks) rfl hrow.out w1.heap.size rfl hnew4 (by omega) hsz ?_; intro v1 w3 hown1 hgr1; obtain ⟨g1, cap1, rfl⟩ := ownsRow_form hown1 (by omega); have HQ := Lib.hid (sc_putT HS2.out ⟨kind, s, p⟩ hk hgr1 hown1); obtain ⟨hbx1, hfx1, -, -, -⟩ := sc_spot HQ.out.1; clear hown1 hgr1) | (go_simp; go_at_call 79; refine HP.out.mono ?_; rintro e w1 ⟨rfl, hK, hS⟩; have HK := Lib.hid hK; have HS := Lib.hid hS; have c2' : w1.cell? ⟨b, 2, none⟩ = some vt := hS.cell.2.2.1; have HS2 := Lib.hid (hS.below ((Below.refl _ w1).alloc (Nat.le_refl _) (.cells #[.int .i64 kind, .string s, .int .i64 p] 35))); have c2'' : (w1.alloc (.cells #[.int .i64 kind, .string s, .int .i64 p] 35)).cell? ⟨b, 2, none⟩ = some vt := HS2.out.cell.2.2.1; have hrow := Lib.hid HS2.out.rowT; have hsz : base ≤ (w1.alloc (.cells #[.int .i64 kind, .string s, .int .i64 p] 35)).heap.size := (by have h1 := HS2.out.above; have h2 := lt_of_block HS2.out.box; omega); have hnew4 := heap_alloc_new w1 (.cells #[.int .i64 kind, .string s, .int .i64 p] 35); clear hK hS; unfold Tk.val))
  all_goals
    go_wp2
    refine bodyPost_end (results_none rfl _ _ _) rfl ?_
    exact ⟨rfl, (((Keeps.of_below ((Below.refl _ w).drew)).trans HK.out).trans (Keeps.of_below ((Below.refl _ w1).alloc (Nat.le_refl _) _))).trans HQ.out.2.2, _, HQ.out.2.1⟩

theorem note_none (w : World) (b p : Nat) :
    Calls Tryd.prog 62 #[.pointer (some ⟨b, 0, none⟩), .int .i64 p, .int .i64 0] w fun e w' => e = .panicked [{ v := .iface 74 (.agg #[.int .i64 p]), recovered := false }] ∧ Below w.heap.size w w' := by
  go_enter Tryd.func62, Tryd.ntmps62
  go_wp2_with fail
  refine (piece_none w b 0 p).mono ?_
  rintro e w1 ⟨rfl, hb⟩
  go_wp2
  exact ⟨rfl, rfl, hb⟩

theorem take_none (w : World) (b kind p : Nat) (vt : Value) (c2 : w.cell? ⟨b, 2, none⟩ = some vt) :
    Calls Tryd.prog 68 #[.pointer (some ⟨b, 0, none⟩), .int .i64 kind, .int .i64 p, .int .i64 0] w fun e w' => e = .panicked [{ v := .iface 74 (.agg #[.int .i64 p]), recovered := false }] ∧ Below w.heap.size w w' := by
  have HP := Lib.hid (piece_none w.drew b kind p)
  go_enter Tryd.func68, Tryd.ntmps68
  go_wp2_with fail
  refine wp_region_any (by kernel_rfl) ?_
  change wpAny _ _ _ _ _ _ _ (World.drew _)
  refine wpAny_take (i := 0) (v := ?_) rfl (by kernel_rfl) (by kernel_rfl) (by kernel_rfl) (fun _ _ _ h => h) (Or.inl ⟨by rfl, ?_⟩) ?_
  rotate_left
  · intro w
    go_simp
    with_reducible rfl
  refine wpAny_take (i := 1) (v := ?_) rfl (by kernel_rfl) (by kernel_rfl) (by kernel_rfl) (fun _ _ _ h => h) (Or.inl ⟨by rfl, ?_⟩) ?_
  rotate_left
  · intro w
    go_simp
    with_reducible rfl
  refine wpAny_take (i := 2) (v := ?_) rfl (by kernel_rfl) (by kernel_rfl) (by kernel_rfl) (fun _ _ _ h => h) (Or.inl ⟨by rfl, ?_⟩) ?_
  rotate_left
  · intro w
    go_simp
    with_reducible rfl
  refine wpAny_take (i := 3) (v := ?_) rfl (by kernel_rfl) (by kernel_rfl) (by kernel_rfl) (fun _ _ _ h => h) (Or.inl ⟨by rfl, ?_⟩) ?_
  rotate_left
  · intro w
    go_simp
    with_reducible rfl
  refine wpAny_take (i := 5) (v := ?_) rfl (by kernel_rfl) (by kernel_rfl) (by kernel_rfl) (fun _ _ _ h => h) (Or.inl ⟨by rfl, ?_⟩) ?_
  rotate_left
  · intro w
    go_simp
    with_reducible rfl
  refine wpAny_take (i := 6) (v := ?_) rfl (by kernel_rfl) (by kernel_rfl) (by kernel_rfl) (fun _ _ _ h => h) (Or.inl ⟨by rfl, ?_⟩) ?_
  rotate_left
  · intro w
    go_simp
    with_reducible rfl
  refine wpAny_take (i := 7) (v := ?_) rfl (by kernel_rfl) (by kernel_rfl) (by kernel_rfl) (fun _ _ _ h => h) (Or.inl ⟨by rfl, ?_⟩) ?_
  rotate_left
  · intro w
    go_simp
    with_reducible rfl
  refine wpAny_take (i := 8) (v := ?_) rfl (by kernel_rfl) (by kernel_rfl) (by kernel_rfl) (fun _ _ _ h => h) (Or.inl ⟨by rfl, ?_⟩) ?_
  rotate_left
  · intro w
    go_simp
    with_reducible rfl
  refine wpAny_ready (rs := [4, 9]) (by kernel_rfl) (by simp) ?_
  refine AllReady.cons rfl (fun K hK => ?_) (AllReady.cons rfl (fun K hK => ?_) AllReady.nil)
  · go_simp
    refine hK _ _ ?_
    clear hK K
    refine wpAny_ready (rs := [9]) (by kernel_rfl) (by simp) ?_
    refine AllReady.cons rfl (fun K hK => ?_) AllReady.nil
    go_simp
    go_at_call 79
    refine HP.out.mono ?_
    rintro e w1 ⟨rfl, hb⟩
    exact ⟨rfl, rfl, ((Below.refl _ w).drew).trans hb⟩
  · go_simp
    go_at_call 79
    refine HP.out.mono ?_
    rintro e w1 ⟨rfl, hb⟩
    exact ⟨rfl, rfl, ((Below.refl _ w).drew).trans hb⟩
end Go.Proofs.YtijinpnbhnfiiaaDoor
