/- The document's answer: the words of a line. -/
import Derived.Test.YtnghlhkgeahfmaaDoorVer24
import Derived.Laws.AppendOwn
import Derived.Laws.OwnMore
import Derived.Maps.AppendAt
namespace Go.Proofs.YtnghlhkgeahfmaaDoor
open Go.RowKit
set_option linter.unusedVariables false

theorem info_str : (Tryd.prog.info? 9).map (fun i => (i.zero, i.size, i.bytes)) = some (some (.string ⟨#[]⟩), 1, 16) := by kernel_rfl
/-- append of one text, laid in a block of its own. -/
theorem app_str {ops : Array Oper} {rest : List Oper} {o : Oper} {act : Act} {Q : Exit → Act → World → Prop} {w : World} (hgd : o.guard = none) (x y : Operand)
    (ho : o.op = .call { callee := .builtin .append, args := #[x, y], argTypes := #[51, 51] }) (base : Nat) (v : Value) (n : Nat) (xs : List Value) (hs : act.eval x = v) {t : ByteArray} (hown : (w.alloc (.cells #[.string t] 9)).ownsRow base 9 1 v n xs) 
    (hy : act.eval y = .slice (some ⟨w.heap.size, 0, none⟩) 1 1) (hn : n ≤ 1000000) (hbase : base ≤ w.heap.size)
    (h : ∀ v' w', w'.ownsRow base 9 1 v' (n + 1) (xs ++ [.string t]) → (w.alloc (.cells #[.string t] 9)).grownBy w' v.ownBlock → wpList Tryd.prog ops Q rest (act.put o.dst v') w') : wpList Tryd.prog ops Q (o :: rest) act (w.alloc (.cells #[.string t] 9)) := by
  obtain ⟨i0, hi, hz0, hz1, hz2⟩ := info_parts info_str
  exact wpList_append_own _ hgd x y 51 ho base 9 i0 (.string ⟨#[]⟩) 1 16 Tryd.underlying51 hi hz0 hz1 hz2 rfl (by decide) v n xs hs hown ⟨w.heap.size, 0, none⟩ 1 1 [.string t] hy rfl (cell_one_new _ _ _) (fun u hu => by simp at hu; subst hu; rfl) (by unfold maxLen; omega) (by omega) (by simp; omega) (fun v' w' h1 h2 _ => h v' w' h1 h2)

theorem ls_ext1 (s : ByteArray) (i : Nat) (h : i < s.size) (c : UInt8) (hc : (ls s).drop i = c :: (ls s).drop (i + 1)) : ls (s.extract i (i + 1)) = [c] := by
  unfold ls
  rw [Lib.extract_data, show i + 1 - i = 1 by omega]
  show List.take 1 ((ls s).drop i) = [c]
  rw [hc]; rfl

set_option maxHeartbeats 2000000 in
set_option maxRecDepth 100000 in
theorem refWords_any (s : ByteArray) (hs : s.size ≤ 100000) (w : World) : Calls Tryd.prog 34 #[.string s] w fun e w' => ∃ (v : Value) (l : List ByteArray), e = .returned v ∧ w'.ownsRow w.heap.size 9 1 v l.length (l.map Value.string) ∧ l.map ls = lineWords (ls s) ∧ l.length ≤ 100001 ∧ (l = [] → v = .slice none 0 0) ∧ Below w.heap.size w w' := by
  have HSZ := Lib.hid hs
  have f0 : (s.size : Int) ≤ 100000 := by omega
  clear hs
  go_enter Tryd.func34, Tryd.ntmps34
  go_upto_block 0 with fail
  go_cut [3, 4, 5] (fun s3 s4 s5 wx => ∃ (done : List ByteArray) (cur : ByteArray), (done = [] → s3 = .slice none 0 0) ∧ s4 = .string cur ∧ wx.ownsRow w.heap.size 9 1 s3 done.length (done.map Value.string) ∧ Below w.heap.size w wx ∧ done.length ≤ 100000 ∧ Hid (done.map ls ++ finW (ls cur) = wrF [] (ls s)))
  case first =>
    go_wp2_with fail
    go_loopw [3, 4, 5] (fun s3 s4 s5 wr => ∃ (done : List ByteArray) (cur : ByteArray) (i : Nat), (done = [] → s3 = .slice none 0 0) ∧ s4 = .string cur ∧ s5 = .int .i64 i ∧ wr.ownsRow w.heap.size 9 1 s3 done.length (done.map Value.string) ∧ Below w.heap.size w wr ∧ i ≤ s.size ∧ done.length ≤ i ∧ cur.size ≤ i ∧ Hid (done.map ls ++ wrF (ls cur) ((ls s).drop i) = wrF [] (ls s)))
      (fun s3 s4 s5 _ => s.size - (match s5 with | .int _ i => i.toNat | _ => 0))
    case atStart => exact ⟨[], ⟨#[]⟩, 0, fun _ => rfl, rfl, rfl, World.ownsRow_nil _ _ _ _, Below.refl _ _, Nat.zero_le _, Nat.zero_le _, Nat.zero_le _, rfl⟩
    case round =>
      obtain ⟨done, cur, i, hn, rfl, rfl, hrow, hbw, hi, hd, hcs, HJ⟩ := hrel
      have HB := Lib.hid hbw
      have HD := Lib.hid hd
      have HCS := Lib.hid hcs
      have HI := Lib.hid hi
      clear hbw hd hcs
      by_cases hlt : i < s.size
      · have f1 : (i : Int) < (s.size : Int) := by omega
        have f2 : (0 : Int) ≤ (i : Int) := by omega
        have f3 : (i : Int) + 1 ≤ (s.size : Int) := by omega
        have hb := bt_eq s i hlt
        have h256 : s[i].toNat < 256 := s[i].toNat_lt
        obtain ⟨c, ed, ec⟩ := ls_drop s i hlt
        have hcv : c.toNat = s[i].toNat := by rw [ec, hb]
        have HX1 := Lib.hid (ls_ext1 s i hlt c ed)
        have KA := fun w => run_string_add_sum (P := Tryd.prog) w cur (s.extract i (i + 1)) (by rw [ByteArray.size_extract]; have := HCS.out; have := HSZ.out; omega)
        have hbv : blankB c = blankN s[i].toNat := by show blankN c.toNat = _; rw [hcv]
        by_cases hc47 : c = 47
        · have h47 : s[i].toNat = 47 := by rw [← hcv, hc47]; rfl
          have hbl : blankB c = false := by rw [hc47]; decide
          clear hbv
          by_cases hl2 : i + 1 < s.size
          · obtain ⟨d, ed2, ec2⟩ := ls_drop s (i + 1) hl2
            have hb2 := bt_eq s (i + 1) hl2
            have h2562 : s[i + 1].toNat < 256 := s[i + 1].toNat_lt
            have f4 : (i : Int) + 1 < (s.size : Int) := by omega
            have hnx : ((ls s).drop (i + 1)).head? = some d := by rw [ed2]; rfl
            have hdv : d.toNat = s[i + 1].toNat := by rw [ec2, hb2]
            by_cases hd47 : d = 47
            · have k0 : ((((s[i].toNat : Nat) : Int)) == 47) = true := by rw [beq_iff_eq]; omega
              have k1 : ((((s[i + 1].toNat : Nat) : Int)) == 47) = true := by rw [beq_iff_eq, ← hdv, hd47]; rfl
              have HW : Hid (done.map ls ++ finW (ls cur) = wrF [] (ls s)) := by
                show _ = _
                rw [← HJ.out, ed, wrF, if_pos ⟨hc47, by rw [hnx, hd47]⟩]
              clear hi hb ed hbl hc47 hcv ed2 hb2 hnx hdv hd47
              go_wp2_with fail
              go_meet
              exact ⟨done, cur, hn, rfl, hrow, HB.out, by have := HD.out; have := HI.out; have := HSZ.out; omega, HW.out⟩
            have hd47n : s[i + 1].toNat ≠ 47 := fun e => hd47 (UInt8.toNat_inj.1 (by rw [hdv, e]; rfl))
            replace hnx : ¬ (c = 47 ∧ ((ls s).drop (i + 1)).head? = some 47) := fun e => by rw [hnx] at e; injection e.2 with e; exact hd47 e
            have HW : Hid (wrF (ls cur) ((ls s).drop i) = wrF (ls cur ++ [c]) ((ls s).drop (i + 1))) := by
              show _ = _
              rw [ed, wrF, if_neg hnx, if_neg (by rw [hbl]; simp)]
            have k0 : ((((s[i].toNat : Nat) : Int)) == 47) = true := by first | (rw [beq_iff_eq]; omega) | (rw [beq_eq_false_iff_ne]; omega)
            have k1 : ((((s[i].toNat : Nat) : Int)) == 32) = false := by first | (rw [beq_iff_eq]; omega) | (rw [beq_eq_false_iff_ne]; omega)
            have k2 : ((((s[i].toNat : Nat) : Int)) == 9) = false := by first | (rw [beq_iff_eq]; omega) | (rw [beq_eq_false_iff_ne]; omega)
            have k3 : ((((s[i].toNat : Nat) : Int)) == 13) = false := by first | (rw [beq_iff_eq]; omega) | (rw [beq_eq_false_iff_ne]; omega)
            have k4 : ((((s[i + 1].toNat : Nat) : Int)) == 47) = false := by first | (rw [beq_iff_eq]; omega) | (rw [beq_eq_false_iff_ne]; omega)
            clear hi hb ed hbl hc47 hcv
            go_wp2_with fail
            go_roundw
            case rel =>
              refine ⟨done, cur ++ s.extract i (i + 1), i + 1, hn, rfl, by congr 1, hrow, HB.out, by omega, by have := HD.out; omega, by rw [size_app, ByteArray.size_extract]; have := HCS.out; omega, ?_⟩
              show _ = _
              rw [ls_app, HX1.out, ← HW.out]
              exact HJ.out
            case measure => simp; omega

          · have f4 : ¬ ((i : Int) + 1 < (s.size : Int)) := by omega
            have hnx : ¬ (c = 47 ∧ ((ls s).drop (i + 1)).head? = some 47) := fun e => by rw [List.drop_eq_nil_of_le (by rw [ls_len]; omega)] at e; cases e.2
            have HW : Hid (wrF (ls cur) ((ls s).drop i) = wrF (ls cur ++ [c]) ((ls s).drop (i + 1))) := by
              show _ = _
              rw [ed, wrF, if_neg hnx, if_neg (by rw [hbl]; simp)]
            have k0 : ((((s[i].toNat : Nat) : Int)) == 47) = true := by first | (rw [beq_iff_eq]; omega) | (rw [beq_eq_false_iff_ne]; omega)
            have k1 : ((((s[i].toNat : Nat) : Int)) == 32) = false := by first | (rw [beq_iff_eq]; omega) | (rw [beq_eq_false_iff_ne]; omega)
            have k2 : ((((s[i].toNat : Nat) : Int)) == 9) = false := by first | (rw [beq_iff_eq]; omega) | (rw [beq_eq_false_iff_ne]; omega)
            have k3 : ((((s[i].toNat : Nat) : Int)) == 13) = false := by first | (rw [beq_iff_eq]; omega) | (rw [beq_eq_false_iff_ne]; omega)
            clear hi hb ed hbl hc47 hcv
            go_wp2_with fail
            go_roundw
            case rel =>
              refine ⟨done, cur ++ s.extract i (i + 1), i + 1, hn, rfl, by congr 1, hrow, HB.out, by omega, by have := HD.out; omega, by rw [size_app, ByteArray.size_extract]; have := HCS.out; omega, ?_⟩
              show _ = _
              rw [ls_app, HX1.out, ← HW.out]
              exact HJ.out
            case measure => simp; omega

        have h47 : s[i].toNat ≠ 47 := fun e => hc47 (UInt8.toNat_inj.1 (by rw [hcv, e]; rfl))
        by_cases b32 : s[i].toNat = 32
        · have hbl : blankB c = true := by rw [hbv]; simp [blankN, b32]
          cases he : cur.toList.isEmpty
          · have hne : ls cur ≠ [] := fun e => by rw [empty_ls, e] at he; cases he
            have HW : Hid (wrF (ls cur) ((ls s).drop i) = ls cur :: wrF [] ((ls s).drop (i + 1))) := by
              show _ = _
              rw [ed, wrF, if_neg (fun e => hc47 e.1), if_pos hbl, if_neg hne]
            have k0 : ((((s[i].toNat : Nat) : Int)) == 47) = false := by first | (rw [beq_iff_eq]; omega) | (rw [beq_eq_false_iff_ne]; omega)
            have k1 : ((((s[i].toNat : Nat) : Int)) == 32) = true := by first | (rw [beq_iff_eq]; omega) | (rw [beq_eq_false_iff_ne]; omega)
            clear hi hb ed hbl hc47 hcv hne
            have hrowA := hrow.alloc (.cells #[.string cur] 9)
            go_wp2_with (at_builtin; refine app_str rfl (.tmp 48) (.tmp 50) rfl w.heap.size _ done.length _ rfl hrowA rfl (by have := HD.out; have := HSZ.out; omega) (by have := HB.out.size; simp; omega) ?_; intro v' w1 hown' hgrow)
            go_roundw
            case rel =>
              refine ⟨done ++ [cur], ⟨#[]⟩, i + 1, ?_, rfl, by congr 1, ?_, ?_, by omega, ?_, by show 0 ≤ _; omega, ?_⟩
              · intro e; simp at e
              · rw [List.length_append, List.map_append]; exact hown'
              · exact (HB.out.alloc HB.out.size _).grown hgrow (by have := HB.out.size; simp; omega) (fun j hj => (hrowA.lt j hj).1)
              · rw [List.length_append]; have := HD.out; simp; omega
              · show _ = _
                rw [List.map_append, List.append_assoc]
                show done.map ls ++ ([ls cur] ++ wrF [] ((ls s).drop (i + 1))) = _
                rw [show [ls cur] ++ wrF [] ((ls s).drop (i + 1)) = wrF (ls cur) ((ls s).drop i) from HW.out.symm]
                exact HJ.out
            case measure => simp; omega
          · have hne : ls cur = [] := by cases hl : ls cur with | nil => rfl | cons c t => rw [empty_ls, hl] at he; cases he
            have HW : Hid (wrF (ls cur) ((ls s).drop i) = wrF [] ((ls s).drop (i + 1))) := by
              show _ = _
              rw [ed, wrF, if_neg (fun e => hc47 e.1), if_pos hbl, if_pos hne]
            have k0 : ((((s[i].toNat : Nat) : Int)) == 47) = false := by first | (rw [beq_iff_eq]; omega) | (rw [beq_eq_false_iff_ne]; omega)
            have k1 : ((((s[i].toNat : Nat) : Int)) == 32) = true := by first | (rw [beq_iff_eq]; omega) | (rw [beq_eq_false_iff_ne]; omega)
            clear hi hb ed hbl hc47 hcv hne
            go_wp2_with fail
            go_roundw
            case rel =>
              refine ⟨done, ⟨#[]⟩, i + 1, hn, rfl, by congr 1, hrow, HB.out, by omega, by have := HD.out; omega, by show 0 ≤ _; omega, ?_⟩
              show _ = _
              rw [show ls ⟨#[]⟩ = [] from rfl, ← HW.out]
              exact HJ.out
            case measure => simp; omega

        by_cases b9 : s[i].toNat = 9
        · have hbl : blankB c = true := by rw [hbv]; simp [blankN, b9]
          cases he : cur.toList.isEmpty
          · have hne : ls cur ≠ [] := fun e => by rw [empty_ls, e] at he; cases he
            have HW : Hid (wrF (ls cur) ((ls s).drop i) = ls cur :: wrF [] ((ls s).drop (i + 1))) := by
              show _ = _
              rw [ed, wrF, if_neg (fun e => hc47 e.1), if_pos hbl, if_neg hne]
            have k0 : ((((s[i].toNat : Nat) : Int)) == 47) = false := by first | (rw [beq_iff_eq]; omega) | (rw [beq_eq_false_iff_ne]; omega)
            have k1 : ((((s[i].toNat : Nat) : Int)) == 32) = false := by first | (rw [beq_iff_eq]; omega) | (rw [beq_eq_false_iff_ne]; omega)
            have k2 : ((((s[i].toNat : Nat) : Int)) == 9) = true := by first | (rw [beq_iff_eq]; omega) | (rw [beq_eq_false_iff_ne]; omega)
            clear hi hb ed hbl hc47 hcv hne
            have hrowA := hrow.alloc (.cells #[.string cur] 9)
            go_wp2_with (at_builtin; refine app_str rfl (.tmp 48) (.tmp 50) rfl w.heap.size _ done.length _ rfl hrowA rfl (by have := HD.out; have := HSZ.out; omega) (by have := HB.out.size; simp; omega) ?_; intro v' w1 hown' hgrow)
            go_roundw
            case rel =>
              refine ⟨done ++ [cur], ⟨#[]⟩, i + 1, ?_, rfl, by congr 1, ?_, ?_, by omega, ?_, by show 0 ≤ _; omega, ?_⟩
              · intro e; simp at e
              · rw [List.length_append, List.map_append]; exact hown'
              · exact (HB.out.alloc HB.out.size _).grown hgrow (by have := HB.out.size; simp; omega) (fun j hj => (hrowA.lt j hj).1)
              · rw [List.length_append]; have := HD.out; simp; omega
              · show _ = _
                rw [List.map_append, List.append_assoc]
                show done.map ls ++ ([ls cur] ++ wrF [] ((ls s).drop (i + 1))) = _
                rw [show [ls cur] ++ wrF [] ((ls s).drop (i + 1)) = wrF (ls cur) ((ls s).drop i) from HW.out.symm]
                exact HJ.out
            case measure => simp; omega
          · have hne : ls cur = [] := by cases hl : ls cur with | nil => rfl | cons c t => rw [empty_ls, hl] at he; cases he
            have HW : Hid (wrF (ls cur) ((ls s).drop i) = wrF [] ((ls s).drop (i + 1))) := by
              show _ = _
              rw [ed, wrF, if_neg (fun e => hc47 e.1), if_pos hbl, if_pos hne]
            have k0 : ((((s[i].toNat : Nat) : Int)) == 47) = false := by first | (rw [beq_iff_eq]; omega) | (rw [beq_eq_false_iff_ne]; omega)
            have k1 : ((((s[i].toNat : Nat) : Int)) == 32) = false := by first | (rw [beq_iff_eq]; omega) | (rw [beq_eq_false_iff_ne]; omega)
            have k2 : ((((s[i].toNat : Nat) : Int)) == 9) = true := by first | (rw [beq_iff_eq]; omega) | (rw [beq_eq_false_iff_ne]; omega)
            clear hi hb ed hbl hc47 hcv hne
            go_wp2_with fail
            go_roundw
            case rel =>
              refine ⟨done, ⟨#[]⟩, i + 1, hn, rfl, by congr 1, hrow, HB.out, by omega, by have := HD.out; omega, by show 0 ≤ _; omega, ?_⟩
              show _ = _
              rw [show ls ⟨#[]⟩ = [] from rfl, ← HW.out]
              exact HJ.out
            case measure => simp; omega

        by_cases b13 : s[i].toNat = 13
        · have hbl : blankB c = true := by rw [hbv]; simp [blankN, b13]
          cases he : cur.toList.isEmpty
          · have hne : ls cur ≠ [] := fun e => by rw [empty_ls, e] at he; cases he
            have HW : Hid (wrF (ls cur) ((ls s).drop i) = ls cur :: wrF [] ((ls s).drop (i + 1))) := by
              show _ = _
              rw [ed, wrF, if_neg (fun e => hc47 e.1), if_pos hbl, if_neg hne]
            have k0 : ((((s[i].toNat : Nat) : Int)) == 47) = false := by first | (rw [beq_iff_eq]; omega) | (rw [beq_eq_false_iff_ne]; omega)
            have k1 : ((((s[i].toNat : Nat) : Int)) == 32) = false := by first | (rw [beq_iff_eq]; omega) | (rw [beq_eq_false_iff_ne]; omega)
            have k2 : ((((s[i].toNat : Nat) : Int)) == 9) = false := by first | (rw [beq_iff_eq]; omega) | (rw [beq_eq_false_iff_ne]; omega)
            have k3 : ((((s[i].toNat : Nat) : Int)) == 13) = true := by first | (rw [beq_iff_eq]; omega) | (rw [beq_eq_false_iff_ne]; omega)
            clear hi hb ed hbl hc47 hcv hne
            have hrowA := hrow.alloc (.cells #[.string cur] 9)
            go_wp2_with (at_builtin; refine app_str rfl (.tmp 48) (.tmp 50) rfl w.heap.size _ done.length _ rfl hrowA rfl (by have := HD.out; have := HSZ.out; omega) (by have := HB.out.size; simp; omega) ?_; intro v' w1 hown' hgrow)
            go_roundw
            case rel =>
              refine ⟨done ++ [cur], ⟨#[]⟩, i + 1, ?_, rfl, by congr 1, ?_, ?_, by omega, ?_, by show 0 ≤ _; omega, ?_⟩
              · intro e; simp at e
              · rw [List.length_append, List.map_append]; exact hown'
              · exact (HB.out.alloc HB.out.size _).grown hgrow (by have := HB.out.size; simp; omega) (fun j hj => (hrowA.lt j hj).1)
              · rw [List.length_append]; have := HD.out; simp; omega
              · show _ = _
                rw [List.map_append, List.append_assoc]
                show done.map ls ++ ([ls cur] ++ wrF [] ((ls s).drop (i + 1))) = _
                rw [show [ls cur] ++ wrF [] ((ls s).drop (i + 1)) = wrF (ls cur) ((ls s).drop i) from HW.out.symm]
                exact HJ.out
            case measure => simp; omega
          · have hne : ls cur = [] := by cases hl : ls cur with | nil => rfl | cons c t => rw [empty_ls, hl] at he; cases he
            have HW : Hid (wrF (ls cur) ((ls s).drop i) = wrF [] ((ls s).drop (i + 1))) := by
              show _ = _
              rw [ed, wrF, if_neg (fun e => hc47 e.1), if_pos hbl, if_pos hne]
            have k0 : ((((s[i].toNat : Nat) : Int)) == 47) = false := by first | (rw [beq_iff_eq]; omega) | (rw [beq_eq_false_iff_ne]; omega)
            have k1 : ((((s[i].toNat : Nat) : Int)) == 32) = false := by first | (rw [beq_iff_eq]; omega) | (rw [beq_eq_false_iff_ne]; omega)
            have k2 : ((((s[i].toNat : Nat) : Int)) == 9) = false := by first | (rw [beq_iff_eq]; omega) | (rw [beq_eq_false_iff_ne]; omega)
            have k3 : ((((s[i].toNat : Nat) : Int)) == 13) = true := by first | (rw [beq_iff_eq]; omega) | (rw [beq_eq_false_iff_ne]; omega)
            clear hi hb ed hbl hc47 hcv hne
            go_wp2_with fail
            go_roundw
            case rel =>
              refine ⟨done, ⟨#[]⟩, i + 1, hn, rfl, by congr 1, hrow, HB.out, by omega, by have := HD.out; omega, by show 0 ≤ _; omega, ?_⟩
              show _ = _
              rw [show ls ⟨#[]⟩ = [] from rfl, ← HW.out]
              exact HJ.out
            case measure => simp; omega

        · have hbl : blankB c = false := by rw [hbv]; simp [blankN, b32, b9, b13]
          have HW : Hid (wrF (ls cur) ((ls s).drop i) = wrF (ls cur ++ [c]) ((ls s).drop (i + 1))) := by
            show _ = _
            rw [ed, wrF, if_neg (fun e => hc47 e.1), if_neg (by rw [hbl]; simp)]
          have k0 : ((((s[i].toNat : Nat) : Int)) == 47) = false := by first | (rw [beq_iff_eq]; omega) | (rw [beq_eq_false_iff_ne]; omega)
          have k1 : ((((s[i].toNat : Nat) : Int)) == 32) = false := by first | (rw [beq_iff_eq]; omega) | (rw [beq_eq_false_iff_ne]; omega)
          have k2 : ((((s[i].toNat : Nat) : Int)) == 9) = false := by first | (rw [beq_iff_eq]; omega) | (rw [beq_eq_false_iff_ne]; omega)
          have k3 : ((((s[i].toNat : Nat) : Int)) == 13) = false := by first | (rw [beq_iff_eq]; omega) | (rw [beq_eq_false_iff_ne]; omega)
          clear hi hb ed hbl hc47 hcv
          go_wp2_with fail
          go_roundw
          case rel =>
            refine ⟨done, cur ++ s.extract i (i + 1), i + 1, hn, rfl, by congr 1, hrow, HB.out, by omega, by have := HD.out; omega, by rw [size_app, ByteArray.size_extract]; have := HCS.out; omega, ?_⟩
            show _ = _
            rw [ls_app, HX1.out, ← HW.out]
            exact HJ.out
          case measure => simp; omega

      · have f1 : ¬ ((i : Int) < (s.size : Int)) := by omega
        have HW : Hid (done.map ls ++ finW (ls cur) = wrF [] (ls s)) := by
          show _ = _
          rw [← HJ.out, List.drop_eq_nil_of_le (by rw [ls_len]; omega)]
          rw [wrF]
        clear hi hlt
        go_wp2_with fail
        go_meet
        exact ⟨done, cur, hn, rfl, hrow, HB.out, by have := HD.out; have := HI.out; have := HSZ.out; omega, HW.out⟩
  case rest =>
    obtain ⟨done, cur, hn, rfl, hrow, hbw, hd, HW⟩ := hcut
    have HB := Lib.hid hbw
    have HD := Lib.hid hd
    clear hbw hd
    cases he : cur.toList.isEmpty
    · have hne : ls cur ≠ [] := fun e => by rw [empty_ls, e] at he; cases he
      have HNE := Lib.hid hne
      clear hne
      have hrowA := hrow.alloc (.cells #[.string cur] 9)
      go_wp2_with (at_builtin; refine app_str rfl (.tmp 61) (.tmp 63) rfl w.heap.size _ done.length _ rfl hrowA rfl (by have := HD.out; omega) (by have := HB.out.size; simp; omega) ?_; intro v' w1 hown' hgrow)
      go_ret
      refine ⟨v', done ++ [cur], rfl, by rw [List.length_append, List.map_append]; exact hown', ?_, by rw [List.length_append]; have := HD.out; simp; omega, fun e => by simp at e, (HB.out.alloc HB.out.size _).grown hgrow (by have := HB.out.size; simp; omega) (fun j hj => (hrowA.lt j hj).1)⟩
      rw [List.map_append, ← wrF_line, ← HW.out]
      unfold finW
      rw [if_neg HNE.out]; rfl
    · have hne : ls cur = [] := by cases hl : ls cur with | nil => rfl | cons c t => rw [empty_ls, hl] at he; cases he
      have HNE := Lib.hid hne
      clear hne
      go_wp2_with fail
      go_ret
      refine ⟨_, done, rfl, hrow, ?_, by have := HD.out; omega, hn, HB.out⟩
      rw [← wrF_line, ← HW.out]
      unfold finW
      rw [if_pos HNE.out, List.append_nil]
end Go.Proofs.YtnghlhkgeahfmaaDoor
