/- TokenScans: the walk. -/
import Derived.Test.YthpengbglbgidaaDoorTok39
import Derived.Test.YthpengbglbgidaaDoorTok40
import Derived.Test.YthpengbglbgidaaDoorTok15
import Derived.Test.YthpengbglbgidaaDoorTok14N
import Derived.Test.YthpengbglbgidaaDoorApp
namespace Go.Proofs.YthpengbglbgidaaDoor
open Go.RowKit Go.Joins
set_option linter.unusedVariables false

set_option maxHeartbeats 4000000 in
set_option maxRecDepth 100000 in
theorem scans_walk (a : Option Addr) (cap : Nat) (s : ByteArray) (w : World) (ht : Text w a s) (hcap : s.size ≤ cap) (hnil : a = none → cap = 0) (hT : Tabs w) (hm : MaxLen w) :
    Calls Tryd.prog 3 #[.slice a s.size cap] w fun e w' => e = .returned (.bool true) ∧ Below w.heap.size w w' := by
  by_cases hl : 1000 < s.size
  · go_enter Tryd.func3, Tryd.ntmps3
    go_wp2
    go_ret
    exact ⟨rfl, Below.refl _ w⟩
  have HT := Lib.hid hT
  have HM := Lib.hid hm
  have HX := Lib.hid ht
  have HC := Lib.hid hnil
  have HCP := Lib.hid hcap
  have HR := Lib.hid (fun (a' : Option Addr) (c' : Nat) (W : World) (h1 : Text W a' s) (h2 : Tabs W) (h3 : MaxLen W) (h4 : s.size ≤ c') => toks_any s a' c' W h1 h2 h3 h4)
  have HN := Lib.hid (fun (W : World) (h1 : Text W a s) (h2 : Tabs W) (h3 : MaxLen W) => notes_any s a cap W h1 h2 h3 hcap)
  have HF := Lib.hid (fun (W : World) (h1 : Text W a s) => refScan_any s a cap W (by omega) hcap h1)
  have HE := Lib.hid (scanR_scanB s)
  have hlen : (scanR s).st.toks.length ≤ 1000000 ∧ (scanR s).st.notes.length ≤ 1000000 := by
    by_cases h : (scanR s).err = 0
    · have h1 := scanR_len h
      have h2 : (scanR s).st.notes.length ≤ s.size := by
        obtain ⟨-, hw, ha, -⟩ := scanR_ok h
        obtain ⟨x, hx, e⟩ := allP_inv (fun p x => x.notes.length ≤ p) (fun p x x' hp ha hI hb => by have := (beginP_len hb).2; have := wid_pos s p; omega) (fun p x hp ha hI => by have := wid_pos s p; omega) (Nat.le_refl _) ha
        rw [e]
        exact hx
      omega
    · have h1 := (scanR_fault h (by omega)).1
      rw [h1]
      exact ⟨Nat.zero_le _, Nat.zero_le _⟩
  obtain ⟨hlt, hln⟩ := hlen
  have hw1 := (Below.refl w.heap.size w).alloc (Nat.le_refl _) (.cells #[] 5)
  have HX1 := Lib.hid (ht.below hw1)
  have HW1 := Lib.hid hw1
  have HO : (w.alloc (.cells #[] 5)).ownsRow w.heap.size 5 1 (.slice (some ⟨w.heap.size, 0, none⟩) 0 0) 0 [] := ⟨rfl, .inr ⟨w.heap.size, 0, #[], rfl, Nat.le_refl _, heap_alloc_new _ _, Nat.le_refl _, Nat.zero_le _, rfl, rfl⟩⟩
  have HO1 := Lib.hid HO
  clear ht hnil hcap hT hm hw1 HO
  unfold ToksEnds at HR
  unfold NotesEnds at HN
  unfold RefEnds at HF
  generalize scanB s = q at *
  generalize scanR s = o at *
  obtain ⟨err, pos, at_, toks, notes⟩ := o
  obtain ⟨err2, pos2, at2, toks2, notes2⟩ := q
  dsimp only at *
  obtain ⟨e1, e2, e3, e4⟩ := HE.out
  subst e1 e2 e3 e4
  clear HE
  go_enter Tryd.func3, Tryd.ntmps3
  go_wp2_with (at_builtin; refine app_text rfl (.tmp 14) (.tmp 15) rfl w.heap.size _ 0 [] rfl HO1.out a s cap rfl HX1.out HC.out (by omega) (by simp) ?_)
  intro v1 w1 hown1 hgr1
  have hb1 := below_own HW1.out hgr1 (by simp) HO1.out
  try simp only [Nat.zero_add, List.nil_append] at hown1
  obtain ⟨a1, c1, hv1, ht1, hc1⟩ := copied hown1
  subst hv1
  have HB1 := Lib.hid hb1
  have H1 := Lib.hid (HR.out a1 c1 w1 ht1 (HT.out.below hb1) (HM.out.below hb1) hc1)
  clear hown1 hgr1 hb1 ht1 hc1 HO1 HX1 HW1 HR
  go_wp2_with fail
  refine H1.out.mono ?_
  rintro e w2 ⟨hb2, vt, rfl, hrow⟩
  obtain ⟨at1, ct1, rfl, hct1, hmt1, hta⟩ := tokAt_of_row hrow
  have hbb2 := HB1.out.trans (hb2.mono HB1.out.size)
  have HB2 := Lib.hid hbb2
  have HA := Lib.hid hta
  have H2 := Lib.hid (HF.out w2 (HX.out.below hbb2))
  clear hb2 hrow hta H1 hbb2 HF HB1
  go_wp2_with fail
  refine H2.out.mono ?_
  rintro e w3 ⟨hb3, vt3, vn3, rfl, hrt, hrn⟩
  obtain ⟨at2', ct2, rfl, hct2, hmt2, htb⟩ := tokAt_of_rowR hrt
  obtain ⟨at3, ct3, rfl, hct3, hmt3, htc⟩ := tokAt_of_rowR hrn
  have hbb3 := HB2.out.trans (hb3.mono HB2.out.size)
  have HB3 := Lib.hid hbb3
  have HA3 := Lib.hid (HA.out.below hb3)
  have HTB := Lib.hid htb
  have HTC := Lib.hid htc
  clear hb3 hrt hrn htb htc H2 hbb3 HB2 HA
  go_wp2_with fail
  refine (told_any toks at1 at2' ct1 ct2 w3 hlt HA3.out HTB.out).mono ?_
  rintro e w4 ⟨rfl, hb4⟩
  have hbb4 := HB3.out.trans (hb4.mono HB3.out.size)
  have HB4 := Lib.hid hbb4
  have HTC4 := Lib.hid (HTC.out.below hb4)
  have H5 := Lib.hid (HN.out w4 (HX.out.below hbb4) (HT.out.below hbb4) (HM.out.below hbb4))
  clear hb4 hbb4 HB3 HTC HN HA3 HTB
  go_wp2_with fail
  refine H5.out.mono ?_
  rintro e w5 ⟨hb5, vn, rfl, hrow5⟩
  obtain ⟨at5, ct5, rfl, hct5, hmt5, htd⟩ := tokAt_of_row hrow5
  have hbb5 := HB4.out.trans (hb5.mono HB4.out.size)
  have HB5 := Lib.hid hbb5
  have HTC5 := Lib.hid (HTC4.out.below hb5)
  have HTD := Lib.hid htd
  clear hb5 hrow5 htd H5 hbb5 HB4 HTC4
  go_wp2_with fail
  refine (told_any notes at5 at3 ct5 ct3 w5 hln HTD.out HTC5.out).mono ?_
  rintro e w6 ⟨rfl, hb6⟩
  have hbb6 := HB5.out.trans (hb6.mono HB5.out.size)
  have HB6 := Lib.hid hbb6
  have H6 := Lib.hid (awake_any w6 (HT.out.below hbb6) (HM.out.below hbb6))
  clear hb6 hbb6 HB5 HTC5 HTD
  go_wp2_with fail
  refine H6.out.mono ?_
  rintro e w7 ⟨rfl, hb7⟩
  have HB7 := Lib.hid (HB6.out.trans (hb7.mono HB6.out.size))
  clear hb7
  go_wp2
  go_ret
  exact ⟨rfl, HB7.out⟩
end Go.Proofs.YthpengbglbgidaaDoor
