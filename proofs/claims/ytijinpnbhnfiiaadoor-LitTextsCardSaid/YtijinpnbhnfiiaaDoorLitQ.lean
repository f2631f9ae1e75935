/- What is written plainly, as a list: pure. -/
import Derived.Test.YtijinpnbhnfiiaaDoorLit18
namespace Go.Proofs.YtijinpnbhnfiiaaDoor
open Go.RowKit
set_option linter.unusedVariables false

theorem quoteL_flat (s : ByteArray) : ∀ k p, s.size ≤ p + k → quoteL s k p = (s.data.toList.drop p).flatMap fun c => (quotedB c.toNat).data.toList
  | 0, p, h => by
    rw [quoteL, List.drop_eq_nil_of_le (by rw [← ByteArray.size_data] at h; simpa using h)]
    rfl
  | k + 1, p, h => by
    rw [quoteL]
    by_cases hp : p < s.size
    · have hl : p < s.data.toList.length := by simpa using hp
      rw [if_pos hp, List.drop_eq_getElem_cons hl, List.flatMap_cons, quoteL_flat s k (p + 1) (by omega), bt_eq s p hp]
      rfl
    · rw [if_neg hp, List.drop_eq_nil_of_le (by simpa using hp)]
      rfl
theorem quoteL_le (s : ByteArray) : ∀ k p, (quoteL s k p).length ≤ 4 * k
  | 0, p => by rw [quoteL]; simp
  | k + 1, p => by
    rw [quoteL]
    by_cases hp : p < s.size
    · rw [if_pos hp, List.length_append]
      have := quoteL_le s k (p + 1)
      have := quotedB_size (bt s p) (bt_lt s p)
      omega
    · rw [if_neg hp]
      simp
theorem quoteB_le (s : ByteArray) (h : s.size ≤ 2000) : (quoteB s).size ≤ 10000 := by
  have := quoteL_le s s.size 0
  unfold quoteB
  rw [ByteArray.size]
  simp
  omega
def quoteM (s : ByteArray) : List UInt8 := s.data.toList.flatMap fun c => (quotedB c.toNat).data.toList
theorem quoteB_flat (s : ByteArray) : quoteB s = ⟨(34 :: (quoteM s ++ [34])).toArray⟩ := by
  unfold quoteB quoteM
  rw [quoteL_flat s s.size 0 (by omega), List.drop_zero]
theorem quoteM_append (a b : ByteArray) : quoteM (a ++ b) = quoteM a ++ quoteM b := by
  unfold quoteM
  rw [ByteArray.data_append, Array.toList_append, List.flatMap_append]
theorem quoteB_size (s : ByteArray) : (quoteB s).size = (quoteM s).length + 2 := by
  rw [quoteB_flat, ByteArray.size]
  simp
theorem quoteB_join (a b : ByteArray) : quoteB (a ++ b) = (quoteB a).extract 0 ((quoteB a).size - 1) ++ (quoteB b).extract 1 (quoteB b).size := by
  rw [quoteB_size, quoteB_size, quoteB_flat, quoteB_flat, quoteB_flat, quoteM_append]
  apply ByteArray.ext
  apply Array.toList_inj.1
  rw [ByteArray.data_append, Array.toList_append, ByteArray.data_extract, ByteArray.data_extract, Array.toList_extract, Array.toList_extract]
  simp only [List.extract_eq_take_drop]
  rw [show (quoteM a).length + 2 - 1 - 0 = (34 :: quoteM a).length by simp, show (quoteM b).length + 2 - 1 = (quoteM b ++ [34]).length by simp]
  show (34 :: (quoteM a ++ quoteM b ++ [34])) = List.take (34 :: quoteM a).length (34 :: quoteM a ++ [34]) ++ List.take (quoteM b ++ [34]).length (quoteM b ++ [34])
  rw [List.take_left, List.take_length, List.cons_append, List.append_assoc]

end Go.Proofs.YtijinpnbhnfiiaaDoor
