/- texts as byte arrays. Nothing of the program. -/
import Derived.Test.YteokfgdennjjiaaBuilt
namespace Go.Proofs.Yteokfgdennjjiaa

theorem beq_toList_ne {a b : ByteArray} (h : ¬ a = b) : (a.toList == b.toList) = false := by
  simp only [ByteArray.toList_eq, beq_eq_false_iff_ne]
  exact fun e => h (ByteArray.ext (Array.toList_inj.mp e))
theorem extract_drop (s : ByteArray) (k : Nat) : (s.extract k s.size).data.toList = s.data.toList.drop k := by
  rw [ByteArray.data_extract, Array.toList_extract, List.extract_eq_take_drop]
  exact List.take_of_length_le (by rw [List.length_drop, Array.length_toList]; exact Nat.le_refl _)
end Go.Proofs.Yteokfgdennjjiaa
