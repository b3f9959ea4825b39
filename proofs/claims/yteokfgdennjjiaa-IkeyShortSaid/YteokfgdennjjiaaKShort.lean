/- short keys as byte arrays; a text of one byte. Nothing of the program. -/
import Derived.Test.YteokfgdennjjiaaIkeyMath
import Derived.Test.YteokfgdennjjiaaBaStr
import Derived.Test.YteokfgdennjjiaaBlk
namespace Go.Proofs.Yteokfgdennjjiaa
open Go.ChangeShapes Go.WideShapes Go.ChangeAt Go.RowKit

def baBetween (a b : ByteArray) : ByteArray := ⟨(kBetween a.data.toList b.data.toList).toArray⟩
def baAfter (a : ByteArray) : ByteArray := ⟨(kAfter a.data.toList).toArray⟩
theorem ba_of {x : ByteArray} {l : List UInt8} (h : x.data.toList = l) : x = ⟨l.toArray⟩ := by apply ba_ext; rw [h]
theorem extract_take (s : ByteArray) (i : Nat) : (s.extract 0 i).data.toList = s.data.toList.take i := by
  rw [ByteArray.data_extract, Array.toList_extract, List.extract_eq_take_drop, List.drop_zero, Nat.sub_zero]
/-- a text of one byte, made of a slice's literal -/
theorem str_one {P : Program} {t e s : TypeId} (ht : P.underlying t = some (.slice e)) (he : P.underlying e = some (.int .u8)) (hs : P.underlying s = some .string) (q : Nat) (hq : q < 256) (w : World) :
    (convert t s (.slice (some ⟨w.heap.size, 0, none⟩) 1 1)).run P (w.alloc (.cells #[.int .u8 (q : Int)] e)) = .ok (.string ⟨#[UInt8.ofNat q]⟩) (w.alloc (.cells #[.int .u8 (q : Int)] e)) := by
  have hc : bs [UInt8.ofNat q] = [Value.int .u8 (q : Int)] := by rw [bs_single, ofNat_toNat _ hq]
  have hrow := Row.built w (bs [UInt8.ofNat q]) e 1 rfl (by decide)
  have h := run_str (P := P) _ t s e _ _ hrow ht he hs
  rw [hc] at h
  exact h
theorem str_oneD {P : Program} {t e s : TypeId} (ht : P.underlying t = some (.slice e)) (he : P.underlying e = some (.int .u8)) (hs : P.underlying s = some .string) (q : Nat) (hq : q < 256) (w : World) :
    (convert t s (.slice (some ⟨w.heap.size, 0, none⟩) 1 1)).run P (w.alloc (.cells #[.int .u8 (q : Int)] e)).drew = .ok (.string ⟨#[UInt8.ofNat q]⟩) (w.alloc (.cells #[.int .u8 (q : Int)] e)).drew := by
  have hc : bs [UInt8.ofNat q] = [Value.int .u8 (q : Int)] := by rw [bs_single, ofNat_toNat _ hq]
  have hrow := (Row.built w (bs [UInt8.ofNat q]) e 1 rfl (by decide)).non (Fr.drew _)
  have h := run_str (P := P) _ t s e _ _ hrow ht he hs
  rw [hc] at h
  exact h
end Go.Proofs.Yteokfgdennjjiaa
