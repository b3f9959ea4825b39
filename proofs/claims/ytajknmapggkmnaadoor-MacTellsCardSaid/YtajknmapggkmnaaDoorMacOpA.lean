/- package mac: mixed, brought -/
import Derived.Test.YtajknmapggkmnaaDoorMacRef
import Derived.Test.YtajknmapggkmnaaDoorShaOpG
namespace Go.Proofs.YtajknmapggkmnaaDoor
open Go.ChangeShapes Go.WideShapes Go.ChangeAt Go.RowKit

/-- k places are mixed -/
def mixL (K : List UInt8) (b : UInt8) (k : Nat) : List UInt8 := (K.take k).map (· ^^^ b) ++ K.drop k
theorem mixL_length (K : List UInt8) (b : UInt8) (k : Nat) (hk : k ≤ K.length) : (mixL K b k).length = K.length := by
  unfold mixL; simp; omega
theorem mixL_at (K : List UInt8) (b : UInt8) (k : Nat) (hk : k < K.length) : (mixL K b k)[k]? = some K[k]! := by
  unfold mixL
  rw [List.getElem?_append_right (by simp; omega), getElem!_pos K k hk]
  simp
  rw [Nat.min_eq_left (by omega)]; simp [hk]
theorem mixL_set (K : List UInt8) (b : UInt8) (k : Nat) (hk : k < K.length) : (mixL K b k).set k (K[k]! ^^^ b) = mixL K b (k + 1) := by
  unfold mixL
  have h1 : ((K.take k).map (· ^^^ b)).length = k := by simp; omega
  rw [List.set_append_right _ _ (by omega), h1, Nat.sub_self, List.drop_eq_getElem_cons hk, List.set_cons_zero, List.take_succ_eq_append_getElem hk, List.map_append, List.append_assoc, getElem!_pos K k hk]
  rfl

set_option maxRecDepth 100000 in
set_option maxHeartbeats 1000000 in
theorem mixed_any (K : List UInt8) (by_ : UInt8) (w : World) (hK : K.length = 64) :
    Calls Tryd.prog 26 #[.agg (bs K).toArray, .int .u8 by_.toNat] w fun e w' => ∃ B, e = .returned (.slice (some ⟨B, 0, none⟩) 64 64) ∧ w.heap.size ≤ B ∧ Blk w' B 47 (bs (K.map (· ^^^ by_))) ∧ Fr Non w w' := by
  have HL := Lib.hid hK
  clear hK
  go_enter Tryd.func26, Tryd.ntmps26
  go_wp2_with fail
  have hb := Blk.new w 47 (bs K)
  have hf := Fr.alloc w (.cells (bs K).toArray 47)
  obtain ⟨B, hB⟩ : ∃ B, B = w.heap.size := ⟨_, rfl⟩
  rw [← hB] at hb ⊢
  have HB := Lib.hid hb
  have HF := Lib.hid hf
  have HBW := Lib.hid hB
  clear hb hf hB
  go_loopw [6] (fun i wr => ∃ k : Nat, k ≤ 64 ∧ i = .int .i64 k ∧ Blk wr B 47 (bs (mixL K by_ k)) ∧ Fr Non w wr) (fun i _ => 64 - (intOf i).toNat)
  case atStart => exact ⟨0, by omega, rfl, by unfold mixL; simpa using HB.out, HF.out⟩
  case round =>
    obtain ⟨k, hk, rfl, hb, hfr⟩ := hrel
    have HBk := Lib.hid hb
    have HFR := Lib.hid hfr
    clear hb hfr
    by_cases hlt : k < 64
    · have hkl : k < K.length := by rw [HL.out]; exact hlt
      have x0 := (HBk.out.at k (.int .u8 (K[k]!.toNat : Int)) (by rw [bs, List.getElem?_map, mixL_at K by_ k hkl]; rfl))
      obtain ⟨x0, f0⟩ := x0
      have HS := Lib.hid (mixL_set K by_ k hkl)
      have hxx := u8xor K[k]! by_
      have z0 : (0 : Int) ≤ (k : Int) := by omega
      have z1 : (k : Int) < 64 := by omega
      have hg : K[k]!.toNat < 256 := K[k]!.toNat_lt
      clear hkl
      generalize K[k]! = x at x0 HS hxx hg
      go_wp2
      go_roundw
      case rel =>
        have hs := HBk.out.set k (.int .u8 ((x ^^^ by_).toNat : Int))
        rw [bs_set, HS.out] at hs
        have hw := HBW.out
        exact ⟨k + 1, by omega, by go_num, hs, HFR.out.new (Fr.setCell wr _ _) (fun i h => by have h1 : i = B := h; omega)⟩
      case measure => simp [intOf]; omega
    · have h64 : k = 64 := by omega
      have hb : Blk wr B 47 (bs (K.map (· ^^^ by_))) := by
        have h := HBk.out
        have hl := HL.out
        rw [h64] at h
        unfold mixL at h
        rwa [List.take_of_length_le (by omega), List.drop_of_length_le (by omega), List.append_nil] at h
      have HB4 := Lib.hid hb
      have hge : decide ((k : Int) < 64) = false := by simp; omega
      clear hb h64
      go_wp2
      go_ret
      exact ⟨B, rfl, by have := HBW.out; omega, HB4.out, HFR.out⟩
end Go.Proofs.YtajknmapggkmnaaDoor
