/- the document's examples (the head of all statements of layer 2); the sum goes on, and of lists, as the document says; masks -/
import Derived.Test.YtnkjomfekobemaaCrcB
import Derived.Lib.SlBytesConst
namespace Go.Proofs.Ytnkjomfekobemaa
open Go.ChangeShapes Go.WideShapes Go.ChangeAt Go.RowKit

set_option maxRecDepth 100000 in
theorem shown2_any (w : World) : Calls Try.prog 9 #[] w fun e w' => e = .returned (.bool true) ∧ Fr Non w w' := by
  have kc := fun (w : World) (C : Array Value) (n c : Nat) => Lib.run_convert_bytes_const (P := Try.prog) w 23 5 C n c Try.underlying23 Try.underlying5
  have k2 := kc (w.alloc (Obj.cells #[.int .u8 49, .int .u8 50, .int .u8 51, .int .u8 52] 5 (4, 5))) #[.int .u8 53, .int .u8 54, .int .u8 55, .int .u8 56, .int .u8 57] 5 5
  rw [show (w.alloc (Obj.cells #[.int .u8 49, .int .u8 50, .int .u8 51, .int .u8 52] 5 (4, 5))).heap.size = w.heap.size + 1 from by simp] at k2
  go_enter Try.func9, Try.ntmps9
  go_wp2_with fail
  clear kc k2
  refine (Sum_any _ [[49, 50, 51, 52], [53, 54, 55, 56, 57]] _ (Rows2.built (n := 2) (us := [.slice (some ⟨w.heap.size, 0, none⟩) 4 4, .slice (some ⟨w.heap.size + 1, 0, none⟩) 5 5]) (by simp) rfl (by decide) rfl (all2 ?c1 ?c2))).mono ?_
  case c1 => exact (Row.builtM w (bs [49, 50, 51, 52]) 5 4 (4, 5) rfl rfl (by decide)).non (Fr.alloc _ _)
  case c2 => exact Row.builtM _ (bs [53, 54, 55, 56, 57]) 5 5 (5, 6) (by simp) rfl (by decide)
  rintro e w1 ⟨rfl, hw1⟩
  have hf : Fr Non w w1 := by rw [← hw1]; exact ((Fr.alloc w _).non (Fr.alloc _ _)).non (Fr.alloc _ _)
  clear hw1
  have e1 : cSum [[49, 50, 51, 52], [53, 54, 55, 56, 57]] = 3808858755 := by decide +kernel
  rw [e1]
  clear e1
  go_wp2_with fail
  refine (Mask_any 0 _ (by omega)).mono ?_
  rintro e w' ⟨rfl, rfl⟩
  have e2 : cMask 0 = 2726488792 := by decide +kernel
  rw [e2]
  clear e2
  go_wp2_with fail
  refine (crcMore_any 0 _ [0] _ (by omega) (Row.built w1 (bs [0]) 5 1 rfl (by decide))).mono ?_
  rintro e w' ⟨rfl, rfl⟩
  have e3 : cMore 0 [0] = 1383945041 := by decide +kernel
  rw [e3]
  clear e3
  go_wp2_with fail
  go_ret
  exact ⟨rfl, hf.non (Fr.alloc _ _)⟩

theorem beq_self_int (a : Int) : (a == a) = true := by simp

/-- P2.1: the sum goes on -/
theorem morew (W : World) (n : Nat) (v : Value) (l : List UInt8) (hn : (n : Int) ≤ IntKind.u32.max) (hv : Row W v (bs l)) (_ : l.length ≤ 140737488351232) :
    Calls Try.prog 3 #[.int .u32 n, v] W fun e w' => e = .returned (.bool true) ∧ Fr Non W w' := by
  have hn2 : n < 4294967296 := by rw [show IntKind.u32.max = 4294967295 by decide] at hn; omega
  clear hn
  go_enter Try.func3, Try.ntmps3
  go_wp2_with fail
  refine (shown2_any W).mono ?_
  rintro e w1 ⟨rfl, hf⟩
  go_wp2_with fail
  refine (crcMore_any n v l _ hn2 (hv.non hf)).mono ?_
  rintro e w' ⟨rfl, rfl⟩
  go_wp2_with fail
  refine (refMore_any n v l _ hn2 (hv.non hf)).mono ?_
  rintro e w' ⟨rfl, rfl⟩
  go_wp2_with fail
  go_ret
  exact ⟨by simp, hf⟩

set_option maxRecDepth 100000 in
/-- P2.1: the sum of lists -/
theorem sumsw (W : World) (v : Value) (ls : List (List UInt8)) (hv : Rows2 W v ls) :
    Calls Try.prog 4 #[v] W fun e w' => e = .returned (.bool true) ∧ Fr Non W w' := by
  obtain ⟨vs, hr, hlen, hrows⟩ := id hv
  obtain ⟨a, c, rfl, hl, hm, h3, h4⟩ := hr
  unfold maxLen at hm
  have HV := Lib.hid hv
  have HR := Lib.hid hrows
  have H4 := Lib.hid h4
  have HL := Lib.hid hlen
  clear hrows h4 hlen h3 hv
  go_enter Try.func4, Try.ntmps4
  go_wp2_with fail
  refine (shown2_any W).mono ?_
  rintro e w1 ⟨rfl, hf⟩
  go_wp2_with fail
  go_loopw [4, 9] (fun y i wr => ∃ k m : Nat, k ≤ vs.length ∧ i = .int .i64 k ∧ y = .int .u32 m ∧ m < 4294967296 ∧ m = cSum (ls.take k) ∧ w1 = wr) (fun _ i _ => vs.length - (intOf i).toNat)
  case atStart => exact ⟨0, 0, by omega, rfl, rfl, by omega, rfl, rfl⟩
  case round =>
    obtain ⟨k, m, hk, rfl, rfl, hm2, he, rfl⟩ := hrel
    have HE := Lib.hid he
    clear he
    by_cases hlt : k < vs.length
    · obtain ⟨b, off, rfl, hc⟩ := H4.out k hlt
      have hc1 : w1.cell? ⟨b, off + k, none⟩ = some vs[k] := hf.cell (hc k _ (List.getElem?_eq_getElem hlt)) (fun h => h)
      have hr1 := Lib.hid ((HR.out k _ (List.getElem?_eq_getElem hlt)).non hf)
      generalize vs[k] = u at hc1 hr1
      clear hc
      go_wp2_with fail
      refine (refMore_any m u _ _ hm2 hr1.out).mono ?_
      rintro e w' ⟨rfl, rfl⟩
      go_wp2_with fail
      go_roundw
      case rel => exact ⟨k + 1, cMore m ls[k]!, by omega, by go_num, by simp, cMore_lt _ _, by rw [HE.out, cSum_take _ _ (by have := HL.out; omega)], trivial⟩
      case measure => simp [intOf]; omega
    · go_wp2_with fail
      refine (Sum_any _ ls _ (HV.out.frame hf)).mono ?_
      rintro e w' ⟨rfl, rfl⟩
      have h := HE.out
      rw [List.take_of_length_le (by have := HL.out; omega)] at h
      subst h
      go_wp2_with fail
      go_ret
      exact ⟨by simp, hf⟩

/-- P2.2: masks -/
theorem masksw (W : World) (n : Nat) (hn : (n : Int) ≤ IntKind.u32.max) :
    Calls Try.prog 5 #[.int .u32 n] W fun e w' => e = .returned (.bool true) ∧ Fr Non W w' := by
  have hn2 : n < 4294967296 := by rw [show IntKind.u32.max = 4294967295 by decide] at hn; omega
  clear hn
  go_enter Try.func5, Try.ntmps5
  go_wp2_with fail
  refine (shown2_any W).mono ?_
  rintro e w1 ⟨rfl, hf⟩
  go_wp2_with fail
  refine (Mask_any n _ hn2).mono ?_
  rintro e w' ⟨rfl, rfl⟩
  go_wp2_with fail
  refine (refMask_any n _ hn2).mono ?_
  rintro e w' ⟨rfl, rfl⟩
  go_wp2_with fail
  refine (Unmask_any n _ hn2).mono ?_
  rintro e w' ⟨rfl, rfl⟩
  go_wp2_with fail
  refine (refUnmask_any n _ hn2).mono ?_
  rintro e w' ⟨rfl, rfl⟩
  go_wp2_with fail
  refine (Mask_any n _ hn2).mono ?_
  rintro e w' ⟨rfl, rfl⟩
  go_wp2_with fail
  refine (Unmask_any _ _ (cMask_lt n)).mono ?_
  rintro e w' ⟨rfl, rfl⟩
  rw [cUnmask_cMask n hn2]
  go_wp2_with fail
  refine (Unmask_any n _ hn2).mono ?_
  rintro e w' ⟨rfl, rfl⟩
  go_wp2_with fail
  refine (Mask_any _ _ (cUnmask_lt n)).mono ?_
  rintro e w' ⟨rfl, rfl⟩
  rw [cMask_cUnmask n hn2]
  go_wp2_with fail
  go_ret
  exact ⟨by simp, hf⟩

/-- P2.4: one byte more -/
theorem nextw (W : World) (a b c : Nat) (ha : (a : Int) ≤ IntKind.u32.max) (hb : (b : Int) ≤ IntKind.u32.max) (hc : (c : Int) ≤ IntKind.u8.max) :
    Calls Try.prog 8 #[.int .u32 a, .int .u32 b, .int .u8 c] W fun e w' => e = .returned (.bool true) ∧ Fr Non W w' := by
  have ha2 : a < 4294967296 := by rw [show IntKind.u32.max = 4294967295 by decide] at ha; omega
  have hb2 : b < 4294967296 := by rw [show IntKind.u32.max = 4294967295 by decide] at hb; omega
  obtain ⟨d, rfl⟩ : ∃ d : UInt8, c = d.toNat := ⟨UInt8.ofNat c, by
    rw [show IntKind.u8.max = 255 by decide] at hc
    rw [UInt8.toNat_ofNat', Nat.mod_eq_of_lt (by omega)]⟩
  clear ha hb hc
  go_enter Try.func8, Try.ntmps8
  go_wp2_with fail
  refine (shown2_any W).mono ?_
  rintro e w1 ⟨rfl, hf⟩
  go_wp2_with fail
  refine (crcMore_any a _ [d] _ ha2 (Row.built w1 (bs [d]) 5 1 rfl (by decide))).mono ?_
  rintro e w2 ⟨rfl, hw2⟩
  have hf2 : Fr Non w1 w2 := by rw [← hw2]; exact Fr.alloc _ _
  clear hw2
  go_wp2_with fail
  refine (crcMore_any b _ [d] _ hb2 (Row.built w2 (bs [d]) 5 1 rfl (by decide))).mono ?_
  rintro e w3 ⟨rfl, hw3⟩
  have hf3 : Fr Non w2 w3 := by rw [← hw3]; exact Fr.alloc _ _
  clear hw3
  have hi := Lib.hid (cMore_inj ha2 hb2 [d])
  generalize cMore a [d] = x at hi
  generalize cMore b [d] = y at hi
  go_wp2_with fail
  go_ret
  refine ⟨?_, (hf.non hf2).non hf3⟩
  have := hi.out
  simp
  rw [Bool.eq_iff_iff]
  simp
  omega
end Go.Proofs.Ytnkjomfekobemaa
