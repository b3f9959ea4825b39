/- the document's keyed digests -/
import Derived.Test.YtajknmapggkmnaaDoorMacMath
import Derived.Test.YtajknmapggkmnaaDoorVar
import Derived.Test.YtajknmapggkmnaaDoorMore
import Derived.Test.YtajknmapggkmnaaDoorShaRefD
namespace Go.Proofs.YtajknmapggkmnaaDoor
open Go.ChangeShapes Go.WideShapes Go.ChangeAt Go.RowKit

theorem u8xor (a b : UInt8) : bits BinOp.xor IntKind.u8 (a.toNat : Int) (b.toNat : Int) = ((a ^^^ b).toNat : Int) := by
  rw [u8_xor_nat _ _ a.toNat_lt b.toNat_lt, UInt8.toNat_xor]

set_option maxRecDepth 100000 in
set_option maxHeartbeats 1000000 in
theorem crossed_any (v : Value) (key : List UInt8) (by_ : UInt8) (w : World) (hv : Row w v (bs key)) (hl : key.length ≤ 140737488351232) (hK : KAt w 1) :
    Calls Tryd.prog 21 #[v, .int .u8 by_.toNat] w fun e w' => ∃ v', e = .returned v' ∧ Own w' w.heap.size 5 v' (bs (macCross key by_)) ∧ Fr Non w w' := by
  obtain ⟨a, c, rfl, _⟩ := id hv
  rw [bs_length] at hv ⊢
  obtain ⟨i0, hi⟩ := info_parts Tryd.info5
  have HI := Lib.hid hi
  have HV := Lib.hid hv
  have HK := Lib.hid hK
  have hlenv := run_lenRow (P := Tryd.prog) hv 22 5 Tryd.underlying22
  rw [bs_length] at hlenv
  have hzv : ∀ w, (zeroValue 25).run Tryd.prog w = .ok (.agg (bs zero32).toArray) w := fun _ => by kernel_rfl
  have HZV := Lib.hid hzv
  have hif : (Tryd.prog.info? 25).map (·.size) = some (bs (sha key)).length := by rw [bs_length, sha_length]; kernel_rfl
  have HIF := Lib.hid hif
  clear hi hv hK hzv hif
  by_cases h64 : 64 < key.length
  case pos =>
    have ht : (64 : Int) < (key.length : Int) := by omega
    go_enter Tryd.func21, Tryd.ntmps21
    go_wp2_with fail
    refine (refSum_any _ key _ HV.out hl HK.out).mono ?_
    rintro e w1 ⟨rfl, hf1⟩
    go_wp2_with (refine wpList_var rfl rfl 25 6 (.tmp 15) rfl rfl rfl rfl _ (bs (sha key)) HZV.out (by rw [bs_length, bs_length, sha_length]; rfl) HIF.out (bs_one _) (by simp) (fun _ => rfl) ?_; intro w2 hb2 hf2 hs2; simp only [List.set_cons_succ, List.set_cons_zero])
    have hsz2 := hs2
    have HK2 : Hid (Row w2 (.slice (some ⟨w1.heap.size, 0, none⟩) 32 32) (bs (sha key))) := Lib.hid (by
      have h := hb2.row 0 32 (bs (sha key)) (by rw [bs_length, sha_length]; omega) (by unfold maxLen; omega) (fun j v hj => by rw [Nat.zero_add]; exact hj)
      rw [bs_length, sha_length] at h
      exact h)
    have HF2 : Hid (Fr Non w w2) := Lib.hid (hf1.non hf2)
    have HMK : Hid ((sha key).length = 32 ∧ macKey key = sha key ++ List.replicate (64 - 32) 0) := Lib.hid ⟨sha_length _, by unfold macKey; rw [if_pos h64, sha_length]⟩
    have hkl : (32 : Nat) ≤ 64 := by omega
    clear hb2 hf1 hf2 hs2 hsz2 ht h64
    generalize sha key = K at HK2 HMK
    go_loopw [7, 8] (fun v7 i wr => ∃ k : Nat, k ≤ 64 ∧ i = .int .i64 k ∧ Own wr w.heap.size 5 v7 (bs (((macKey key).take k).map (· ^^^ by_))) ∧ Row wr (.slice (some ⟨w1.heap.size, 0, none⟩) 32 32) (bs K) ∧ (K ≠ [] → Off (OwnOf v7) (.slice (some ⟨w1.heap.size, 0, none⟩) 32 32)) ∧ Fr Non w wr) (fun _ i _ => 64 - (intOf i).toNat)
    case atStart => exact ⟨0, by omega, rfl, by rw [List.take_zero]; exact Own.nil _ _ _, HK2.out, fun _ => (by intro b off n c _ h; exact absurd h (by simp [OwnOf, Value.ownBlock])), HF2.out⟩
    case round =>
      obtain ⟨k, hk, rfl, hown, hrow, hoff, hfr⟩ := hrel
      have hkey : (macKey key).length = 64 := macKey_length key
      have hsn : k < 64 → ((macKey key).take (k + 1)).map (· ^^^ by_) = ((macKey key).take k).map (· ^^^ by_) ++ [(macKey key)[k]! ^^^ by_] := fun h => by
        rw [List.take_succ_eq_append_getElem (by omega), List.map_append, getElem!_pos (macKey key) k (by omega)]; rfl
      have hol : (bs (((macKey key).take k).map (· ^^^ by_))).length = k := by rw [bs_length, List.length_map, List.length_take, hkey]; omega
      have HO := Lib.hid hown
      have HR := Lib.hid hrow
      have HOF := Lib.hid hoff
      have HFR := Lib.hid hfr
      have HSN := Lib.hid hsn
      have HOL := Lib.hid hol
      have hlk := run_lenRow (P := Tryd.prog) hrow 22 5 Tryd.underlying22
      rw [bs_length, HMK.out.1] at hlk
      clear hown hrow hoff hfr hkey hsn hol hlenv
      by_cases hlt : k < 64
      · by_cases hik : k < 32
        · have hkK : k < K.length := by rw [HMK.out.1]; exact hik
          have hx : (macKey key)[k]! = K[k]! := by
            rw [HMK.out.2, getElem!_pos _ k (by simp; omega), getElem!_pos K k hkK, List.getElem_append_left hkK]
          obtain ⟨b, off, hab, hc⟩ := (HR.out.bytes).2.2.2 k hkK
          injection hab with hab
          injection hab with e1 e2
          subst e1 e2
          rw [Nat.zero_add] at hc
          have hg : K[k]!.toNat < 256 := K[k]!.toNat_lt
          have HSN2 : Hid (((macKey key).take (k + 1)).map (· ^^^ by_) = ((macKey key).take k).map (· ^^^ by_) ++ [K[k]! ^^^ by_]) := Lib.hid (by rw [HSN.out hlt, hx])
          have z0 : (0 : Int) ≤ (k : Int) := by omega
          have z1 : (k : Int) < (32 : Int) := by omega
          have hxx := u8xor K[k]! by_
          clear hx
          generalize K[k]! = x at hc HSN2 hg hxx
          go_wp2_with (at_builtin; refine wpList_push _ rfl (.tmp 29) (.tmp 33) 22 rfl w.heap.size 5 i0 (.int .u8 0) 1 Tryd.underlying22 HI.out rfl _ _ rfl HO.out _ _ rfl rfl ⟨by rw [HOL.out]; omega, by omega⟩ HFR.out.size ?_; intro v3 w3 hown hfr3 hmv)
          have HO3 : Hid (Own w3 w.heap.size 5 v3 (bs (((macKey key).take (k + 1)).map (· ^^^ by_)))) := Lib.hid (by rw [HSN2.out, bs_snoc]; exact hown)
          have hrow3 := HR.out.frameNe hfr3 HOF.out
          have hoff3 := fun h => Row.offMoved HR.out h (HOF.out h) hmv
          have HX3 := Lib.hid (And.intro hrow3 (And.intro hoff3 (HFR.out.new hfr3 (fun i h => (HO.out.lt i h).1))))
          clear hown hfr3 hmv hrow3 hoff3 hc
          go_roundw
          case rel => exact ⟨k + 1, by omega, by go_num, HO3.out, HX3.out.1, HX3.out.2.1, HX3.out.2.2⟩
          case measure => simp [intOf]; omega
        · have hKl := HMK.out.1
          have hx : (macKey key)[k]! = 0 := by
            rw [HMK.out.2, getElem!_pos _ k (by simp; omega), List.getElem_append_right (by rw [HMK.out.1]; omega), List.getElem_replicate]
          have HSN2 : Hid (((macKey key).take (k + 1)).map (· ^^^ by_) = ((macKey key).take k).map (· ^^^ by_) ++ [by_]) := Lib.hid (by rw [HSN.out hlt, hx, UInt8.zero_xor])
          have z1 : decide ((k : Int) < (32 : Int)) = false := by simp; omega
          have hxx : bits BinOp.xor IntKind.u8 0 (by_.toNat : Int) = (by_.toNat : Int) := by have h := u8xor 0 by_; rw [UInt8.zero_xor] at h; exact h
          clear hx hKl
          go_wp2_with (at_builtin; refine wpList_push _ rfl (.tmp 29) (.tmp 33) 22 rfl w.heap.size 5 i0 (.int .u8 0) 1 Tryd.underlying22 HI.out rfl _ _ rfl HO.out _ _ rfl rfl ⟨by rw [HOL.out]; omega, by omega⟩ HFR.out.size ?_; intro v3 w3 hown hfr3 hmv)
          have HO3 : Hid (Own w3 w.heap.size 5 v3 (bs (((macKey key).take (k + 1)).map (· ^^^ by_)))) := Lib.hid (by rw [HSN2.out, bs_snoc]; exact hown)
          have hrow3 := HR.out.frameNe hfr3 HOF.out
          have hoff3 := fun h => Row.offMoved HR.out h (HOF.out h) hmv
          have HX3 := Lib.hid (And.intro hrow3 (And.intro hoff3 (HFR.out.new hfr3 (fun i h => (HO.out.lt i h).1))))
          clear hown hfr3 hmv hrow3 hoff3
          go_roundw
          case rel => exact ⟨k + 1, by omega, by go_num, HO3.out, HX3.out.1, HX3.out.2.1, HX3.out.2.2⟩
          case measure => simp [intOf]; omega
      · have h64k : k = 64 := by omega
        have hown : Own wr w.heap.size 5 u7 (bs (macCross key by_)) := by
          have h := HO.out
          rw [h64k, List.take_of_length_le (by rw [macKey_length]; exact Nat.le_refl _)] at h
          exact h
        have HO4 := Lib.hid hown
        have hge : decide ((k : Int) < 64) = false := by simp; omega
        clear hown h64k
        go_wp2
        go_ret
        exact ⟨_, rfl, HO4.out, HFR.out⟩
  case neg =>
    have ht : ¬ (64 : Int) < (key.length : Int) := by omega
    go_enter Tryd.func21, Tryd.ntmps21
    go_wp2_with fail
    have HK2 : Hid (Row w (.slice a key.length c) (bs key)) := HV
    have HF2 : Hid (Fr Non w w) := Lib.hid (Fr.refl _ _)
    have HMK : Hid (key.length = key.length ∧ macKey key = key ++ List.replicate (64 - key.length) 0) := Lib.hid ⟨rfl, by unfold macKey; rw [if_neg h64]⟩
    have hkl : key.length ≤ 64 := by omega
    clear ht h64
    go_loopw [7, 8] (fun v7 i wr => ∃ k : Nat, k ≤ 64 ∧ i = .int .i64 k ∧ Own wr w.heap.size 5 v7 (bs (((macKey key).take k).map (· ^^^ by_))) ∧ Row wr (.slice a key.length c) (bs key) ∧ (key ≠ [] → Off (OwnOf v7) (.slice a key.length c)) ∧ Fr Non w wr) (fun _ i _ => 64 - (intOf i).toNat)
    case atStart => exact ⟨0, by omega, rfl, by rw [List.take_zero]; exact Own.nil _ _ _, HK2.out, fun _ => (by intro b off n c _ h; exact absurd h (by simp [OwnOf, Value.ownBlock])), HF2.out⟩
    case round =>
      obtain ⟨k, hk, rfl, hown, hrow, hoff, hfr⟩ := hrel
      have hkey : (macKey key).length = 64 := macKey_length key
      have hsn : k < 64 → ((macKey key).take (k + 1)).map (· ^^^ by_) = ((macKey key).take k).map (· ^^^ by_) ++ [(macKey key)[k]! ^^^ by_] := fun h => by
        rw [List.take_succ_eq_append_getElem (by omega), List.map_append, getElem!_pos (macKey key) k (by omega)]; rfl
      have hol : (bs (((macKey key).take k).map (· ^^^ by_))).length = k := by rw [bs_length, List.length_map, List.length_take, hkey]; omega
      have HO := Lib.hid hown
      have HR := Lib.hid hrow
      have HOF := Lib.hid hoff
      have HFR := Lib.hid hfr
      have HSN := Lib.hid hsn
      have HOL := Lib.hid hol
      have hlk := run_lenRow (P := Tryd.prog) hrow 22 5 Tryd.underlying22
      rw [bs_length] at hlk
      clear hown hrow hoff hfr hkey hsn hol hlenv
      by_cases hlt : k < 64
      · by_cases hik : k < key.length
        · have hkK : k < key.length := hik
          have hx : (macKey key)[k]! = key[k]! := by
            rw [HMK.out.2, getElem!_pos _ k (by simp; omega), getElem!_pos key k hkK, List.getElem_append_left hkK]
          obtain ⟨b, off, hab, hc⟩ := (HR.out.bytes).2.2.2 k hkK
          subst hab
          have hg : key[k]!.toNat < 256 := key[k]!.toNat_lt
          have HSN2 : Hid (((macKey key).take (k + 1)).map (· ^^^ by_) = ((macKey key).take k).map (· ^^^ by_) ++ [key[k]! ^^^ by_]) := Lib.hid (by rw [HSN.out hlt, hx])
          have z0 : (0 : Int) ≤ (k : Int) := by omega
          have z1 : (k : Int) < (key.length : Int) := by omega
          have hxx := u8xor key[k]! by_
          clear hx
          generalize key[k]! = x at hc HSN2 hg hxx
          go_wp2_with (at_builtin; refine wpList_push _ rfl (.tmp 29) (.tmp 33) 22 rfl w.heap.size 5 i0 (.int .u8 0) 1 Tryd.underlying22 HI.out rfl _ _ rfl HO.out _ _ rfl rfl ⟨by rw [HOL.out]; omega, by omega⟩ HFR.out.size ?_; intro v3 w3 hown hfr3 hmv)
          have HO3 : Hid (Own w3 w.heap.size 5 v3 (bs (((macKey key).take (k + 1)).map (· ^^^ by_)))) := Lib.hid (by rw [HSN2.out, bs_snoc]; exact hown)
          have hrow3 := HR.out.frameNe hfr3 HOF.out
          have hoff3 := fun h => Row.offMoved HR.out h (HOF.out h) hmv
          have HX3 := Lib.hid (And.intro hrow3 (And.intro hoff3 (HFR.out.new hfr3 (fun i h => (HO.out.lt i h).1))))
          clear hown hfr3 hmv hrow3 hoff3 hc
          go_roundw
          case rel => exact ⟨k + 1, by omega, by go_num, HO3.out, HX3.out.1, HX3.out.2.1, HX3.out.2.2⟩
          case measure => simp [intOf]; omega
        · have hKl := HMK.out.1
          have hx : (macKey key)[k]! = 0 := by
            rw [HMK.out.2, getElem!_pos _ k (by simp; omega), List.getElem_append_right (by omega), List.getElem_replicate]
          have HSN2 : Hid (((macKey key).take (k + 1)).map (· ^^^ by_) = ((macKey key).take k).map (· ^^^ by_) ++ [by_]) := Lib.hid (by rw [HSN.out hlt, hx, UInt8.zero_xor])
          have z1 : decide ((k : Int) < (key.length : Int)) = false := by simp; omega
          have hxx : bits BinOp.xor IntKind.u8 0 (by_.toNat : Int) = (by_.toNat : Int) := by have h := u8xor 0 by_; rw [UInt8.zero_xor] at h; exact h
          clear hx hKl
          go_wp2_with (at_builtin; refine wpList_push _ rfl (.tmp 29) (.tmp 33) 22 rfl w.heap.size 5 i0 (.int .u8 0) 1 Tryd.underlying22 HI.out rfl _ _ rfl HO.out _ _ rfl rfl ⟨by rw [HOL.out]; omega, by omega⟩ HFR.out.size ?_; intro v3 w3 hown hfr3 hmv)
          have HO3 : Hid (Own w3 w.heap.size 5 v3 (bs (((macKey key).take (k + 1)).map (· ^^^ by_)))) := Lib.hid (by rw [HSN2.out, bs_snoc]; exact hown)
          have hrow3 := HR.out.frameNe hfr3 HOF.out
          have hoff3 := fun h => Row.offMoved HR.out h (HOF.out h) hmv
          have HX3 := Lib.hid (And.intro hrow3 (And.intro hoff3 (HFR.out.new hfr3 (fun i h => (HO.out.lt i h).1))))
          clear hown hfr3 hmv hrow3 hoff3
          go_roundw
          case rel => exact ⟨k + 1, by omega, by go_num, HO3.out, HX3.out.1, HX3.out.2.1, HX3.out.2.2⟩
          case measure => simp [intOf]; omega
      · have h64k : k = 64 := by omega
        have hown : Own wr w.heap.size 5 u7 (bs (macCross key by_)) := by
          have h := HO.out
          rw [h64k, List.take_of_length_le (by rw [macKey_length]; exact Nat.le_refl _)] at h
          exact h
        have HO4 := Lib.hid hown
        have hge : decide ((k : Int) < 64) = false := by simp; omega
        clear hown h64k
        go_wp2
        go_ret
        exact ⟨_, rfl, HO4.out, HFR.out⟩
end Go.Proofs.YtajknmapggkmnaaDoor
