/- the document's keyed digests: Expand -/
import Derived.Test.YtpmkcjgndljhgaaDoorMacRefB

namespace Go.Proofs.YtpmkcjgndljhgaaDoor
open Go.ChangeShapes Go.WideShapes Go.ChangeAt Go.RowKit

theorem macLast_length (key use : List UInt8) (k : Nat) : (macLast key use k).length ≤ 32 := by
  cases k with
  | zero => simp [macLast]
  | succ k => rw [macLast, macSum_length]; omega
theorem expandRef_no (v u : Value) (n : Int) (w : World) (hn : n < 0 ∨ 8160 < n) :
    Calls Tryd.prog 45 #[v, u, .int .i64 n] w fun e w' => e = .returned (.tuple #[.slice none 0 0, .int .i64 4]) ∧ w = w' := by
  rcases hn with h | h
  · go_enter Tryd.func45, Tryd.ntmps45
    go_wp2
    go_ret2
    exact ⟨rfl, rfl⟩
  · have h0 : ¬ n < 0 := by omega
    go_enter Tryd.func45, Tryd.ntmps45
    go_wp2
    go_ret2
    exact ⟨rfl, rfl⟩

set_option maxRecDepth 100000 in
set_option maxHeartbeats 1000000 in
theorem expandRef_any (v u : Value) (key use : List UInt8) (n : Nat) (w : World) (hv : Row w v (bs key)) (hl : key.length ≤ 140737488351232) (hu : Row w u (bs use)) (hul : use.length ≤ 140737488353000) (hn : n ≤ 8160) (hK : KAt w 2) :
    Calls Tryd.prog 45 #[v, u, .int .i64 n] w fun e w' => ∃ v', e = .returned (.tuple #[v', .int .i64 0]) ∧ Row w' v' (bs (macExpand key use n)) ∧ Fr Non w w' := by
  obtain ⟨i0, hi⟩ := info_parts Tryd.info5
  have HI := Lib.hid hi
  have HV := Lib.hid hv
  have HU := Lib.hid hu
  have HK := Lib.hid hK
  have hzv : ∀ w, (zeroValue 42).run Tryd.prog w = .ok (.agg (bs zero32).toArray) w := fun _ => by kernel_rfl
  have HZV := Lib.hid hzv
  have hif : (Tryd.prog.info? 42).map (·.size) = some 32 := by kernel_rfl
  have HIF := Lib.hid hif
  have hn0 : (0 : Int) ≤ (n : Int) := by omega
  have hn1 : (n : Int) ≤ 8160 := by omega
  clear hi hv hu hK hzv hif
  go_enter Tryd.func45, Tryd.ntmps45
  go_wp2_with fail
  go_loopw [8, 9, 10] (fun v8 v9 i wr => ∃ k : Nat, k ≤ macRounds n ∧ i = .int .i64 ((k : Int) + 1) ∧ Own wr w.heap.size 5 v8 (bs (macAll key use k)) ∧ Own wr w.heap.size 5 v9 (bs (macLast key use k)) ∧ Fr Non w wr) (fun v8 _ _ _ => n - vlen v8)
  case atStart => exact ⟨0, Nat.zero_le _, rfl, Own.nil _ _ _, Own.nil _ _ _, Fr.refl _ _⟩
  case round =>
    obtain ⟨k, hk, rfl, hall, hlast, hfr⟩ := hrel
    have hlen := run_lenRow (P := Tryd.prog) hall.row 33 5 Tryd.underlying33
    rw [bs_length, macAll_length] at hlen
    have hkr : macRounds n = (n + 31) / 32 := rfl
    have HA := Lib.hid hall
    have HL := Lib.hid hlast
    have HF := Lib.hid hfr
    have hll := macLast_length key use k
    have HLL := Lib.hid hll
    have hk256 : k ≤ 255 := by omega
    clear hall hlast hfr hll
    by_cases hlt : 32 * k < n
    · have hlt2 : ((32 * k : Nat) : Int) < (n : Int) := by omega
      have HKR := Lib.hid (show k + 1 ≤ macRounds n by omega)
      clear hkr
      have hk255 : k + 1 ≤ 255 := by have := HKR.out; unfold macRounds at this; omega
      have hkb : IntKind.u8.wrap ((k : Int) + 1) = ((k + 1 : Nat) : Int) := by rw [IntKind.wrap_u8]; omega
      go_wp2_with (at_builtin; refine wpList_appRow _ rfl (.tmp 25) (.tmp 26) 33 rfl wr.heap.size 5 i0 (.int .u8 0) 1 Tryd.underlying33 HI.out rfl _ [] rfl (Own.empty _ _ _ (Nat.le_refl _)) _ (bs (macLast key use k)) rfl (HL.out.row.non (Fr.alloc _ _)) (bs_one _) ⟨by rw [bs_length]; have := HLL.out; simp; omega, by omega⟩ (Fr.alloc _ _).size ?_)
      intro v11 w1 hown hfr hmv
      clear hmv
      have HF1 : Hid (Fr Non wr w1) := Lib.hid ((Fr.alloc _ _).new hfr (fun i hi => by cases hi; exact Nat.le_refl _))
      have HO1 : Hid (Own w1 wr.heap.size 5 v11 (bs (macLast key use k))) := Lib.hid hown
      clear hown hfr
      go_wp2_with (at_builtin; refine wpList_appRow _ rfl (.tmp 28) (.tmp 29) 33 rfl wr.heap.size 5 i0 (.int .u8 0) 1 Tryd.underlying33 HI.out rfl _ _ rfl HO1.out _ (bs use) rfl ((HU.out.non HF.out).non HF1.out) (bs_one _) ⟨by rw [bs_length, bs_length]; have := HLL.out; omega, by omega⟩ HF1.out.size ?_)
      intro v12 w2 hown hfr hmv
      clear hmv
      have HF2 : Hid (Fr Non wr w2) := Lib.hid (HF1.out.new hfr (fun i h => (HO1.out.lt i h).1))
      have HO2 : Hid (Own w2 wr.heap.size 5 v12 (bs (macLast key use k ++ use))) := Lib.hid (by rw [bs_append]; exact hown)
      clear hown hfr HO1 HF1
      go_wp2_with (at_builtin; refine wpList_push _ rfl (.tmp 31) (.tmp 34) 33 rfl wr.heap.size 5 i0 (.int .u8 0) 1 Tryd.underlying33 HI.out rfl _ _ rfl HO2.out _ _ rfl rfl ⟨by rw [bs_length, List.length_append]; have := HLL.out; omega, by omega⟩ HF2.out.size ?_)
      intro v13 w3 hown hfr hmv
      clear hmv
      have HF3 : Hid (Fr Non wr w3) := Lib.hid (HF2.out.new hfr (fun i h => (HO2.out.lt i h).1))
      have HO3 : Hid (Row w3 v13 (bs (macLast key use k ++ use ++ [UInt8.ofNat (k + 1)]))) := Lib.hid (by rw [bs_snoc, ofNat_toNat _ (by omega)]; exact hown.row)
      have HL3 : Hid ((macLast key use k ++ use ++ [UInt8.ofNat (k + 1)]).length ≤ 140737488354000) := Lib.hid (by rw [List.length_append, List.length_append]; have := HLL.out; simp; omega)
      clear hown hfr HO2 HF2
      go_wp2_with fail
      refine (macRef_any v v13 key _ w3 ((HV.out.non HF.out).non HF3.out) hl HO3.out HL3.out ((HK.out.frame HF.out (fun h => h)).frame HF3.out (fun h => h))).mono ?_
      rintro e w4 ⟨rfl, hf4⟩
      rw [show macSum key (macLast key use k ++ use ++ [UInt8.ofNat (k + 1)]) = macLast key use (k + 1) from rfl]
      have HF4 := Lib.hid (HF3.out.non hf4)
      have HD : Hid ((macLast key use (k + 1)).length = 32 ∧ macAll key use (k + 1) = macAll key use k ++ macLast key use (k + 1)) := Lib.hid ⟨macSum_length _ _, rfl⟩
      obtain ⟨D, hD⟩ : ∃ D, D = macLast key use (k + 1) := ⟨_, rfl⟩
      rw [← hD] at HD ⊢
      have HDE := Lib.hid hD
      clear hf4 hD HO3 HL3 HF3
      go_wp2_with (refine wpList_var rfl rfl 42 12 (.tmp 38) rfl rfl rfl rfl _ (bs D) HZV.out (by rw [bs_length, bs_length, HD.out.1]; rfl) (by rw [bs_length, HD.out.1]; exact HIF.out) (bs_one _) (by simp) (fun _ => rfl) ?_)
      intro w5 hb5 hf5 hs5
      simp only [List.set_cons_succ, List.set_cons_zero]
      obtain ⟨X, hX⟩ : ∃ X, X = w4.heap.size := ⟨_, rfl⟩
      rw [← hX] at hb5 ⊢
      have HRD : Hid (Row w5 (.slice (some ⟨X, 0, none⟩) 32 32) (bs D)) := Lib.hid (by
        have h := hb5.row 0 32 (bs D) (by rw [bs_length, HD.out.1]; omega) (by unfold maxLen; omega) (fun j v hj => by rw [Nat.zero_add]; exact hj)
        rw [bs_length, HD.out.1] at h
        exact h)
      have HF5 := Lib.hid (HF4.out.non hf5)
      clear hb5 hf5 hs5 hX HF4
      go_wp2_with (at_builtin; refine wpList_appRow _ rfl (.tmp 39) (.tmp 40) 33 rfl wr.heap.size 5 i0 (.int .u8 0) 1 Tryd.underlying33 HI.out rfl _ [] rfl (Own.empty _ _ _ HF5.out.size) _ (bs D) rfl (HRD.out.non (Fr.alloc _ _)) (bs_one _) ⟨by rw [bs_length, HD.out.1]; simp, by omega⟩ (Nat.le_trans HF5.out.size (Fr.alloc _ _).size) ?_)
      intro v14 w6 hown hfr hmv
      clear hmv
      have HF6 : Hid (Fr Non wr w6) := Lib.hid (HF5.out.non ((Fr.alloc _ _).new hfr (fun i hi => by cases hi; exact Nat.le_refl _)))
      have HO6 : Hid (Own w6 wr.heap.size 5 v14 (bs D)) := Lib.hid hown
      clear hown hfr HRD HF5
      go_wp2_with (at_builtin; refine wpList_appRow _ rfl (.tmp 42) (.tmp 43) 33 rfl w.heap.size 5 i0 (.int .u8 0) 1 Tryd.underlying33 HI.out rfl _ _ rfl (HA.out.non HF6.out) _ (bs D) rfl HO6.out.row (bs_one _) ⟨by rw [bs_length, bs_length, macAll_length, HD.out.1]; omega, by omega⟩ (Nat.le_trans HF.out.size HF6.out.size) ?_)
      intro v15 w7 hown hfr hmv
      clear hmv
      have HA7 : Hid (Own w7 w.heap.size 5 v15 (bs (macAll key use (k + 1)))) := Lib.hid (by rw [HD.out.2, bs_append]; exact hown)
      have HL7 : Hid (Own w7 w.heap.size 5 v14 (bs (macLast key use (k + 1)))) := Lib.hid (by
        rw [← HDE.out]
        exact (HO6.out.frame hfr (Off.own (fun b h1 h2 => by
          have h3 := (HO6.out.lt b h1).1
          have h4 := (HA.out.lt b h2).2
          omega))).mono HF.out.size)
      have HF7 : Hid (Fr Non w w7) := Lib.hid ((HF.out.non HF6.out).new hfr (fun i h => (HA.out.lt i h).1))
      clear hown hfr HO6 HF6
      go_wp2
      go_roundw
      case rel => exact ⟨k + 1, HKR.out, by go_num, HA7.out, HL7.out, HF7.out⟩
      case measure =>
        rw [HA7.out.vlen, HA.out.vlen, bs_length, bs_length, macAll_length, macAll_length]
        omega
    · have hge : decide (((32 * k : Nat) : Int) < (n : Int)) = false := by simp; omega
      have hrn : macRounds n = k := by omega
      obtain ⟨v9, hsl, hv9, -⟩ := run_subHi (P := Tryd.prog) HA.out.row 33 5 Tryd.underlying33 (by kernel_rfl) .i64 (n : Int) n rfl (by rw [bs_length, macAll_length]; omega)
      have HV9 : Hid (Row wr v9 (bs (macExpand key use n))) := Lib.hid (by
        unfold macExpand
        rw [hrn]
        simpa [bs, List.map_take] using hv9)
      clear hv9 hrn hkr
      go_wp2
      go_ret2
      exact ⟨_, rfl, HV9.out, HF.out⟩
end Go.Proofs.YtpmkcjgndljhgaaDoor
