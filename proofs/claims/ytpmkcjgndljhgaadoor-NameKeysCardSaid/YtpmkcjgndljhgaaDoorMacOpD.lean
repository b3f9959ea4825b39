/- package mac: Expand -/
import Derived.Test.YtpmkcjgndljhgaaDoorMacOpX
import Derived.Test.YtpmkcjgndljhgaaDoorMacRefV
import Derived.Lib.MinMax

namespace Go.Proofs.YtpmkcjgndljhgaaDoor
open Go.ChangeShapes Go.WideShapes Go.ChangeAt Go.RowKit

theorem expandOp_no (v u : Value) (n : Int) (w : World) (hn : n < 0 ∨ 8160 < n) :
    Calls Tryd.prog 43 #[v, u, .int .i64 n] w fun e w' => e = .returned (.tuple #[.slice none 0 0, .int .i64 4]) ∧ w = w' := by
  rcases hn with h | h
  · go_enter Tryd.func43, Tryd.ntmps43
    go_wp2
    go_ret2
    exact ⟨rfl, rfl⟩
  · have h0 : ¬ n < 0 := by omega
    go_enter Tryd.func43, Tryd.ntmps43
    go_wp2
    go_ret2
    exact ⟨rfl, rfl⟩
theorem macAll_take (key use : List UInt8) (n k : Nat) : (macAll key use (k + 1)).take n = (macAll key use k).take n ++ (macLast key use (k + 1)).take (min 32 (n - 32 * k)) := by
  have h1 := macAll_length key use k
  have h2 : (macLast key use (k + 1)).length = 32 := macSum_length _ _
  rw [macAll, List.take_append, h1]
  congr 1
  rcases Nat.lt_or_ge (n - 32 * k) 32 with h3 | h3
  · rw [Nat.min_eq_right (by omega)]
  · rw [List.take_of_length_le (by omega), List.take_of_length_le (by omega)]

set_option maxRecDepth 100000 in
set_option maxHeartbeats 1000000 in
theorem expandOp_any (v u : Value) (key use : List UInt8) (n : Nat) (w : World) (hv : Row w v (bs key)) (hl : key.length ≤ 140737488351232) (hu : Row w u (bs use)) (hul : use.length ≤ 140737488351232) (hn : n ≤ 8160) (hT : ShaT w) :
    Calls Tryd.prog 43 #[v, u, .int .i64 n] w fun e w' => ∃ v', e = .returned (.tuple #[v', .int .i64 0]) ∧ Own w' w.heap.size 5 v' (bs (macExpand key use n)) ∧ Fr Non w w' := by
  obtain ⟨i0, hi⟩ := info_parts Tryd.info5
  obtain ⟨a, c, rfl, -⟩ := id hu
  rw [bs_length] at hu ⊢
  have HI := Lib.hid hi
  have HV := Lib.hid hv
  have HU := Lib.hid hu
  have HT := Lib.hid hT
  have hzv : ∀ w, (zeroValue 42).run Tryd.prog w = .ok (.agg (bs zero32).toArray) w := fun _ => by kernel_rfl
  have HZV := Lib.hid hzv
  have hif : (Tryd.prog.info? 42).map (·.size) = some 32 := by kernel_rfl
  have HIF := Lib.hid hif
  have hn0 : (0 : Int) ≤ (n : Int) := by omega
  have hn1 : (n : Int) ≤ 8160 := by omega
  clear hi hv hu hT hzv hif
  go_enter Tryd.func43, Tryd.ntmps43
  go_wp2_with (at_make; refine wpList_make_own _ rfl _ _ 33 rfl w.heap.size 5 i0 (.int .u8 0) 1 Tryd.underlying33 HI.out.1 HI.out.2.1 HI.out.2.2.1 .i64 .i64 (n : Int) n rfl rfl rfl (by rw [HI.out.2.2.2]; omega) (by unfold maxLen; omega) (Nat.le_refl _) ?_)
  intro w1 hown hgr
  have HO1 : Hid (Own w1 w.heap.size 5 (.slice (some ⟨w.heap.size, 0, none⟩) 0 n) (bs ((macAll key use 0).take n))) := Lib.hid (by rw [macAll, List.take_nil]; exact hown)
  have HF1 := Lib.hid (Fr.ofGrownNone hgr)
  clear hown hgr
  go_wp2_with fail
  go_loopw [8, 9, 10] (fun v8 v9 i wr => ∃ k : Nat, k ≤ macRounds n ∧ i = .int .i64 ((k : Int) + 1) ∧ Own wr w.heap.size 5 v8 (bs ((macAll key use k).take n)) ∧ Row wr v9 (bs (macLast key use k)) ∧ (macLast key use k ≠ [] → Off (OwnOf v8) v9) ∧ Fr Non w wr) (fun v8 _ _ _ => n - vlen v8)
  case atStart => exact ⟨0, Nat.zero_le _, rfl, HO1.out, Row.nil _, fun h => absurd rfl h, HF1.out⟩
  case round =>
    obtain ⟨k, hk, rfl, hall, hlast, hoff, hfr⟩ := hrel
    obtain ⟨a9, c9, rfl, -⟩ := id hlast
    have hal : ((macAll key use k).take n).length = min n (32 * k) := by rw [List.length_take, macAll_length]
    have hlen := run_lenRow (P := Tryd.prog) hall.row 33 5 Tryd.underlying33
    rw [bs_length, hal] at hlen
    have hkr : macRounds n = (n + 31) / 32 := rfl
    have HA := Lib.hid hall
    have HL := Lib.hid hlast
    have HOF := Lib.hid hoff
    have HF := Lib.hid hfr
    have HAL := Lib.hid hal
    have hll := macLast_length key use k
    have HLL := Lib.hid hll
    have hk256 : k ≤ 255 := by omega
    clear hall hlast hoff hfr hll hal
    by_cases hlt : 32 * k < n
    · obtain ⟨m, hm⟩ : ∃ m, m = min n (32 * k) := ⟨_, rfl⟩
      have hmk : m = 32 * k := by omega
      rw [← hm] at hlen HAL
      have hlt2 : (m : Int) < (n : Int) := by omega
      have HKR := Lib.hid (show k + 1 ≤ macRounds n by omega)
      have HMK := Lib.hid hmk
      clear hkr hm hmk
      have hk255 : k + 1 ≤ 255 := by have := HKR.out; unfold macRounds at this; omega
      have hkb : IntKind.u8.wrap ((k : Int) + 1) = ((k + 1 : Nat) : Int) := by rw [IntKind.wrap_u8]; omega
      obtain ⟨L, hL⟩ : ∃ L, L = macLast key use k := ⟨_, rfl⟩
      rw [← hL] at HL HOF HLL ⊢
      have HLE := Lib.hid hL
      clear hL
      have hb1 : bs [UInt8.ofNat (k + 1)] = [Value.int .u8 ((k : Int) + 1)] := by
        show [Value.int .u8 ((UInt8.ofNat (k + 1)).toNat : Int)] = _
        rw [ofNat_toNat _ (by omega)]; rfl
      have hr3 : ∀ e, Row (wr.alloc (.cells #[Value.int .u8 ((k : Int) + 1)] e)) (.slice (some ⟨wr.heap.size, 0, none⟩) 1 1) (bs [UInt8.ofNat (k + 1)]) := fun e => by
        rw [hb1]
        exact Row.built wr [Value.int .u8 ((k : Int) + 1)] e 1 rfl (by decide)
      have HR3 := Lib.hid hr3
      clear hb1 hr3
      go_wp2_with fail
      have hfa : Fr Non wr (wr.alloc (.cells #[Value.int .u8 ((k : Int) + 1)] 5)) := Fr.alloc _ _
      refine (macOp_any v _ key [L, use, [UInt8.ofNat (k + 1)]] _ (((HV.out.non HF.out).non hfa).non (Fr.alloc _ _)) hl (Rows2.built (n := 3) (us := [.slice a9 (bs L).length c9, .slice a use.length c, .slice (some ⟨wr.heap.size, 0, none⟩) 1 1]) (by simp) rfl (by decide) rfl (all3 (HL.out.non hfa) ((HU.out.non HF.out).non hfa) (HR3.out _))) (by have := HLL.out; simp; omega) (by have := HLL.out; simp; omega) (((HT.out.non HF.out).non hfa).non (Fr.alloc _ _))).mono ?_
      rintro e w4 ⟨rfl, hf4⟩
      have hDL : (macLast key use (k + 1)).length = 32 := macSum_length _ _
      have hDE : macSum key ([L, use, [UInt8.ofNat (k + 1)]] : List (List UInt8)).flatten = macLast key use (k + 1) := by rw [HLE.out]; simp [macLast]
      rw [hDE]
      have htk := macAll_take key use n k
      obtain ⟨D, hD⟩ : ∃ D, D = macLast key use (k + 1) := ⟨_, rfl⟩
      rw [← hD] at hDL htk ⊢
      have HD := Lib.hid (And.intro hD (And.intro hDL htk))
      have HF4 : Hid (Fr Non wr w4) := Lib.hid (hfa.non ((Fr.alloc _ _).non hf4))
      clear hDL hDE htk hD hf4 hfa
      go_wp2_with ((with_reducible show wpList _ _ _ (({ op := .alloc _, .. } : Oper) :: _) _ _); refine wpList_var rfl rfl 42 11 (.tmp 33) rfl rfl rfl rfl _ (bs D) HZV.out (by rw [bs_length, bs_length, HD.out.2.1]; rfl) (by rw [bs_length, HD.out.2.1]; exact HIF.out) (bs_one _) (by simp) (fun _ => rfl) ?_)
      intro w5 hb5 hf5 hs5
      simp only [List.set_cons_succ, List.set_cons_zero]
      obtain ⟨X, hX⟩ : ∃ X, X = w4.heap.size := ⟨_, rfl⟩
      rw [← hX] at hb5 ⊢
      have HB5 := Lib.hid hb5
      have HF5 : Hid (Fr Non wr w5) := Lib.hid (HF4.out.non hf5)
      have hXw : wr.heap.size ≤ X := by have := HF4.out.size; omega
      have HX := Lib.hid hXw
      clear hb5 hf5 hs5 hX hXw
      obtain ⟨q, hq⟩ : ∃ q, q = min 32 (n - 32 * k) := ⟨_, rfl⟩
      have hq32 : q ≤ 32 := by omega
      have hmin : min (32 : Int) ((n : Int) - (m : Int)) = (q : Int) := by have := HMK.out; omega
      have hsl := run_arrHi (P := Tryd.prog) Tryd.underlying42 (by kernel_rfl) X 0 .i64 (q : Int) q rfl hq32
      have hrq : Row w5 (.slice (some ⟨X, 0, none⟩) q 32) (bs (D.take q)) := by
        have hl2 : (bs (D.take q)).length = q := by rw [bs_length, List.length_take, HD.out.2.1]; omega
        have h := HB5.out.row 0 32 (bs (D.take q)) (by rw [hl2]; exact hq32) (by unfold maxLen; omega) (fun j v hj => by
          rw [Nat.zero_add]
          simp only [bs, List.map_take] at hj ⊢
          rw [List.getElem?_take] at hj
          split at hj
          · exact hj
          · cases hj)
        rw [hl2] at h
        exact h
      have HRQ := Lib.hid hrq
      have HQ := Lib.hid hq
      have hnm : (0 : Int) ≤ (n : Int) - (m : Int) := by omega
      clear hrq hq
      go_wp2_with (at_builtin; refine wpList_appRow _ rfl (.tmp 34) (.tmp 40) 33 rfl w.heap.size 5 i0 (.int .u8 0) 1 Tryd.underlying33 HI.out rfl _ _ rfl (HA.out.non HF5.out) _ (bs (D.take q)) rfl HRQ.out (bs_one _) ⟨by rw [bs_length, bs_length, HAL.out, List.length_take, HD.out.2.1]; omega, by omega⟩ (Nat.le_trans HF.out.size HF5.out.size) ?_)
      intro v6 w6 hown hfr hmv
      have HA6 : Hid (Own w6 w.heap.size 5 v6 (bs ((macAll key use (k + 1)).take n))) := Lib.hid (by rw [HD.out.2.2, bs_append, ← HQ.out]; exact hown)
      have hlX : X < w5.heap.size := HB5.out.lt
      have hof8 : ¬ OwnOf u8 X := fun h => by have h1 := (HA.out.lt X h).2; have h2 := HX.out; omega
      have hbX : Blk w6 X 42 (bs D) := HB5.out.frame hfr hof8
      have hof6 : ¬ OwnOf v6 X := fun h => by
        rcases hmv X h with h1 | h1
        · exact hof8 h1
        · omega
      have hrX : Row w6 (.slice (some ⟨X, 0, none⟩) 32 32) (bs (macLast key use (k + 1))) := by
        have h := hbX.row 0 32 (bs D) (by rw [bs_length, HD.out.2.1]; omega) (by unfold maxLen; omega) (fun j v hj => by rw [Nat.zero_add]; exact hj)
        rw [bs_length, HD.out.2.1] at h
        rw [← HD.out.1]
        exact h
      have hoX : Off (OwnOf v6) (.slice (some ⟨X, 0, none⟩) 32 32) := fun b off n c e h => by
        injection e with e _ _
        injection e with e
        injection e with e1 e2
        subst e1
        exact hof6 h
      have HF6 : Hid (Fr Non w w6) := Lib.hid ((HF.out.non HF5.out).new hfr (fun i h => (HA.out.lt i h).1))
      have HX6 := Lib.hid (And.intro hrX hoX)
      clear hown hfr hmv hlX hof8 hbX hof6 hrX hoX
      go_wp2
      go_roundw
      case rel => exact ⟨k + 1, HKR.out, by go_num, HA6.out, HX6.out.1, fun _ => HX6.out.2, HF6.out⟩
      case measure =>
        rw [HA6.out.vlen, HA.out.vlen, bs_length, bs_length, HAL.out, List.length_take, macAll_length]
        have := HMK.out
        omega
    · have hmn : min n (32 * k) = n := by omega
      rw [hmn] at hlen HAL
      have hrn : macRounds n = k := by omega
      have HV9 : Hid (Own wr w.heap.size 5 u8 (bs (macExpand key use n))) := Lib.hid (by
        unfold macExpand
        rw [hrn]
        exact HA.out)
      clear hmn hrn hkr
      go_wp2
      go_ret2
      exact ⟨_, rfl, HV9.out, HF.out⟩
end Go.Proofs.YtpmkcjgndljhgaaDoor
