/- package stream: bytes crossed -/
import Derived.Test.YtcooibfnnjgjkaaDoorStreamOpF
import Derived.Deep.OwnRows
namespace Go.Proofs.YtcooibfnnjgjkaaDoor
open Go.ChangeShapes Go.WideShapes Go.ChangeAt Go.RowKit

theorem made_bytes (n : Nat) : (madeCells #[.int .u8 0] n) = (bs (List.replicate n 0)).toArray := by
  apply Array.ext
  · simp [size_madeCells, bs_length]
  · intro i h1 h2
    simp [madeCells, bs]
    rw [Nat.mod_one]
    rfl
theorem bs_at? (l : List UInt8) (p : Nat) (h : p < l.length) : (bs l)[p]? = some (.int .u8 (l[p]!.toNat : Int)) := by simp [bs, h]
theorem StartAt.frameT {w w' : World} {g : Nat} {T : Nat → Prop} (h : StartAt w g) (f : Fr T w w') (hn : ¬ T g) : StartAt w' g := fun i hi => f.cell (h i hi) hn
theorem StartAt.lt {w : World} {g : Nat} (h : StartAt w g) : g < w.heap.size := World.block_lt_of_cell? _ _ (h 0 (by omega))
def Two (a b : Nat) : Nat → Prop := fun i => i = a ∨ i = b
theorem cross_set (key nonce : List UInt8) (count : Nat) (l : List UInt8) (n k : Nat) (h : k < n) : (crossTo key nonce count l k ++ List.replicate (n - k) 0).set k (l[k]! ^^^ streamAt key nonce count k) = crossTo key nonce count l (k + 1) ++ List.replicate (n - (k + 1)) 0 := by
  rw [show n - k = (n - (k + 1)) + 1 by omega, List.replicate_succ, List.set_append_right _ _ (by rw [crossTo_length]; exact Nat.le_refl _), crossTo_length, Nat.sub_self, List.set_cons_zero, crossTo, List.append_assoc]
  rfl
theorem Tryd.info5s : (Tryd.prog.info? 5).map (fun i => (i.zero, i.size, i.bytes)) = some (some (.int .u8 0), 1, 1) := by kernel_rfl
set_option maxRecDepth 100000 in
set_option maxHeartbeats 4000000 in
theorem crossS_any (key nonce : List UInt8) (count : Nat) (v : Value) (l : List UInt8) (w : World) (hk : key.length = 32) (hn : nonce.length = 12) (hc : count < 4294967296) (hv : Row w v (bs l)) (hl : l.length ≤ 140737488355328) (hS : StartAt w 0) :
    Calls Tryd.prog 11 #[.agg (bs key).toArray, .agg (bs nonce).toArray, .int .u32 count, v] w fun e w' => ∃ O, e = .returned (.slice (some ⟨O, 0, none⟩) l.length l.length) ∧ w.heap.size ≤ O ∧ Blk w' O 5 (bs (streamCross key nonce count l)) ∧ Fr Non w w' := by
  obtain ⟨a, c, rfl, _⟩ := id hv
  obtain ⟨i0, hi⟩ := info_parts Tryd.info5s
  rw [bs_length] at hv ⊢
  have hlen := run_lenRow (P := Tryd.prog) hv 31 5 Tryd.underlying31
  rw [bs_length] at hlen
  have HI := Lib.hid hi
  have HC := Lib.hid hc
  have HK := Lib.hid hk
  have HN := Lib.hid hn
  have HV := Lib.hid hv
  have HS := Lib.hid hS
  have hik : (Tryd.prog.info? 22).map (·.size) = some (bs key).length := by rw [bs_length, hk]; kernel_rfl
  have hin : (Tryd.prog.info? 23).map (·.size) = some (bs nonce).length := by rw [bs_length, hn]; kernel_rfl
  have HIK := Lib.hid (And.intro hik hin)
  have hi64 : ∀ m, (Tryd.prog.info? 28).map (·.size) = some (bs (streamBlock key nonce m)).length := fun m => by rw [bs_length, streamBlock_length]; kernel_rfl
  have HI64 := Lib.hid hi64
  clear hi hk hn hc hv hS hik hin hi64
  go_enter Tryd.func11, Tryd.ntmps11
  go_upto_region 1 with (fail)
  have hb1 := Blk.new w 22 (bs key)
  have hf1 := Fr.alloc w (.cells (bs key).toArray 22)
  have hs1 : (w.alloc (.cells (bs key).toArray 22)).heap.size = w.heap.size + 1 := by simp
  generalize w.alloc (.cells (bs key).toArray 22) = w1 at hb1 hf1 hs1 ⊢
  have hb2 := Blk.new w1 23 (bs nonce)
  have hf2 := Fr.alloc w1 (.cells (bs nonce).toArray 23)
  have hs2 : (w1.alloc (.cells (bs nonce).toArray 23)).heap.size = w1.heap.size + 1 := by simp
  generalize w1.alloc (.cells (bs nonce).toArray 23) = w2 at hb2 hf2 hs2 ⊢
  rw [hs1] at hb2 hs2
  have HKB := Lib.hid (hb1.non hf2)
  have HNB := Lib.hid hb2
  have HFR := Lib.hid (hf1.non hf2)
  have HS2 := Lib.hid hs2
  clear hb1 hb2 hf1 hf2 hs1 hs2
  go_wp2_with ((with_reducible show wpList _ _ _ (({ op := .makeSlice _ _ _, .. } : Oper) :: _) _ _); refine wpList_make_row _ rfl _ _ 31 rfl 5 i0 (.int .u8 0) Tryd.underlying31 HI.out.1 HI.out.2.1 HI.out.2.2.1 rfl .i64 .i64 l.length rfl rfl (by rw [HI.out.2.2.2]; omega) (by omega) ?_; rw [made_bytes])
  have hb3 := Blk.new w2 5 (bs (List.replicate l.length 0))
  have hf3 := Fr.alloc w2 (.cells (bs (List.replicate l.length 0)).toArray 5)
  have hs3 : (w2.alloc (.cells (bs (List.replicate l.length 0)).toArray 5)).heap.size = w2.heap.size + 1 := by simp
  generalize w2.alloc (.cells (bs (List.replicate l.length 0)).toArray 5) = w3 at hb3 hf3 hs3 ⊢
  have hb4 : Blk (w3.alloc (.cells #[.int .u8 0, .int .u8 0, .int .u8 0, .int .u8 0, .int .u8 0, .int .u8 0, .int .u8 0, .int .u8 0, .int .u8 0, .int .u8 0, .int .u8 0, .int .u8 0, .int .u8 0, .int .u8 0, .int .u8 0, .int .u8 0, .int .u8 0, .int .u8 0, .int .u8 0, .int .u8 0, .int .u8 0, .int .u8 0, .int .u8 0, .int .u8 0, .int .u8 0, .int .u8 0, .int .u8 0, .int .u8 0, .int .u8 0, .int .u8 0, .int .u8 0, .int .u8 0, .int .u8 0, .int .u8 0, .int .u8 0, .int .u8 0, .int .u8 0, .int .u8 0, .int .u8 0, .int .u8 0, .int .u8 0, .int .u8 0, .int .u8 0, .int .u8 0, .int .u8 0, .int .u8 0, .int .u8 0, .int .u8 0, .int .u8 0, .int .u8 0, .int .u8 0, .int .u8 0, .int .u8 0, .int .u8 0, .int .u8 0, .int .u8 0, .int .u8 0, .int .u8 0, .int .u8 0, .int .u8 0, .int .u8 0, .int .u8 0, .int .u8 0, .int .u8 0] 28)) w3.heap.size 28 (bs (List.replicate 64 0)) := Blk.new w3 _ _
  have hf4 := Fr.alloc w3 (.cells #[.int .u8 0, .int .u8 0, .int .u8 0, .int .u8 0, .int .u8 0, .int .u8 0, .int .u8 0, .int .u8 0, .int .u8 0, .int .u8 0, .int .u8 0, .int .u8 0, .int .u8 0, .int .u8 0, .int .u8 0, .int .u8 0, .int .u8 0, .int .u8 0, .int .u8 0, .int .u8 0, .int .u8 0, .int .u8 0, .int .u8 0, .int .u8 0, .int .u8 0, .int .u8 0, .int .u8 0, .int .u8 0, .int .u8 0, .int .u8 0, .int .u8 0, .int .u8 0, .int .u8 0, .int .u8 0, .int .u8 0, .int .u8 0, .int .u8 0, .int .u8 0, .int .u8 0, .int .u8 0, .int .u8 0, .int .u8 0, .int .u8 0, .int .u8 0, .int .u8 0, .int .u8 0, .int .u8 0, .int .u8 0, .int .u8 0, .int .u8 0, .int .u8 0, .int .u8 0, .int .u8 0, .int .u8 0, .int .u8 0, .int .u8 0, .int .u8 0, .int .u8 0, .int .u8 0, .int .u8 0, .int .u8 0, .int .u8 0, .int .u8 0, .int .u8 0] 28)
  generalize w3.alloc (.cells #[.int .u8 0, .int .u8 0, .int .u8 0, .int .u8 0, .int .u8 0, .int .u8 0, .int .u8 0, .int .u8 0, .int .u8 0, .int .u8 0, .int .u8 0, .int .u8 0, .int .u8 0, .int .u8 0, .int .u8 0, .int .u8 0, .int .u8 0, .int .u8 0, .int .u8 0, .int .u8 0, .int .u8 0, .int .u8 0, .int .u8 0, .int .u8 0, .int .u8 0, .int .u8 0, .int .u8 0, .int .u8 0, .int .u8 0, .int .u8 0, .int .u8 0, .int .u8 0, .int .u8 0, .int .u8 0, .int .u8 0, .int .u8 0, .int .u8 0, .int .u8 0, .int .u8 0, .int .u8 0, .int .u8 0, .int .u8 0, .int .u8 0, .int .u8 0, .int .u8 0, .int .u8 0, .int .u8 0, .int .u8 0, .int .u8 0, .int .u8 0, .int .u8 0, .int .u8 0, .int .u8 0, .int .u8 0, .int .u8 0, .int .u8 0, .int .u8 0, .int .u8 0, .int .u8 0, .int .u8 0, .int .u8 0, .int .u8 0, .int .u8 0, .int .u8 0] 28) = w4 at hb4 hf4 ⊢
  rw [hs3] at hb4
  obtain ⟨O, hO⟩ : ∃ O, O = w2.heap.size := ⟨_, rfl⟩
  rw [← hO] at hb3 hb4 ⊢
  have hOw : w.heap.size + 1 + 1 ≤ O := by have := HS2.out; omega
  have HKB4 := Lib.hid ((HKB.out.non hf3).non hf4)
  have HNB4 := Lib.hid ((HNB.out.non hf3).non hf4)
  have HFR4 := Lib.hid ((HFR.out.non hf3).non hf4)
  have HO4 := Lib.hid (hb3.non hf4)
  have HM4 := Lib.hid hb4
  clear hb3 hb4 hf3 hf4 hs3 hO HKB HNB HFR HS2
  go_loopw [17] (fun i wr => ∃ (k : Nat) (now : List UInt8), k ≤ l.length ∧ i = .int .i64 k ∧ now.length = 64 ∧ (k % 64 ≠ 0 → now = streamBlock key nonce ((count + k / 64) % 4294967296)) ∧ Blk wr O 5 (bs (crossTo key nonce count l k ++ List.replicate (l.length - k) 0)) ∧ Blk wr (O + 1) 28 (bs now) ∧ Fr (Two O (O + 1)) w4 wr) (fun i _ => l.length - (intOf i).toNat)
  case atStart => exact ⟨0, List.replicate 64 0, by omega, rfl, by simp, fun h => absurd rfl h, HO4.out, HM4.out, Fr.refl _ _⟩
  case round =>
    obtain ⟨k, now, hk, rfl, hnl, hnow, hbo, hbm, hfx⟩ := hrel
    have HBO := Lib.hid hbo
    have HBM := Lib.hid hbm
    have HFX := Lib.hid hfx
    have HNW := Lib.hid hnow
    have HNL := Lib.hid hnl
    clear hbo hbm hfx hnow hnl
    by_cases hlt : k < l.length
    · have z1 : (k : Int) < (l.length : Int) := by omega
      obtain ⟨p, hp⟩ : ∃ p, p = k % 64 := ⟨_, rfl⟩
      have tp : ((k : Int) % 64).toNat = p := by omega
      have hkL : (k : Int) ≤ 140737488355328 := by omega
      have hp64 : p < 64 := by omega
      by_cases h0 : k % 64 = 0
      case pos =>
        have b0 : ((k : Int) % 64 == 0) = true := by simp; omega
        have b1 : decide ((k : Int) % 64 = 0) = true := by simp; omega
        go_upto_region 7 with (fail)
        refine wp_region_lit ?_
        refine wpList_load_mid rfl _ _ rfl w.heap.size 0 rfl (bs key) _ ((HKB4.out.frame HFX.out (fun h => by have h1 : w.heap.size = O ∨ w.heap.size = O + 1 := h; omega)).range 0 _ (fun j v hv => by simpa using hv)) Tryd.underlying22 rfl HIK.out.1 ?_
        refine wpList_load_mid rfl _ _ rfl (w.heap.size + 1) 0 rfl (bs nonce) _ ((HNB4.out.frame HFX.out (fun h => by have h1 : w.heap.size + 1 = O ∨ w.heap.size + 1 = O + 1 := h; omega)).range 0 _ (fun j v hv => by simpa using hv)) Tryd.underlying23 rfl HIK.out.2 ?_
        go_wp2_with fail
        obtain ⟨m, hm⟩ : ∃ m, m = (count + k / 64) % 4294967296 := ⟨_, rfl⟩
        have hmi : ((count : Int) + (k : Int) / 64) % 4294967296 = (m : Int) := by omega
        have hml : m < 4294967296 := by omega
        rw [hmi]
        refine (block_any key nonce m _ HK.out HN.out hml ((HS.out.non HFR4.out).frameT HFX.out (fun h => by have h1 : 0 = O ∨ 0 = O + 1 := h; have h2 := HS.out.lt; omega))).mono ?_
        rintro e w5 ⟨rfl, hf5⟩
        have hi6 := HI64.out m
        have hy1 := bs_one (streamBlock key nonce m)
        have hnl2 : (streamBlock key nonce m).length = 64 := streamBlock_length _ _ _
        obtain ⟨now2, hnow2⟩ : ∃ now2, now2 = streamBlock key nonce m := ⟨_, rfl⟩
        rw [← hnow2] at hi6 hy1 hnl2 ⊢
        have HNOW2 : Hid (now2 = streamBlock key nonce ((count + k / 64) % 4294967296)) := Lib.hid (by rw [hnow2, hm])
        have HNL2 := Lib.hid hnl2
        have HHI := Lib.hid (And.intro hi6 hy1)
        have HF5 := Lib.hid hf5
        clear hi6 hy1 hnow2 hm hmi hml hnl2 hf5 b0 b1
        go_upto_region 8 with ((with_reducible show wpList _ _ _ (({ op := .store _ _ _, .. } : Oper) :: _) _ _); refine wpList_put rfl 28 (.tmp 10) (.tmp 30) rfl rfl (O + 1) _ _ (bs now2) (HBM.out.non HF5.out) (by rw [bs_length, bs_length, HNL.out, HNL2.out]) HHI.out.1 HHI.out.2 rfl rfl ?_; intro w6 hb6 hf6 _)
        have HBM2 := Lib.hid hb6
        have HBO2 := Lib.hid ((HBO.out.non HF5.out).frame hf6 (fun h => by have h1 : O = O + 1 := h; omega))
        have HFX2 := Lib.hid ((HFX.out.thenNon HF5.out).trans hf6 (fun _ h => h) (fun i h => .inl (.inr h)))
        clear hb6 hf6 HBM HBO HFX HF5 HHI HNW HNL
        obtain ⟨cm, -⟩ := HBM2.out.at p _ (bs_at? now2 p (by rw [HNL2.out]; omega))
        obtain ⟨old, cu, fz⟩ := HBO2.out.has k (by rw [bs_length, List.length_append, crossTo_length, List.length_replicate]; omega)
        obtain ⟨-, -, -, hall⟩ := (HV.out.frame (HFR4.out.new HFX2.out (fun i h => by have h1 : i = O ∨ i = O + 1 := h; omega)) (fun _ _ _ _ _ h => h)).bytes
        obtain ⟨bb, off, rfl, hcell⟩ := hall k hlt
        have hst := HBO2.out.set k (.int .u8 ((l[k]! ^^^ now2[p]!).toNat : Int))
        have hxx := u8xor l[k]! now2[p]!
        have hxs : now2[p]! = streamAt key nonce count k := by rw [HNOW2.out, hp]; rfl
        rw [bs_set, hxs, cross_set key nonce count l l.length k hlt, ← hxs] at hst
        have HST := Lib.hid hst
        have HXX := Lib.hid hxx
        have g1 := l[k]!.toNat_lt
        have g2 := now2[p]!.toNat_lt
        have z0 : (0 : Int) ≤ (k : Int) := by omega
        have z2 : (0 : Int) ≤ (p : Int) := by omega
        have z3 : (p : Int) < 64 := by omega
        have em : (k : Int).tmod 64 = (p : Int) := by rw [Int.tmod_eq_emod_of_nonneg z0]; omega
        clear hst hxx hxs hp tp hall
        generalize l[k]! = x at hcell HST HXX g1
        generalize now2[p]! = y at cm HST HXX g2
        go_still_tail 12, (by kernel_rfl)
        change wpList _ _ _ _ _ (w6 : World).drew
        rw [HXX.out]
        go_wp2
        go_roundw
        case rel =>
          refine ⟨k + 1, now2, by omega, by go_num, HNL2.out, fun h => ?_, HST.out.non (Fr.drew _), ?_, (HFX2.out.trans (Fr.setCell w6 ⟨O, k, none⟩ _) (fun _ h => h) (fun i h => .inl (.inl h))).thenNon (Fr.drew _)⟩
          · rw [show (k + 1) / 64 = k / 64 by omega]; exact HNOW2.out
          · exact (HBM2.out.frame (Fr.setCell w6 ⟨O, k, none⟩ _) (fun h => by have h1 : O + 1 = O := h; omega)).non (Fr.drew _)
        case measure => simp [intOf]; omega
      case neg =>
        have b0 : ((k : Int) % 64 == 0) = false := by simp; omega
        have b1 : decide ((k : Int) % 64 = 0) = false := by simp; omega
        go_upto_region 8 with (fail)
        obtain ⟨now2, hn2⟩ : ∃ now2, now2 = now := ⟨_, rfl⟩
        have HNOW2 : Hid (now2 = streamBlock key nonce ((count + k / 64) % 4294967296)) := Lib.hid (by rw [hn2]; exact HNW.out h0)
        have HNL2 : Hid (now2.length = 64) := Lib.hid (by rw [hn2]; exact HNL.out)
        have HBM2 : Hid (Blk wr (O + 1) 28 (bs now2)) := Lib.hid (by rw [hn2]; exact HBM.out)
        have HBO2 := HBO
        have HFX2 := HFX
        clear HBM HBO HFX HNW HNL hn2 b0 b1
        obtain ⟨cm, -⟩ := HBM2.out.at p _ (bs_at? now2 p (by rw [HNL2.out]; omega))
        obtain ⟨old, cu, fz⟩ := HBO2.out.has k (by rw [bs_length, List.length_append, crossTo_length, List.length_replicate]; omega)
        obtain ⟨-, -, -, hall⟩ := (HV.out.frame (HFR4.out.new HFX2.out (fun i h => by have h1 : i = O ∨ i = O + 1 := h; omega)) (fun _ _ _ _ _ h => h)).bytes
        obtain ⟨bb, off, rfl, hcell⟩ := hall k hlt
        have hst := HBO2.out.set k (.int .u8 ((l[k]! ^^^ now2[p]!).toNat : Int))
        have hxx := u8xor l[k]! now2[p]!
        have hxs : now2[p]! = streamAt key nonce count k := by rw [HNOW2.out, hp]; rfl
        rw [bs_set, hxs, cross_set key nonce count l l.length k hlt, ← hxs] at hst
        have HST := Lib.hid hst
        have HXX := Lib.hid hxx
        have g1 := l[k]!.toNat_lt
        have g2 := now2[p]!.toNat_lt
        have z0 : (0 : Int) ≤ (k : Int) := by omega
        have z2 : (0 : Int) ≤ (p : Int) := by omega
        have z3 : (p : Int) < 64 := by omega
        have em : (k : Int).tmod 64 = (p : Int) := by rw [Int.tmod_eq_emod_of_nonneg z0]; omega
        clear hst hxx hxs hp tp hall
        generalize l[k]! = x at hcell HST HXX g1
        generalize now2[p]! = y at cm HST HXX g2
        go_still_tail 12, (by kernel_rfl)
        change wpList _ _ _ _ _ (wr : World).drew
        rw [HXX.out]
        go_wp2
        go_roundw
        case rel =>
          refine ⟨k + 1, now2, by omega, by go_num, HNL2.out, fun h => ?_, HST.out.non (Fr.drew _), ?_, (HFX2.out.trans (Fr.setCell wr ⟨O, k, none⟩ _) (fun _ h => h) (fun i h => .inl (.inl h))).thenNon (Fr.drew _)⟩
          · rw [show (k + 1) / 64 = k / 64 by omega]; exact HNOW2.out
          · exact (HBM2.out.frame (Fr.setCell wr ⟨O, k, none⟩ _) (fun h => by have h1 : O + 1 = O := h; omega)).non (Fr.drew _)
        case measure => simp [intOf]; omega
    · obtain rfl : k = l.length := by omega
      have hres : Blk wr O 5 (bs (streamCross key nonce count l)) := by
        have h := HBO.out
        rwa [Nat.sub_self, List.replicate_zero, List.append_nil] at h
      have HRES := Lib.hid hres
      have HFF := Lib.hid (HFR4.out.new HFX.out (fun i h => by have h1 : i = O ∨ i = O + 1 := h; omega))
      clear hres HBO HBM HFX HNW
      go_wp2
      go_ret
      exact ⟨O, rfl, by omega, HRES.out, HFF.out⟩
end Go.Proofs.YtcooibfnnjgjkaaDoor
