/- the document's stream: bytes crossed -/
import Derived.Test.YtcooibfnnjgjkaaDoorStreamRefD
import Derived.Deep.RegionHeldLaw
namespace Go.Proofs.YtcooibfnnjgjkaaDoor
open Go.ChangeShapes Go.WideShapes Go.ChangeAt Go.RowKit

theorem Tryd.info5r : (Tryd.prog.info? 5).map (fun i => (i.zero, i.size, i.bytes)) = some (some (.int .u8 0), 1, 1) := by kernel_rfl
theorem bsL_at? (l : List UInt8) (p : Nat) (h : p < l.length) : (bs l)[p]? = some (.int .u8 (l[p]!.toNat : Int)) := by simp [bs, h]
/-- block M, and those from B on -/
def From (M B : Nat) : Nat → Prop := fun i => i = M ∨ B ≤ i
set_option maxRecDepth 100000 in
set_option maxHeartbeats 4000000 in
theorem crossL_any (key nonce : List UInt8) (count : Nat) (v : Value) (l : List UInt8) (w : World) (hk : key.length = 32) (hn : nonce.length = 12) (hc : count < 4294967296) (hv : Row w v (bs l)) (hl : l.length ≤ 140737488351232) :
    Calls Tryd.prog 12 #[.agg (bs key).toArray, .agg (bs nonce).toArray, .int .u32 count, v] w fun e w' => ∃ v', e = .returned v' ∧ Own w' w.heap.size 5 v' (bs (streamCross key nonce count l)) ∧ Fr Non w w' := by
  obtain ⟨a, c, rfl, _⟩ := id hv
  obtain ⟨i0, hi⟩ := info_parts Tryd.info5r
  rw [bs_length] at hv ⊢
  have hlen := run_lenRow (P := Tryd.prog) hv 31 5 Tryd.underlying31
  rw [bs_length] at hlen
  have HI := Lib.hid hi
  have HC := Lib.hid hc
  have HK := Lib.hid hk
  have HN := Lib.hid hn
  have HV := Lib.hid hv
  have hik : (Tryd.prog.info? 22).map (·.size) = some (bs key).length := by rw [bs_length, hk]; kernel_rfl
  have hin : (Tryd.prog.info? 23).map (·.size) = some (bs nonce).length := by rw [bs_length, hn]; kernel_rfl
  have HIK := Lib.hid (And.intro hik hin)
  have hi64 : ∀ m, (Tryd.prog.info? 28).map (·.size) = some (bs (streamBlock key nonce m)).length := fun m => by rw [bs_length, streamBlock_length]; kernel_rfl
  have HI64 := Lib.hid hi64
  clear hi hk hn hc hv hik hin hi64
  go_enter Tryd.func12, Tryd.ntmps12
  go_wp2_with fail
  have hb1 := Blk.new w 22 (bs key)
  have hf1 := Fr.alloc w (.cells (bs key).toArray 22)
  have hs1 : (w.alloc (.cells (bs key).toArray 22)).heap.size = w.heap.size + 1 := by simp
  generalize w.alloc (.cells (bs key).toArray 22) = w1 at hb1 hf1 hs1 ⊢
  have hb2 := Blk.new w1 23 (bs nonce)
  have hf2 := Fr.alloc w1 (.cells (bs nonce).toArray 23)
  have hs2 : (w1.alloc (.cells (bs nonce).toArray 23)).heap.size = w1.heap.size + 1 := by simp
  generalize w1.alloc (.cells (bs nonce).toArray 23) = w2 at hb2 hf2 hs2 ⊢
  have hb3 : Blk (w2.alloc (.cells #[.int .u8 0, .int .u8 0, .int .u8 0, .int .u8 0, .int .u8 0, .int .u8 0, .int .u8 0, .int .u8 0, .int .u8 0, .int .u8 0, .int .u8 0, .int .u8 0, .int .u8 0, .int .u8 0, .int .u8 0, .int .u8 0, .int .u8 0, .int .u8 0, .int .u8 0, .int .u8 0, .int .u8 0, .int .u8 0, .int .u8 0, .int .u8 0, .int .u8 0, .int .u8 0, .int .u8 0, .int .u8 0, .int .u8 0, .int .u8 0, .int .u8 0, .int .u8 0, .int .u8 0, .int .u8 0, .int .u8 0, .int .u8 0, .int .u8 0, .int .u8 0, .int .u8 0, .int .u8 0, .int .u8 0, .int .u8 0, .int .u8 0, .int .u8 0, .int .u8 0, .int .u8 0, .int .u8 0, .int .u8 0, .int .u8 0, .int .u8 0, .int .u8 0, .int .u8 0, .int .u8 0, .int .u8 0, .int .u8 0, .int .u8 0, .int .u8 0, .int .u8 0, .int .u8 0, .int .u8 0, .int .u8 0, .int .u8 0, .int .u8 0, .int .u8 0] 28)) w2.heap.size 28 (bs (List.replicate 64 0)) := Blk.new w2 _ _
  have hf3 := Fr.alloc w2 (.cells #[.int .u8 0, .int .u8 0, .int .u8 0, .int .u8 0, .int .u8 0, .int .u8 0, .int .u8 0, .int .u8 0, .int .u8 0, .int .u8 0, .int .u8 0, .int .u8 0, .int .u8 0, .int .u8 0, .int .u8 0, .int .u8 0, .int .u8 0, .int .u8 0, .int .u8 0, .int .u8 0, .int .u8 0, .int .u8 0, .int .u8 0, .int .u8 0, .int .u8 0, .int .u8 0, .int .u8 0, .int .u8 0, .int .u8 0, .int .u8 0, .int .u8 0, .int .u8 0, .int .u8 0, .int .u8 0, .int .u8 0, .int .u8 0, .int .u8 0, .int .u8 0, .int .u8 0, .int .u8 0, .int .u8 0, .int .u8 0, .int .u8 0, .int .u8 0, .int .u8 0, .int .u8 0, .int .u8 0, .int .u8 0, .int .u8 0, .int .u8 0, .int .u8 0, .int .u8 0, .int .u8 0, .int .u8 0, .int .u8 0, .int .u8 0, .int .u8 0, .int .u8 0, .int .u8 0, .int .u8 0, .int .u8 0, .int .u8 0, .int .u8 0, .int .u8 0] 28)
  have hs3 : (w2.alloc (.cells #[.int .u8 0, .int .u8 0, .int .u8 0, .int .u8 0, .int .u8 0, .int .u8 0, .int .u8 0, .int .u8 0, .int .u8 0, .int .u8 0, .int .u8 0, .int .u8 0, .int .u8 0, .int .u8 0, .int .u8 0, .int .u8 0, .int .u8 0, .int .u8 0, .int .u8 0, .int .u8 0, .int .u8 0, .int .u8 0, .int .u8 0, .int .u8 0, .int .u8 0, .int .u8 0, .int .u8 0, .int .u8 0, .int .u8 0, .int .u8 0, .int .u8 0, .int .u8 0, .int .u8 0, .int .u8 0, .int .u8 0, .int .u8 0, .int .u8 0, .int .u8 0, .int .u8 0, .int .u8 0, .int .u8 0, .int .u8 0, .int .u8 0, .int .u8 0, .int .u8 0, .int .u8 0, .int .u8 0, .int .u8 0, .int .u8 0, .int .u8 0, .int .u8 0, .int .u8 0, .int .u8 0, .int .u8 0, .int .u8 0, .int .u8 0, .int .u8 0, .int .u8 0, .int .u8 0, .int .u8 0, .int .u8 0, .int .u8 0, .int .u8 0, .int .u8 0] 28)).heap.size = w2.heap.size + 1 := by simp
  generalize w2.alloc (.cells #[.int .u8 0, .int .u8 0, .int .u8 0, .int .u8 0, .int .u8 0, .int .u8 0, .int .u8 0, .int .u8 0, .int .u8 0, .int .u8 0, .int .u8 0, .int .u8 0, .int .u8 0, .int .u8 0, .int .u8 0, .int .u8 0, .int .u8 0, .int .u8 0, .int .u8 0, .int .u8 0, .int .u8 0, .int .u8 0, .int .u8 0, .int .u8 0, .int .u8 0, .int .u8 0, .int .u8 0, .int .u8 0, .int .u8 0, .int .u8 0, .int .u8 0, .int .u8 0, .int .u8 0, .int .u8 0, .int .u8 0, .int .u8 0, .int .u8 0, .int .u8 0, .int .u8 0, .int .u8 0, .int .u8 0, .int .u8 0, .int .u8 0, .int .u8 0, .int .u8 0, .int .u8 0, .int .u8 0, .int .u8 0, .int .u8 0, .int .u8 0, .int .u8 0, .int .u8 0, .int .u8 0, .int .u8 0, .int .u8 0, .int .u8 0, .int .u8 0, .int .u8 0, .int .u8 0, .int .u8 0, .int .u8 0, .int .u8 0, .int .u8 0, .int .u8 0] 28) = w3 at hb3 hf3 hs3 ⊢
  rw [hs1] at hb2 hs2
  rw [hs2] at hb3 hs3
  obtain ⟨M, hM⟩ : ∃ M, M = w.heap.size + 1 + 1 := ⟨_, rfl⟩
  rw [← hM] at hb3 hs3 ⊢
  have HKB := Lib.hid ((hb1.non hf2).non hf3)
  have HNB := Lib.hid (hb2.non hf3)
  have HMB := Lib.hid hb3
  have HFR := Lib.hid ((hf1.non hf2).non hf3)
  have HM := Lib.hid hM
  have HS3 := Lib.hid hs3
  clear hb1 hb2 hb3 hf1 hf2 hf3 hs1 hs2 hs3 hM
  go_loopw [9, 11] (fun v9 i wr => ∃ (k : Nat) (now : List UInt8), k ≤ l.length ∧ i = .int .i64 k ∧ now.length = 64 ∧ (k % 64 ≠ 0 → now = streamBlock key nonce ((count + k / 64) % 4294967296)) ∧ Own wr (M + 1) 5 v9 (bs (crossTo key nonce count l k)) ∧ Blk wr M 28 (bs now) ∧ Fr (From M (M + 1)) w3 wr) (fun _ i _ => l.length - (intOf i).toNat)
  case atStart => exact ⟨0, List.replicate 64 0, by omega, rfl, by simp, fun h => absurd rfl h, Own.nil _ _ _, HMB.out, Fr.refl _ _⟩
  case round =>
    obtain ⟨k, now, hk, rfl, hnl, hnow, hbo, hbm, hfx⟩ := hrel
    have HBO := Lib.hid hbo
    have HBM := Lib.hid hbm
    have HFX := Lib.hid hfx
    have HNW := Lib.hid hnow
    have HNL := Lib.hid hnl
    clear hbo hbm hfx hnow hnl
    by_cases hlt : k < l.length
    · have z1 : (k : Int) < (l.length : Int) := by omega
      obtain ⟨p, hp⟩ : ∃ p, p = k % 64 := ⟨_, rfl⟩
      have tp : ((k : Int) % 64).toNat = p := by omega
      have hkL : (k : Int) ≤ 140737488351232 := by omega
      have hp64 : p < 64 := by omega
      by_cases h0 : k % 64 = 0
      case pos =>
        have b0 : ((k : Int) % 64 == 0) = true := by simp; omega
        have b1 : decide ((k : Int) % 64 = 0) = true := by simp; omega
        go_upto_region 7 with (fail)
        refine wp_region_lit ?_
        refine wpList_load_mid rfl _ _ rfl w.heap.size 0 rfl (bs key) _ ((HKB.out.frame HFX.out (fun h => by have h1 : w.heap.size = M ∨ M + 1 ≤ w.heap.size := h; have := HM.out; omega)).range 0 _ (fun j v hv => by simpa using hv)) Tryd.underlying22 rfl HIK.out.1 ?_
        refine wpList_load_mid rfl _ _ rfl (w.heap.size + 1) 0 rfl (bs nonce) _ ((HNB.out.frame HFX.out (fun h => by have h1 : w.heap.size + 1 = M ∨ M + 1 ≤ w.heap.size + 1 := h; have := HM.out; omega)).range 0 _ (fun j v hv => by simpa using hv)) Tryd.underlying23 rfl HIK.out.2 ?_
        go_wp2_with fail
        obtain ⟨m, hm⟩ : ∃ m, m = (count + k / 64) % 4294967296 := ⟨_, rfl⟩
        have hmi : ((count : Int) + (k : Int) / 64) % 4294967296 = (m : Int) := by omega
        have hml : m < 4294967296 := by omega
        rw [hmi]
        refine (blockL_any key nonce m _ HK.out HN.out hml).mono ?_
        rintro e w5 ⟨rfl, hf5⟩
        have hi6 := HI64.out m
        have hy1 := bs_one (streamBlock key nonce m)
        have hnl2 : (streamBlock key nonce m).length = 64 := streamBlock_length _ _ _
        obtain ⟨now2, hnow2⟩ : ∃ now2, now2 = streamBlock key nonce m := ⟨_, rfl⟩
        rw [← hnow2] at hi6 hy1 hnl2 ⊢
        have HNOW2 : Hid (now2 = streamBlock key nonce ((count + k / 64) % 4294967296)) := Lib.hid (by rw [hnow2, hm])
        have HNL2 := Lib.hid hnl2
        have HHI := Lib.hid (And.intro hi6 hy1)
        have HF5 := Lib.hid hf5
        clear hi6 hy1 hnow2 hm hmi hml hnl2 hf5 b0 b1
        go_upto_region 8 with ((with_reducible show wpList _ _ _ (({ op := .store _ _ _, .. } : Oper) :: _) _ _); refine wpList_put rfl 28 (.tmp 10) (.tmp 28) rfl rfl M _ _ (bs now2) (HBM.out.non HF5.out) (by rw [bs_length, bs_length, HNL.out, HNL2.out]) HHI.out.1 HHI.out.2 rfl rfl ?_; intro w6 hb6 hf6 hs6; clear hs6)
        have HBM2 := Lib.hid hb6
        have HBO2 := Lib.hid ((HBO.out.non HF5.out).frame hf6 (fun b off n c e h => by have h1 : b = M := h; have h2 := HBO.out.lt b (by rw [e]; rfl); omega))
        have HFX2 := Lib.hid ((HFX.out.thenNon HF5.out).trans hf6 (fun _ h => h) (fun i h => .inl (.inl h)))
        clear hb6 hf6 HBM HBO HFX HF5 HHI HNW HNL
        obtain ⟨cm, -⟩ := HBM2.out.at p _ (bsL_at? now2 p (by rw [HNL2.out]; omega))
        obtain ⟨-, -, -, hall⟩ := (HV.out.frame (HFR.out.new HFX2.out (fun i h => by have h1 : i = M ∨ M + 1 ≤ i := h; have := HM.out; omega)) (fun _ _ _ _ _ h => h)).bytes
        obtain ⟨bb, off, rfl, hcell⟩ := hall k hlt
        have hbb : bb < w.heap.size := by
          obtain ⟨b', off', e, h⟩ := (HV.out.bytes).2.2.2 k hlt
          injection e with e
          injection e with e1 e2
          subst e1 e2
          exact World.block_lt_of_cell? _ _ h
        have hxx := u8xor l[k]! now2[p]!
        have hxs : now2[p]! = streamAt key nonce count k := by rw [HNOW2.out, hp]; rfl
        have hnx : crossTo key nonce count l (k + 1) = crossTo key nonce count l k ++ [l[k]! ^^^ now2[p]!] := by rw [hxs]; rfl
        have HNX := Lib.hid hnx
        have HXX := Lib.hid hxx
        have g1 := l[k]!.toNat_lt
        have g2 := now2[p]!.toNat_lt
        have z0 : (0 : Int) ≤ (k : Int) := by omega
        have z2 : (0 : Int) ≤ (p : Int) := by omega
        have z3 : (p : Int) < 64 := by omega
        have hMw := HM.out
        have hoff : ¬ OwnOf u9 bb := fun h => by have h2 := HBO2.out.lt bb h; omega
        have hofm : ¬ OwnOf u9 M := fun h => by have h2 := HBO2.out.lt M h; omega
        have hsz : M + 1 ≤ (w6 : World).heap.size := by have := HFX2.out.size; have := HS3.out; omega
        have em : (k : Int).tmod 64 = (p : Int) := by rw [Int.tmod_eq_emod_of_nonneg z0]; omega
        have em2 : (k : Int) % 64 = (p : Int) := by omega
        have hcl : (bs (crossTo key nonce count l k)).length = k := by rw [bs_length, crossTo_length]
        have HCL := Lib.hid hcl
        clear hxx hxs hnx hp tp hall hMw hcl
        generalize l[k]! = x at hcell HNX HXX g1
        generalize now2[p]! = y at cm HNX HXX g2
        go_region_held_law (fun w' => w'.cell? ⟨bb, off + k, none⟩ = some (.int .u8 (x.toNat : Int)) ∧ w'.cell? ⟨M, p, none⟩ = some (.int .u8 (y.toNat : Int))) (first | exact ⟨hcell, cm⟩ | go_keep | (have f := ((Fr.alloc w6 _).non (Fr.drew _)).non hfr'; exact ⟨f.cell hcell hoff, f.cell cm hofm⟩))
          ((refine step_push (by rfl) _ _ _ (by rfl) (M + 1) 5 i0 _ 1 Tryd.underlying31 HI.out rfl _ _ (by rfl) ((HBO2.out.non (Fr.alloc _ _)).non (Fr.drew _)) _ _ (by rfl) (cell_alloc0d _ _ _) (by rfl) ⟨by rw [HCL.out]; omega, by omega⟩ (Nat.le_trans hsz (Fr.drew _ |> fun h => ((Fr.alloc _ _).non h).size)) ?_; intro v' w7 hown' hfr' hmv hkp))
        have hof9 : ∀ i, OwnOf u9 i → From M (M + 1) i := fun i h => .inr (HBO2.out.lt i h).1
        have hown2 : Own w7 (M + 1) 5 v' (bs (crossTo key nonce count l (k + 1))) := by rw [HNX.out, bs_snoc, ← HXX.out]; exact hown'
        have hbm2 : Blk w7 M 28 (bs now2) := ((HBM2.out.non (Fr.alloc _ _)).non (Fr.drew _)).frame hfr' hofm
        have hfx2 : Fr (From M (M + 1)) w3 w7 := ((HFX2.out.thenNon (Fr.alloc _ _)).thenNon (Fr.drew _)).trans hfr' (fun _ h => h) (fun i h => .inl (hof9 i h))
        have HZ := Lib.hid (And.intro hown2 (And.intro hbm2 hfx2))
        clear hown2 hbm2 hfx2 hof9 hown' hfr' hmv hkp hcell cm hofm hoff
        go_wp2
        go_roundw
        case rel => exact ⟨k + 1, now2, by omega, by go_num, HNL2.out, fun h => by rw [show (k + 1) / 64 = k / 64 by omega]; exact HNOW2.out, HZ.out.1, HZ.out.2.1, HZ.out.2.2⟩
        case measure => simp [intOf]; omega
      case neg =>
        have b0 : ((k : Int) % 64 == 0) = false := by simp; omega
        have b1 : decide ((k : Int) % 64 = 0) = false := by simp; omega
        go_upto_region 8 with (fail)
        obtain ⟨now2, hn2⟩ : ∃ now2, now2 = now := ⟨_, rfl⟩
        have HNOW2 : Hid (now2 = streamBlock key nonce ((count + k / 64) % 4294967296)) := Lib.hid (by rw [hn2]; exact HNW.out h0)
        have HNL2 : Hid (now2.length = 64) := Lib.hid (by rw [hn2]; exact HNL.out)
        have HBM2 : Hid (Blk wr M 28 (bs now2)) := Lib.hid (by rw [hn2]; exact HBM.out)
        have HBO2 := HBO
        have HFX2 := HFX
        clear HBM HBO HFX HNW HNL hn2 b0 b1
        obtain ⟨cm, -⟩ := HBM2.out.at p _ (bsL_at? now2 p (by rw [HNL2.out]; omega))
        obtain ⟨-, -, -, hall⟩ := (HV.out.frame (HFR.out.new HFX2.out (fun i h => by have h1 : i = M ∨ M + 1 ≤ i := h; have := HM.out; omega)) (fun _ _ _ _ _ h => h)).bytes
        obtain ⟨bb, off, rfl, hcell⟩ := hall k hlt
        have hbb : bb < w.heap.size := by
          obtain ⟨b', off', e, h⟩ := (HV.out.bytes).2.2.2 k hlt
          injection e with e
          injection e with e1 e2
          subst e1 e2
          exact World.block_lt_of_cell? _ _ h
        have hxx := u8xor l[k]! now2[p]!
        have hxs : now2[p]! = streamAt key nonce count k := by rw [HNOW2.out, hp]; rfl
        have hnx : crossTo key nonce count l (k + 1) = crossTo key nonce count l k ++ [l[k]! ^^^ now2[p]!] := by rw [hxs]; rfl
        have HNX := Lib.hid hnx
        have HXX := Lib.hid hxx
        have g1 := l[k]!.toNat_lt
        have g2 := now2[p]!.toNat_lt
        have z0 : (0 : Int) ≤ (k : Int) := by omega
        have z2 : (0 : Int) ≤ (p : Int) := by omega
        have z3 : (p : Int) < 64 := by omega
        have hMw := HM.out
        have hoff : ¬ OwnOf u9 bb := fun h => by have h2 := HBO2.out.lt bb h; omega
        have hofm : ¬ OwnOf u9 M := fun h => by have h2 := HBO2.out.lt M h; omega
        have hsz : M + 1 ≤ (wr : World).heap.size := by have := HFX2.out.size; have := HS3.out; omega
        have em : (k : Int).tmod 64 = (p : Int) := by rw [Int.tmod_eq_emod_of_nonneg z0]; omega
        have em2 : (k : Int) % 64 = (p : Int) := by omega
        have hcl : (bs (crossTo key nonce count l k)).length = k := by rw [bs_length, crossTo_length]
        have HCL := Lib.hid hcl
        clear hxx hxs hnx hp tp hall hMw hcl
        generalize l[k]! = x at hcell HNX HXX g1
        generalize now2[p]! = y at cm HNX HXX g2
        go_region_held_law (fun w' => w'.cell? ⟨bb, off + k, none⟩ = some (.int .u8 (x.toNat : Int)) ∧ w'.cell? ⟨M, p, none⟩ = some (.int .u8 (y.toNat : Int))) (first | exact ⟨hcell, cm⟩ | go_keep | (have f := ((Fr.alloc wr _).non (Fr.drew _)).non hfr'; exact ⟨f.cell hcell hoff, f.cell cm hofm⟩))
          ((refine step_push (by rfl) _ _ _ (by rfl) (M + 1) 5 i0 _ 1 Tryd.underlying31 HI.out rfl _ _ (by rfl) ((HBO2.out.non (Fr.alloc _ _)).non (Fr.drew _)) _ _ (by rfl) (cell_alloc0d _ _ _) (by rfl) ⟨by rw [HCL.out]; omega, by omega⟩ (Nat.le_trans hsz (Fr.drew _ |> fun h => ((Fr.alloc _ _).non h).size)) ?_; intro v' w7 hown' hfr' hmv hkp))
        have hof9 : ∀ i, OwnOf u9 i → From M (M + 1) i := fun i h => .inr (HBO2.out.lt i h).1
        have hown2 : Own w7 (M + 1) 5 v' (bs (crossTo key nonce count l (k + 1))) := by rw [HNX.out, bs_snoc, ← HXX.out]; exact hown'
        have hbm2 : Blk w7 M 28 (bs now2) := ((HBM2.out.non (Fr.alloc _ _)).non (Fr.drew _)).frame hfr' hofm
        have hfx2 : Fr (From M (M + 1)) w3 w7 := ((HFX2.out.thenNon (Fr.alloc _ _)).thenNon (Fr.drew _)).trans hfr' (fun _ h => h) (fun i h => .inl (hof9 i h))
        have HZ := Lib.hid (And.intro hown2 (And.intro hbm2 hfx2))
        clear hown2 hbm2 hfx2 hof9 hown' hfr' hmv hkp hcell cm hofm hoff
        go_wp2
        go_roundw
        case rel => exact ⟨k + 1, now2, by omega, by go_num, HNL2.out, fun h => by rw [show (k + 1) / 64 = k / 64 by omega]; exact HNOW2.out, HZ.out.1, HZ.out.2.1, HZ.out.2.2⟩
        case measure => simp [intOf]; omega
    · obtain rfl : k = l.length := by omega
      have HRES : Hid (Own wr w.heap.size 5 u9 (bs (streamCross key nonce count l))) := Lib.hid (HBO.out.mono (by have := HM.out; omega))
      have HFF := Lib.hid (HFR.out.new HFX.out (fun i h => by have h1 : i = M ∨ M + 1 ≤ i := h; have := HM.out; omega))
      clear HBO HBM HFX HNW
      go_wp2
      go_ret
      exact ⟨_, rfl, HRES.out, HFF.out⟩
end Go.Proofs.YtcooibfnnjgjkaaDoor
