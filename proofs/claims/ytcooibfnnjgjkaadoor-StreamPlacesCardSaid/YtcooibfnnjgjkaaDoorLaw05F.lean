/- layer 5: place by place -/
import Derived.Test.YtcooibfnnjgjkaaDoorLaw05D
namespace Go.Proofs.YtcooibfnnjgjkaaDoor
open Go.ChangeShapes Go.WideShapes Go.ChangeAt Go.RowKit

theorem Row.cellOf {w : World} {a : Option Addr} {n c : Nat} {l : List UInt8} (h : Row w (.slice a n c) (bs l)) (k : Nat) (hk : k < l.length) : ∃ b off, a = some ⟨b, off, none⟩ ∧ w.cell? ⟨b, off + k, none⟩ = some (.int .u8 ((l[k]!).toNat : Int)) := (h.bytes).2.2.2 k hk
set_option maxRecDepth 100000 in
set_option maxHeartbeats 4000000 in
/-- P5.4 -/
theorem places5_any (W : World) (key nonce : List UInt8) (count : Nat) (v : Value) (l : List UInt8) (u : Value) (m : List UInt8) (hL : laidMetH Tryd.prog Rows.streamPlacesRow.laid W) (hk : key.length = 32) (hn : nonce.length = 12) (hc : count < 4294967296) (hv : Row W v (bs l)) (hl : l.length ≤ 140737488351232) (hu : Row W u (bs m)) (hm : m.length ≤ 140737488351232) :
    Calls Tryd.prog 7 #[.agg (placeCells key nonce count).toArray, v, u] W fun e W' => e = .returned (.bool true) ∧ Fr Non W W' := by
  have HS := Lib.hid (start_5 hL)
  obtain ⟨a0, c0, rfl, _⟩ := id hv
  obtain ⟨a1, c1, rfl, _⟩ := id hu
  simp only [bs_length] at *
  have HV := Lib.hid hv
  have HU := Lib.hid hu
  clear hL hv hu
  have hplen : (bs key).length = 32 := by rw [bs_length, hk]
  have hnlen : (bs nonce).length = 12 := by rw [bs_length, hn]
  have HK := Lib.hid (And.intro hk (And.intro hn hc))
  have hik : (Tryd.prog.info? 22).map (·.size) = some (bs key).length := by rw [hplen]; kernel_rfl
  have hin : (Tryd.prog.info? 23).map (·.size) = some (bs nonce).length := by rw [hnlen]; kernel_rfl
  have huk := Tryd.underlying22
  have hun := Tryd.underlying23
  have hpl := streamCross_places key nonce count l m
  obtain ⟨C, hC⟩ : ∃ C, C = streamCross key nonce count l := ⟨_, rfl⟩
  have hcl : C.length = l.length := by rw [hC, streamCross_length]
  obtain ⟨D, hD⟩ : ∃ D, D = streamCross key nonce count m := ⟨_, rfl⟩
  have hdl : D.length = m.length := by rw [hD, streamCross_length]
  rw [← hC, ← hD] at hpl
  have HPL := Lib.hid hpl
  have HC := Lib.hid hC
  have HCL := Lib.hid hcl
  have HD := Lib.hid hD
  have HDL := Lib.hid hdl
  clear hC hcl hD hdl hpl
  go_enter Tryd.func7, Tryd.ntmps7
  go_upto_region 1 with (fail)
  have hb1 := Blk.new W 26 (placeCells key nonce count)
  have hf1 := Fr.alloc W (.cells (placeCells key nonce count).toArray 26)
  obtain ⟨P, hP⟩ : ∃ P, P = W.heap.size := ⟨_, rfl⟩
  rw [← hP] at hb1 ⊢
  generalize W.alloc (.cells (placeCells key nonce count).toArray 26) = w2 at hb1 hf1 ⊢
  have HPB := Lib.hid (place_at hb1 hplen hnlen)
  have HF1 := Lib.hid hf1
  have HPE := Lib.hid hP
  clear hb1 hf1 hplen hnlen hk hn hc hP
  go_wp2_with fail
  refine (shown5_any _ (HS.out.non HF1.out)).mono ?_
  rintro e w3 ⟨rfl, hf3⟩
  have HF3 := Lib.hid (HF1.out.non hf3)
  have HP3 := Lib.hid (HPB.out.non hf3)
  have hcn := HP3.out.2.2
  clear hf3
  go_upto_region 2 with (fail)
  go_wp2_with ((with_reducible show wpList _ _ _ (({ op := .load _ _, .. } : Oper) :: _) _ _); first | (refine wpList_load_mid rfl 22 _ rfl P 0 rfl (bs key) _ HP3.out.1 huk rfl hik ?_) | (refine wpList_load_mid rfl 23 _ rfl P 32 rfl (bs nonce) _ HP3.out.2.1 hun rfl hin ?_))
  refine (crossS_any key nonce count _ l w3 HK.out.1 HK.out.2.1 HK.out.2.2 (HV.out.non HF3.out) (by omega) (HS.out.non HF3.out)).mono ?_
  rintro e w4 ⟨X, rfl, -, hb4, hf4⟩
  rw [← HC.out] at hb4
  have HF4 := Lib.hid (HF3.out.non hf4)
  have HP4 := Lib.hid (HP3.out.non hf4)
  have HX4 := Lib.hid hb4
  clear hb4 hf4 hcn HPB HP3 HF3
  have hcn := HP4.out.2.2
  go_upto_region 3 with (fail)
  go_wp2_with ((with_reducible show wpList _ _ _ (({ op := .load _ _, .. } : Oper) :: _) _ _); first | (refine wpList_load_mid rfl 22 _ rfl P 0 rfl (bs key) _ HP4.out.1 huk rfl hik ?_) | (refine wpList_load_mid rfl 23 _ rfl P 32 rfl (bs nonce) _ HP4.out.2.1 hun rfl hin ?_))
  refine (crossS_any key nonce count _ m w4 HK.out.1 HK.out.2.1 HK.out.2.2 (HU.out.non HF4.out) (by omega) (HS.out.non HF4.out)).mono ?_
  rintro e w5 ⟨Y, rfl, -, hb5, hf5⟩
  rw [← HD.out] at hb5
  have HF5 := Lib.hid (HF4.out.non hf5)
  have HX5 := Lib.hid (HX4.out.non hf5)
  have HY5 := Lib.hid hb5
  clear hb5 hf5 hcn HP4 HF4 HX4
  go_wp2_with fail
  go_loopw [42] (fun i wr => ∃ k : Nat, k ≤ l.length ∧ i = .int .i64 k ∧ Fr Non w5 wr) (fun i _ => l.length - (intOf i).toNat)
  case atStart => exact ⟨0, by omega, rfl, Fr.refl _ _⟩
  case round =>
    obtain ⟨k, hk, rfl, hfx⟩ := hrel
    have HFX := Lib.hid hfx
    clear hfx
    by_cases hlt : k < l.length
    · have z0 : (0 : Int) ≤ (k : Int) := by omega
      have z1 : (k : Int) < (l.length : Int) := by omega
      by_cases hlm : k < m.length
      · have z2 : (k : Int) < (m.length : Int) := by omega
        obtain ⟨cx, -⟩ := (HX5.out.non HFX.out).at k _ (bs_at? C k (by rw [HCL.out]; exact hlt))
        obtain ⟨cy, -⟩ := (HY5.out.non HFX.out).at k _ (bs_at? D k (by rw [HDL.out]; exact hlm))
        obtain ⟨b0, o0, rfl, ca⟩ := Row.cellOf ((HV.out.non HF5.out).non HFX.out) k hlt
        obtain ⟨b1, o1, rfl, cb⟩ := Row.cellOf ((HU.out.non HF5.out).non HFX.out) k hlm
        have h1 := u8xor C[k]! D[k]!
        have h2 := u8xor l[k]! m[k]!
        rw [HPL.out k hlt hlm] at h1
        obtain ⟨q, hq⟩ : ∃ q : Nat, q = (l[k]! ^^^ m[k]!).toNat := ⟨_, rfl⟩
        rw [← hq] at h1 h2
        have g1 := C[k]!.toNat_lt
        have g2 := D[k]!.toNat_lt
        have g3 := l[k]!.toNat_lt
        have g4 := m[k]!.toNat_lt
        clear hq
        generalize C[k]!.toNat = x1 at cx h1 g1
        generalize D[k]!.toNat = x2 at cy h1 g2
        generalize l[k]!.toNat = x3 at ca h2 g3
        generalize m[k]!.toNat = x4 at cb h2 g4
        go_upto_region 9 with (fail)
        go_quiet (fail)
        have hfn := Fr.drewN wr nq
        generalize wr.drewN nq = wn at hfn ⊢
        have HFN := Lib.hid (HFX.out.non hfn)
        clear cx cy ca cb hfn
        go_wp2
        go_roundw
        case rel => exact ⟨k + 1, by omega, by go_num, HFN.out⟩
        case measure => simp [intOf]; omega
      · have z2 : decide ((k : Int) < (m.length : Int)) = false := by simp; omega
        go_upto_region 9 with (fail)
        go_quiet (fail)
        have hfn := Fr.drewN wr nq
        generalize wr.drewN nq = wn at hfn ⊢
        have HFN := Lib.hid (HFX.out.non hfn)
        clear hfn
        go_wp2
        go_roundw
        case rel => exact ⟨k + 1, by omega, by go_num, HFN.out⟩
        case measure => simp [intOf]; omega
    · obtain rfl : k = l.length := by omega
      have HFF := Lib.hid (HF5.out.non HFX.out)
      go_wp2
      go_ret
      exact ⟨rfl, HFF.out⟩
end Go.Proofs.YtcooibfnnjgjkaaDoor
