/- package sha: changed -/
import Derived.Test.YtajknmapggkmnaaDoorShaOpA
namespace Go.Proofs.YtajknmapggkmnaaDoor
open Go.ChangeShapes Go.WideShapes Go.ChangeAt Go.RowKit

theorem us_one (l : List Nat) : ∀ v ∈ us l, v.oneCell' = true := by
  intro v hv
  simp only [us, List.mem_map] at hv
  obtain ⟨c, _, rfl⟩ := hv
  rfl
theorem all_one {l : List Value} (h : ∀ v ∈ l, v.oneCell' = true) : (l.toArray.all fun v => v.oneCell') = true := by
  rw [Array.all_eq_true_iff_forall_mem]; intro v hv; exact h v (by simpa using hv)
/-- the walk's spelling of a round's first word -/
theorem tEq2 (x0 x1 x2 x3 x4 x5 x6 x7 r q : Nat) (o4 : x4 < 4294967296) (o5 : x5 < 4294967296) (o6 : x6 < 4294967296) :
    (((((x7 : Int) + bits BinOp.xor IntKind.u32 (bits BinOp.xor IntKind.u32 ((rotr 6 x4 : Nat) : Int) ((rotr 11 x4 : Nat) : Int)) ((rotr 25 x4 : Nat) : Int)) % 4294967296 + bits BinOp.xor IntKind.u32 (bits BinOp.and IntKind.u32 (x4 : Int) (x5 : Int)) (bits BinOp.and IntKind.u32 (bits BinOp.xor IntKind.u32 IntKind.u32.max (x4 : Int)) (x6 : Int))) % 4294967296 + (r : Int)) % 4294967296 + (q : Int)) % 4294967296
      = ((shaT ⟨x0, x1, x2, x3, x4, x5, x6, x7⟩ r q : Nat) : Int) := by
  rw [← tEq x0 x1 x2 x3 x4 x5 x6 x7 r q o4 o5 o6]
  omega

set_option maxRecDepth 100000 in
set_option maxHeartbeats 4000000 in
theorem changed_any (s : St8) (l : List UInt8) (w : World) (hs : s.ok) (hl : l.length = 64) (hK : KAt w 2) :
    Calls Tryd.prog 30 #[.agg #[.int .u32 s.a, .int .u32 s.b, .int .u32 s.c, .int .u32 s.d, .int .u32 s.e, .int .u32 s.f, .int .u32 s.g, .int .u32 s.h], .agg (bs l).toArray] w fun e w' => e = .returned (shaBlock s l).val ∧ Fr Non w w' := by
  obtain ⟨a, b, c, d, e, f, g, h⟩ := s
  have hKs : 2 < w.heap.size := World.block_lt_of_cell? _ _ (hK 0 (by omega))
  have HK := Lib.hid hK
  have HS := Lib.hid hs
  have HL := Lib.hid hl
  have hbi : (Tryd.prog.info? 47).map (·.size) = some (bs l).length := by rw [bs_length, hl]; kernel_rfl
  have HBI := Lib.hid hbi
  have hwi : (Tryd.prog.info? 66).map (·.size) = some (us (shaWords l)).toArray.size := by rw [List.size_toArray, us_length, shaWords_length]; kernel_rfl
  have HWI := Lib.hid hwi
  have HKS := Lib.hid hKs
  clear hK hs hl hbi hwi hKs
  go_enter Tryd.func30, Tryd.ntmps30
  go_upto_region 1 with (fail)
  have ha : SB (w.alloc (.cells #[.int .u32 a, .int .u32 b, .int .u32 c, .int .u32 d, .int .u32 e, .int .u32 f, .int .u32 g, .int .u32 h] 55)) w.heap.size ⟨a, b, c, d, e, f, g, h⟩ := heap_alloc_new w _
  have hf1 := Fr.alloc w (.cells #[.int .u32 a, .int .u32 b, .int .u32 c, .int .u32 d, .int .u32 e, .int .u32 f, .int .u32 g, .int .u32 h] 55)
  have hs1 : (w.alloc (.cells #[.int .u32 a, .int .u32 b, .int .u32 c, .int .u32 d, .int .u32 e, .int .u32 f, .int .u32 g, .int .u32 h] 55)).heap.size = w.heap.size + 1 := by simp
  generalize w.alloc (.cells #[.int .u32 a, .int .u32 b, .int .u32 c, .int .u32 d, .int .u32 e, .int .u32 f, .int .u32 g, .int .u32 h] 55) = w1 at ha hf1 hs1 ⊢
  have hb := Blk.new w1 47 (bs l)
  have hf2 := Fr.alloc w1 (.cells (bs l).toArray 47)
  have hs2 : (w1.alloc (.cells (bs l).toArray 47)).heap.size = w1.heap.size + 1 := by simp
  generalize w1.alloc (.cells (bs l).toArray 47) = w2 at hb hf2 hs2 ⊢
  have hr : SB (w2.alloc (.cells #[.int .u32 0, .int .u32 0, .int .u32 0, .int .u32 0, .int .u32 0, .int .u32 0, .int .u32 0, .int .u32 0] 55)) w2.heap.size ⟨0, 0, 0, 0, 0, 0, 0, 0⟩ := heap_alloc_new w2 _
  have hf3 := Fr.alloc w2 (.cells #[.int .u32 0, .int .u32 0, .int .u32 0, .int .u32 0, .int .u32 0, .int .u32 0, .int .u32 0, .int .u32 0] 55)
  have hs3 : (w2.alloc (.cells #[.int .u32 0, .int .u32 0, .int .u32 0, .int .u32 0, .int .u32 0, .int .u32 0, .int .u32 0, .int .u32 0] 55)).heap.size = w2.heap.size + 1 := by simp
  generalize w2.alloc (.cells #[.int .u32 0, .int .u32 0, .int .u32 0, .int .u32 0, .int .u32 0, .int .u32 0, .int .u32 0, .int .u32 0] 55) = w3 at hr hf3 hs3 ⊢
  rw [hs1] at hb hs2
  rw [hs2] at hr hs3
  have HA := Lib.hid ((ha.frame hf2 (fun h => h)).frame hf3 (fun h => h))
  have HB := Lib.hid (hb.non hf3)
  have HR := Lib.hid hr
  have HF := Lib.hid ((hf1.non hf2).non hf3)
  have HS3 := Lib.hid hs3
  clear ha hb hr hf1 hf2 hf3 hs1 hs2 hs3
  refine wp_region_lit ?_
  refine wpList_load_mid rfl _ _ rfl (w.heap.size + 1) 0 rfl (bs l) _ (HB.out.range 0 _ (fun j v hv => by simpa using hv)) Tryd.underlying47 rfl HBI.out ?_
  go_wp2_with fail
  refine (spread_any l _ HL.out).mono ?_
  rintro e w4 ⟨rfl, hf4⟩
  have hWl := shaWords_length l
  have hWt := shaWords_lt l
  have HE : Hid (shaBlock ⟨a, b, c, d, e, f, g, h⟩ l = (shaRounds ⟨a, b, c, d, e, f, g, h⟩ (shaWords l) 64).plus ⟨a, b, c, d, e, f, g, h⟩) := Lib.hid rfl
  generalize shaWords l = W at HWI hWl hWt HE ⊢
  have HW := Lib.hid (And.intro hWl hWt)
  clear hWl hWt
  have hw5 : Blk (w4.alloc (.cells #[.int .u32 0, .int .u32 0, .int .u32 0, .int .u32 0, .int .u32 0, .int .u32 0, .int .u32 0, .int .u32 0, .int .u32 0, .int .u32 0, .int .u32 0, .int .u32 0, .int .u32 0, .int .u32 0, .int .u32 0, .int .u32 0, .int .u32 0, .int .u32 0, .int .u32 0, .int .u32 0, .int .u32 0, .int .u32 0, .int .u32 0, .int .u32 0, .int .u32 0, .int .u32 0, .int .u32 0, .int .u32 0, .int .u32 0, .int .u32 0, .int .u32 0, .int .u32 0, .int .u32 0, .int .u32 0, .int .u32 0, .int .u32 0, .int .u32 0, .int .u32 0, .int .u32 0, .int .u32 0, .int .u32 0, .int .u32 0, .int .u32 0, .int .u32 0, .int .u32 0, .int .u32 0, .int .u32 0, .int .u32 0, .int .u32 0, .int .u32 0, .int .u32 0, .int .u32 0, .int .u32 0, .int .u32 0, .int .u32 0, .int .u32 0, .int .u32 0, .int .u32 0, .int .u32 0, .int .u32 0, .int .u32 0, .int .u32 0, .int .u32 0, .int .u32 0] 66)) w4.heap.size 66 (us (List.replicate 64 0)) := Blk.new w4 _ _
  have hf5 := Fr.alloc w4 (.cells #[.int .u32 0, .int .u32 0, .int .u32 0, .int .u32 0, .int .u32 0, .int .u32 0, .int .u32 0, .int .u32 0, .int .u32 0, .int .u32 0, .int .u32 0, .int .u32 0, .int .u32 0, .int .u32 0, .int .u32 0, .int .u32 0, .int .u32 0, .int .u32 0, .int .u32 0, .int .u32 0, .int .u32 0, .int .u32 0, .int .u32 0, .int .u32 0, .int .u32 0, .int .u32 0, .int .u32 0, .int .u32 0, .int .u32 0, .int .u32 0, .int .u32 0, .int .u32 0, .int .u32 0, .int .u32 0, .int .u32 0, .int .u32 0, .int .u32 0, .int .u32 0, .int .u32 0, .int .u32 0, .int .u32 0, .int .u32 0, .int .u32 0, .int .u32 0, .int .u32 0, .int .u32 0, .int .u32 0, .int .u32 0, .int .u32 0, .int .u32 0, .int .u32 0, .int .u32 0, .int .u32 0, .int .u32 0, .int .u32 0, .int .u32 0, .int .u32 0, .int .u32 0, .int .u32 0, .int .u32 0, .int .u32 0, .int .u32 0, .int .u32 0, .int .u32 0] 66)
  have HF4 := Lib.hid hf4
  clear hf4
  dsimp only
  iterate 3 (first | go_values | go_skip | go_guarded | go_step | go_upon | go_back)
  generalize w4.alloc (.cells #[.int .u32 0, .int .u32 0, .int .u32 0, .int .u32 0, .int .u32 0, .int .u32 0, .int .u32 0, .int .u32 0, .int .u32 0, .int .u32 0, .int .u32 0, .int .u32 0, .int .u32 0, .int .u32 0, .int .u32 0, .int .u32 0, .int .u32 0, .int .u32 0, .int .u32 0, .int .u32 0, .int .u32 0, .int .u32 0, .int .u32 0, .int .u32 0, .int .u32 0, .int .u32 0, .int .u32 0, .int .u32 0, .int .u32 0, .int .u32 0, .int .u32 0, .int .u32 0, .int .u32 0, .int .u32 0, .int .u32 0, .int .u32 0, .int .u32 0, .int .u32 0, .int .u32 0, .int .u32 0, .int .u32 0, .int .u32 0, .int .u32 0, .int .u32 0, .int .u32 0, .int .u32 0, .int .u32 0, .int .u32 0, .int .u32 0, .int .u32 0, .int .u32 0, .int .u32 0, .int .u32 0, .int .u32 0, .int .u32 0, .int .u32 0, .int .u32 0, .int .u32 0, .int .u32 0, .int .u32 0, .int .u32 0, .int .u32 0, .int .u32 0, .int .u32 0] 66) = w5 at hw5 hf5 ⊢
  have hth := hw5.there 0 (us (W)).toArray.size (by simp [us_length, HW.out.1])
  have HTH := Lib.hid hth
  have HW5 := Lib.hid hw5
  have HF5 := Lib.hid hf5
  clear hth hw5 hf5
  rename_i K hK
  refine hK _ _ ?_
  clear hK
  refine wpList_store_mid rfl _ _ _ rfl w4.heap.size 0 (us (W)).toArray rfl rfl HTH.out HWI.out (all_one (us_one _)) ?_
  simp only [Act.put]
  have hw6 := Blk.setCells (us (W)).toArray.toList w5 _ 0 HW5.out (by simp [us_length, HW.out.1])
  have hf6 := Fr.setCells' w4.heap.size (us (W)).toArray.toList w5 0
  generalize w5.setCells w4.heap.size 0 (us (W)).toArray.toList = w6 at hw6 hf6 ⊢
  have hw7 : Blk w6 w4.heap.size 66 (us (W)) := by
    have e : splice (us (List.replicate 64 0)) 0 (us (W)).toArray.toList = us (W) := by
      have h64 : (us (W)).length = 64 := by rw [us_length, HW.out.1]
      simp only [splice, List.take_zero, List.nil_append, Nat.zero_add]
      rw [List.drop_of_length_le (by rw [us_length, List.length_replicate, h64]; exact Nat.le_refl _), List.append_nil]
    rw [e] at hw6
    exact hw6
  have hz4 : w4.heap.size < w6.heap.size := hw7.lt
  have HF6 : Hid (Fr Non w3 w6) := Lib.hid ((HF4.out.non HF5.out).new hf6 (fun i h => by have h1 : i = w4.heap.size := h; have := HF4.out.size; omega))
  have HW7 := Lib.hid hw7
  clear hw6 hf6 hw7 HW5 HF5 HTH
  obtain ⟨X, hX⟩ : ∃ X, X = w4.heap.size := ⟨_, rfl⟩
  rw [← hX] at hz4 HW7 ⊢
  have HX := Lib.hid hX
  have HA6 := Lib.hid (HA.out.frame HF6.out (fun h => h))
  have HR6 := Lib.hid (HR.out.frame HF6.out (fun h => h))
  obtain ⟨c0, c1, c2, c3, c4, c5, c6, c7⟩ := HA6.out.cells
  simp only at c0 c1 c2 c3 c4 c5 c6 c7
  clear hX
  as_aux_lemma =>
    go_wp2
    go_quiet (fail)
    have f2 := Fr.drewN w6 nq
    generalize w6.drewN nq = w8 at f2 ⊢
    have HF8 := Lib.hid (HF6.out.non f2)
    have HA8 := Lib.hid (HA6.out.frame f2 (fun h => h))
    have HR8 := Lib.hid (HR6.out.frame f2 (fun h => h))
    have HW8 := Lib.hid (HW7.out.non f2)
    have hz8 : X < w8.heap.size := HW8.out.lt
    clear c0 c1 c2 c3 c4 c5 c6 c7 f2 HA6 HR6 HW7 HF6 hz4 HF4
    go_wp2
    go_loopw [6, 7, 8, 9, 10, 11, 12, 13, 35] (fun c6 c7 c8 c9 c10 c11 c12 c13 i wr => ∃ (k : Nat) (s : St8), k ≤ 64 ∧ i = .int .i64 k ∧ s = shaRounds ⟨a, b, c, d, e, f, g, h⟩ W k ∧ c6 = .int .u32 s.a ∧ c7 = .int .u32 s.b ∧ c8 = .int .u32 s.c ∧ c9 = .int .u32 s.d ∧ c10 = .int .u32 s.e ∧ c11 = .int .u32 s.f ∧ c12 = .int .u32 s.g ∧ c13 = .int .u32 s.h ∧ Fr Non w8 wr) (fun _ _ _ _ _ _ _ _ i _ => 64 - (intOf i).toNat)
    case atStart => exact ⟨0, ⟨a, b, c, d, e, f, g, h⟩, by omega, rfl, rfl, rfl, rfl, rfl, rfl, rfl, rfl, rfl, rfl, Fr.refl _ _⟩
    case round =>
      obtain ⟨k, s, hk, rfl, hs, rfl, rfl, rfl, rfl, rfl, rfl, rfl, rfl, hfr⟩ := hrel
      have HFR := Lib.hid hfr
      have hok : s.ok := by rw [hs]; exact shaRounds_ok HS.out W k
      clear hfr
      by_cases hlt : k < 64
      · have hwk : wr.cell? ⟨X, k, none⟩ = some (.int .u32 (W[k]! : Int)) := HFR.out.cell ((HW8.out.at k _ (us_at _ _ (by rw [HW.out.1]; omega))).1) (fun h => h)
        have hKk : wr.cell? ⟨2, k, none⟩ = some (.int .u32 (shaK[k]! : Int)) := HFR.out.cell (HF8.out.cell (HF.out.cell (HK.out k hlt) (fun h => h)) (fun h => h)) (fun h => h)
        have hbw := get_lt HW.out.2 k
        have hbK := shaK_lt k hlt
        have HR : Hid (shaRounds ⟨a, b, c, d, e, f, g, h⟩ W (k + 1) = shaRound s shaK[k]! W[k]!) := Lib.hid (by rw [hs]; rfl)
        generalize W[k]! = q at hwk hbw HR
        generalize shaK[k]! = r at hKk hbK HR
        clear hs
        obtain ⟨x0, x1, x2, x3, x4, x5, x6, x7⟩ := s
        obtain ⟨o0, o1, o2, o3, o4, o5, o6, o7⟩ := hok
        simp only at o0 o1 o2 o3 o4 o5 o6 o7
        have hsg : IntKind.u32.signed = false := by decide
        have z0 : (0 : Int) ≤ (k : Int) := by omega
        have z1 : (k : Int) < 64 := by omega
        go_wp2
        go_quiet ((go_at_call 36; refine Calls.quiet_of_same ((turns_any _ _ _ o4 (by omega) (by omega)).mono (fun _ _ h => ⟨h.1, h.2.symm⟩))))
        rw [tEq x0 x1 x2 x3 x4 x5 x6 x7 r q o4 o5 o6]
        have hT : shaT ⟨x0, x1, x2, x3, x4, x5, x6, x7⟩ r q < 4294967296 := Nat.mod_lt _ (by omega)
        have hR2 : shaRounds ⟨a, b, c, d, e, f, g, h⟩ W (k + 1) = ⟨(shaT ⟨x0, x1, x2, x3, x4, x5, x6, x7⟩ r q + shaU ⟨x0, x1, x2, x3, x4, x5, x6, x7⟩) % 4294967296, x0, x1, x2, (x3 + shaT ⟨x0, x1, x2, x3, x4, x5, x6, x7⟩ r q) % 4294967296, x4, x5, x6⟩ := HR.out
        generalize shaT ⟨x0, x1, x2, x3, x4, x5, x6, x7⟩ r q = T at hT hR2 ⊢
        have f2 := Fr.drewN wr nq
        generalize wr.drewN nq = w9 at f2 ⊢
        have HF9 : Hid (Fr Non w8 w9) := Lib.hid (HFR.out.non f2)
        have HR2 := Lib.hid hR2
        clear hwk hKk HR hR2 f2
        go_wp2_with (go_at_call 36; refine (turns_any _ _ _ (by assumption) (by omega) (by omega)).mono ?_; rintro e w' ⟨rfl, rfl⟩)
        rw [uEq x0 x1 x2 x3 x4 x5 x6 x7 o0 o1 o2]
        have hU : shaU ⟨x0, x1, x2, x3, x4, x5, x6, x7⟩ < 4294967296 := Nat.mod_lt _ (by omega)
        have hR2 := HR2.out
        generalize shaU ⟨x0, x1, x2, x3, x4, x5, x6, x7⟩ = U at hU hR2 ⊢
        go_roundw
        case rel =>
          have e1 : ((T : Int) + (U : Int)) % 4294967296 = (((T + U) % 4294967296 : Nat) : Int) := by omega
          have e2 : ((x3 : Int) + (T : Int)) % 4294967296 = (((x3 + T) % 4294967296 : Nat) : Int) := by omega
          rw [e1, e2]
          exact ⟨k + 1, _, by omega, by go_num, hR2.symm, rfl, rfl, rfl, rfl, rfl, rfl, rfl, rfl, HF9.out⟩
        case measure => simp [intOf]; omega
      · have e64 : k = 64 := by omega
        have hst := HE.out
        rw [← e64, ← hs] at hst
        have hA := HA8.out.frame HFR.out (fun h => h)
        have hR : Blk wr (w.heap.size + 1 + 1) 55 (us [0, 0, 0, 0, 0, 0, 0, 0]) := HR8.out.frame HFR.out (fun h => h)
        have hth := hR.there 0 8 (Nat.le_refl _)
        obtain ⟨y0, y1, y2, y3, y4, y5, y6, y7⟩ := s
        obtain ⟨o0, o1, o2, o3, o4, o5, o6, o7⟩ := hok
        simp only at o0 o1 o2 o3 o4 o5 o6 o7
        obtain ⟨c0, c1, c2, c3, c4, c5, c6, c7⟩ := hA.cells
        simp only at c0 c1 c2 c3 c4 c5 c6 c7
        obtain ⟨s0, s1, s2, s3, s4, s5, s6, s7⟩ := HS.out
        simp only at s0 s1 s2 s3 s4 s5 s6 s7
        obtain ⟨R, hRe⟩ : ∃ R, R = w.heap.size + 1 + 1 := ⟨_, rfl⟩
        rw [← hRe] at hR hth ⊢
        have HST := Lib.hid hst
        have HRB := Lib.hid hR
        have HTH := Lib.hid hth
        have HRE := Lib.hid hRe
        have hge : decide ((k : Int) < 64) = false := by simp; omega
        have h8i : (Tryd.prog.info? 55).map (·.size) = some 8 := by kernel_rfl
        have HI8 := Lib.hid h8i
        have hbt : ∀ us : List Value, us.length = 8 → (∀ u ∈ us, u.cells = #[u]) → Tryd.prog.built 55 (us.zipIdx.map fun p => (p.2, p.1)) = some us.toArray := by
          have h1 : (Tryd.prog.info? 55).map (·.zero) = some (some (.agg #[.int .u32 0, .int .u32 0, .int .u32 0, .int .u32 0, .int .u32 0, .int .u32 0, .int .u32 0, .int .u32 0])) := by kernel_rfl
          have h2 : (Tryd.prog.info? 54).map (·.size) = some 1 := by kernel_rfl
          obtain ⟨it, q1, q2⟩ := Option.map_eq_some_iff.1 h1
          obtain ⟨ie, q3, q4⟩ := Option.map_eq_some_iff.1 h2
          exact fun us hl hc => built_words q1 q2 Tryd.underlying55 q3 q4 us hc (by simp [hl])
        have HBT := Lib.hid hbt
        clear hst hA hR hs e64 hth hRe h8i hbt
        as_aux_lemma =>
          go_upto_region 10 with (fail)
          refine wp_region_lit ?_
          iterate 96 (first | go_values | go_skip | go_guarded | go_step | go_upon | go_back)
          refine wpList_build_as rfl 55 [(0, .tmp 101), (1, .tmp 105), (2, .tmp 109), (3, .tmp 113), (4, .tmp 117), (5, .tmp 121), (6, .tmp 125), (7, .tmp 129)] rfl _ _ (HBT.out [.int .u32 _, .int .u32 _, .int .u32 _, .int .u32 _, .int .u32 _, .int .u32 _, .int .u32 _, .int .u32 _] rfl (by simp [Value.cells])) rfl ?_
          refine wpList_store_mid rfl 55 (.tmp 4) (.tmp 130) rfl R 0 #[.int .u32 _, .int .u32 _, .int .u32 _, .int .u32 _, .int .u32 _, .int .u32 _, .int .u32 _, .int .u32 _] rfl rfl HTH.out HI8.out (by simp [Value.oneCell']) ?_
          have w32 : ∀ x y : Nat, ((x : Int) + (y : Int)) % 4294967296 = (((y + x) % 4294967296 : Nat) : Int) := fun x y => by omega
          simp only [Act.put]
          rw [w32, w32, w32, w32, w32, w32, w32, w32]
          have hst := HST.out
          have hv : (shaBlock ⟨a, b, c, d, e, f, g, h⟩ l).val = .agg (us [(y0 + a) % 4294967296, (y1 + b) % 4294967296, (y2 + c) % 4294967296, (y3 + d) % 4294967296, (y4 + e) % 4294967296, (y5 + f) % 4294967296, (y6 + g) % 4294967296, (y7 + h) % 4294967296]).toArray := by rw [hst]; rfl
          change wpList _ _ _ _ _ (wr.setCells R 0 (us [(y0 + a) % 4294967296, (y1 + b) % 4294967296, (y2 + c) % 4294967296, (y3 + d) % 4294967296, (y4 + e) % 4294967296, (y5 + f) % 4294967296, (y6 + g) % 4294967296, (y7 + h) % 4294967296]))
          have hy8 : (us [(y0 + a) % 4294967296, (y1 + b) % 4294967296, (y2 + c) % 4294967296, (y3 + d) % 4294967296, (y4 + e) % 4294967296, (y5 + f) % 4294967296, (y6 + g) % 4294967296, (y7 + h) % 4294967296]).length = 8 := rfl
          generalize us [(y0 + a) % 4294967296, (y1 + b) % 4294967296, (y2 + c) % 4294967296, (y3 + d) % 4294967296, (y4 + e) % 4294967296, (y5 + f) % 4294967296, (y6 + g) % 4294967296, (y7 + h) % 4294967296] = ys at hv hy8 ⊢
          have hb9 : wr.there R 0 ys.length := by rw [hy8]; exact HTH.out
          have hrv := run_loadVar_mid (P := Tryd.prog) (wr.setCells R 0 ys) R 0 55 ys _ (by have := World.rangeAt_setCells_same wr R 0 ys hb9; simpa using this) Tryd.underlying55 rfl (by rw [hy8]; exact HI8.out)
          have hfs := Fr.setCells' R ys wr 0
          generalize wr.setCells R 0 ys = w9 at hrv hfs ⊢
          have HRV := Lib.hid hrv
          have HFS := Lib.hid hfs
          have HV := Lib.hid hv
          clear hrv hfs hv hst w32 hb9 hy8
          go_wp2
          refine bodyPost_ret (v := .agg ys.toArray) (by have h := HRV.out; simp [results, Tryd.results30, asAddr, h]) rfl ⟨by rw [HV.out], ?_⟩
          have hRs := HRE.out
          exact (((HF.out.non HF8.out).non HFR.out).new HFS.out (fun i h => by have h1 : i = R := h; omega))
end Go.Proofs.YtajknmapggkmnaaDoor
