/- package name, the document's: Take -/
import Derived.Test.YtpmkcjgndljhgaaDoorNameRefC
import Derived.Test.YtpmkcjgndljhgaaDoorWhole
import Derived.Test.YtpmkcjgndljhgaaDoorHeld
namespace Go.Proofs.YtpmkcjgndljhgaaDoor
open Go.ChangeShapes Go.WideShapes Go.ChangeAt Go.RowKit

theorem takeFix_8 (L : List UInt8) (i : Nat) (h : i + 8 ≤ L.length) : takeFix (L.drop i) 0 8 = (unfix ((L.drop i).take 8), L.drop (i + 8), 0) := by
  unfold takeFix unfixed
  rw [if_pos rfl, if_neg (by omega), if_neg (by rw [List.length_drop]; omega)]
  simp [List.drop_drop]

set_option maxRecDepth 100000 in
set_option maxHeartbeats 2000000 in
theorem refTake_any (v : Value) (l : List UInt8) (w : World) (hv : Row w v (bs l)) : Calls Tryd.prog 16 #[v] w fun e w' => e = .returned (.tuple #[.agg (hdCells (hdTake l).1).toArray, .int .i64 (hdTake l).2]) ∧ Fr Non w w' := by
  have hlen := run_lenRow (P := Tryd.prog) hv 33 5 Tryd.underlying33
  rw [bs_length] at hlen
  have hmax := hv.le
  rw [bs_length] at hmax
  unfold maxLen at hmax
  by_cases hs : (l.length : Int) < 30
  · have E : hdTake l = (Hd.zero, 10) := if_pos (by omega)
    have HE := Lib.hid E
    have HV := Lib.hid hv
    clear E hv
    go_enter Tryd.func16, Tryd.ntmps16
    go_wp2_with fail
    have hb : Blk (w.alloc (.cells #[Value.int .u8 0, Value.int .u8 0, Value.int .u64 0, Value.int .u64 0, Value.int .u64 0] 32)) w.heap.size 32 (hdCells Hd.zero) := Blk.new w _ _
    have hb := hb.loadVar (P := Tryd.prog) 32 _ Tryd.underlying32 rfl (by kernel_rfl)
    have HRV := Lib.hid hb
    refine bodyPost_ret (v := .tuple #[.agg (hdCells Hd.zero).toArray, .int .i64 10]) (by have h := HRV.out; simp [results, Tryd.results16, asAddr, h]) rfl ⟨by rw [HE.out]; rfl, Fr.alloc _ _⟩
  · have E : hdTake l = if hdGood l then (hdOf l, 0) else (Hd.zero, 70) := if_neg (by omega)
    have HE := Lib.hid E
    obtain ⟨v', hrun, hv', -⟩ := run_sub (P := Tryd.prog) hv 33 5 Tryd.underlying33 (by kernel_rfl) .i64 .i64 6 30 6 30 rfl rfl (by omega) (by rw [bs_length]; omega)
    obtain ⟨v2, hrun2, hv2, -⟩ := run_subHi (P := Tryd.prog) hv 33 5 Tryd.underlying33 (by kernel_rfl) .i64 30 30 rfl (by rw [bs_length]; omega)
    obtain ⟨L, hL⟩ : ∃ L, L = (l.drop 6).take 24 := ⟨_, rfl⟩
    have hL24 : L.length = 24 := by rw [hL, List.length_take, List.length_drop]; omega
    have eL : ((bs l).drop 6).take (30 - 6) = bs L := by rw [hL]; simp [bs, List.map_drop, List.map_take]
    rw [eL] at hv'
    obtain ⟨aa, nn, cc, rfl, hnn⟩ : ∃ aa nn cc, v' = .slice aa nn cc ∧ nn = 24 := by
      obtain ⟨aa, cc, rfl, -⟩ := id hv'
      exact ⟨aa, _, cc, rfl, by rw [bs_length, hL24]⟩
    subst hnn
    have HL := Lib.hid (And.intro hL hL24)
    clear hL hL24 eL
    obtain ⟨kd, hkd⟩ : ∃ kd, (l[4]!).toNat = kd := ⟨_, rfl⟩
    obtain ⟨lv, hlv⟩ : ∃ lv, (l[5]!).toNat = lv := ⟨_, rfl⟩
    have b4 : (bs l)[4]? = some (.int .u8 ((l[4]!).toNat : Int)) := by unfold bs; rw [List.getElem?_map, List.getElem?_eq_getElem (show 4 < l.length by omega), getElem!_pos l 4 (by omega)]; rfl
    have b5 : (bs l)[5]? = some (.int .u8 ((l[5]!).toNat : Int)) := by unfold bs; rw [List.getElem?_map, List.getElem?_eq_getElem (show 5 < l.length by omega), getElem!_pos l 5 (by omega)]; rfl
    rw [hkd] at b4
    rw [hlv] at b5
    have HKL := Lib.hid (And.intro hkd hlv)
    clear hkd hlv
    obtain ⟨bb, off, n, c, rfl, hn, x4⟩ := run_at hv 4 _ b4
    rw [bs_length] at hn
    subst hn
    obtain ⟨bb', off', n', c', e', -, x5⟩ := run_at hv 5 _ b5
    injection e' with e1 e2 e3
    injection e1 with e1
    injection e1 with e1 e4
    subst e1 e4 e2 e3
    have HV := Lib.hid hv
    have HV1 := Lib.hid hv'
    have HV2 := Lib.hid hv2
    clear E hv hv' hv2 b4 b5
    go_enter Tryd.func16, Tryd.ntmps16
    go_upto_region 4 with (fail)
    have hb1 := Blk.new w 32 (hdCells Hd.zero)
    have hf1 := Fr.alloc w (.cells #[Value.int .u8 0, Value.int .u8 0, Value.int .u64 0, Value.int .u64 0, Value.int .u64 0] 32)
    have hs1 : (w.alloc (.cells #[Value.int .u8 0, Value.int .u8 0, Value.int .u64 0, Value.int .u64 0, Value.int .u64 0] 32)).heap.size = w.heap.size + 1 := by simp
    have hb1 : Blk (w.alloc (.cells #[Value.int .u8 0, Value.int .u8 0, Value.int .u64 0, Value.int .u64 0, Value.int .u64 0] 32)) w.heap.size 32 (hdCells Hd.zero) := hb1
    generalize w.alloc (.cells #[Value.int .u8 0, Value.int .u8 0, Value.int .u64 0, Value.int .u64 0, Value.int .u64 0] 32) = w1 at hb1 hf1 hs1 ⊢
    have hf2 := Fr.alloc w1 (.cells #[Value.slice aa 24 cc, Value.int .i64 0, Value.int .i64 0] 56)
    have hp2 : (w1.alloc (.cells #[Value.slice aa 24 cc, Value.int .i64 0, Value.int .i64 0] 56)).heap[w.heap.size + 1]? = some (.cells #[Value.slice aa 24 cc, Value.int .i64 (0 : Nat), Value.int .i64 (0 : Nat)] 56 (0, 0)) := by rw [← hs1]; exact heap_alloc_new w1 _
    have hs2 : (w1.alloc (.cells #[Value.slice aa 24 cc, Value.int .i64 0, Value.int .i64 0] 56)).heap.size = w.heap.size + 2 := by simp [hs1]
    generalize w1.alloc (.cells #[Value.slice aa 24 cc, Value.int .i64 0, Value.int .i64 0] 56) = w2 at hf2 hp2 hs2 ⊢
    have hf02 := hf1.non hf2
    have y4 := hf02.cell x4 (fun h => h)
    have y5 := hf02.cell x5 (fun h => h)
    have HB2 := Lib.hid (hb1.non hf2)
    have HF2 := Lib.hid hf02
    have HP2 := Lib.hid hp2
    clear hb1 hf1 hs1 hf2 hp2 hf02 x4 x5 hrun
    have i4 : (4 : Int) < l.length := by omega
    have i5 : (5 : Int) < l.length := by omega
    have z4 := (Fr.alloc w2 (.cells #[Value.int .u8 0, Value.int .u8 0, Value.int .u64 0, Value.int .u64 0, Value.int .u64 0] 32)).cell y4 (fun h => h)
    have z5 := (Fr.alloc w2 (.cells #[Value.int .u8 0, Value.int .u8 0, Value.int .u64 0, Value.int .u64 0, Value.int .u64 0] 32)).cell y5 (fun h => h)
    go_region
    clear z4 z5 y4 y5
    have hh3 : Blk (w2.alloc (.cells #[Value.int .u8 kd, Value.int .u8 lv, Value.int .u64 0, Value.int .u64 0, Value.int .u64 0] 32)).drew (w.heap.size + 2) 32 (hdCells ⟨kd, lv, 0, 0, 0⟩) := by rw [← hs2]; exact heap_alloc_new w2 _
    have hf3 : Fr Non w2 (w2.alloc (.cells #[Value.int .u8 kd, Value.int .u8 lv, Value.int .u64 0, Value.int .u64 0, Value.int .u64 0] 32)).drew := (Fr.alloc w2 _).non (Fr.drew _)
    have hs3 : w.heap.size + 3 ≤ (w2.alloc (.cells #[Value.int .u8 kd, Value.int .u8 lv, Value.int .u64 0, Value.int .u64 0, Value.int .u64 0] 32)).drew.heap.size := by
      show _ ≤ (w2.alloc (.cells #[Value.int .u8 kd, Value.int .u8 lv, Value.int .u64 0, Value.int .u64 0, Value.int .u64 0] 32)).heap.size
      simp [hs2]
    generalize (w2.alloc (.cells #[Value.int .u8 kd, Value.int .u8 lv, Value.int .u64 0, Value.int .u64 0, Value.int .u64 0] 32)).drew = w3 at hh3 hf3 hs3 ⊢
    have hL24 := HL.out.2
    have hof : ∀ S : Nat → Prop, (∀ k, S k → w.heap.size ≤ k) → Off S (.slice aa 24 cc) := fun S hS => HV1.out.old (by rw [bs_length, hL24]; omega) hS
    have hr3 : RRd w3 (w.heap.size + 1) (.slice aa 24 cc) L 0 0 := ⟨hf3.heap HP2.out (fun h => h), (HV1.out.non HF2.out).non hf3, fun _ => hof _ (fun k (h : k = _) => by omega), by omega, aa, cc, by rw [hL24]⟩
    have HO := Lib.hid (hof (One (w.heap.size + 2)) (fun k (h : k = _) => by omega))
    have HR3 := Lib.hid hr3
    have HH3 := Lib.hid hh3
    have HB3 := Lib.hid (HB2.out.non hf3)
    have HF3 := Lib.hid (HF2.out.non hf3)
    obtain ⟨g0, hg0⟩ : ∃ g, unfix ((L.drop 0).take 8) = g := ⟨_, rfl⟩
    obtain ⟨g1, hg1⟩ : ∃ g, unfix ((L.drop 8).take 8) = g := ⟨_, rfl⟩
    obtain ⟨g2, hg2⟩ : ∃ g, unfix ((L.drop 16).take 8) = g := ⟨_, rfl⟩
    have HG := Lib.hid (And.intro hg0 (And.intro hg1 hg2))
    clear hr3 hh3 hf3 hof hg0 hg1 hg2 HB2 HF2 HP2 hs2
    go_wp2_with fail
    have t0 := rrFix_any w3 (w.heap.size + 1) (.slice aa 24 cc) L 0 0 8 HR3.out
    rw [takeFix_8 L 0 (by omega), HG.out.1] at t0
    refine t0.mono ?_
    clear t0
    rintro e w4 ⟨rfl, ⟨i', hi', hr⟩, hf⟩
    have hi8 : i' = 8 := by have := congrArg List.length hi'; simp only [List.length_drop] at this; have := hr.2.2.2.1; omega
    subst hi8
    have hh := HH3.out.frame hf (fun h => by have h : _ = _ := h; (try simp only [] at h); omega)
    have hb := HB3.out.frame hf (fun h => by have h : _ = _ := h; (try simp only [] at h); omega)
    obtain ⟨m1, m2⟩ := hh.at 2 _ rfl
    have hh' := hh.set 2 (.int .u64 g0)
    have hb' := hb.frame (Fr.setCell w4 ⟨w.heap.size + 2, 2, none⟩ (.int .u64 g0)) (fun h => by have h : _ = _ := h; (try simp only [] at h); omega)
    have hr' := hr.frame (Fr.setCell w4 ⟨w.heap.size + 2, 2, none⟩ (.int .u64 g0)) (fun h => by have h : _ = _ := h; (try simp only [] at h); omega) (hr.2.1.frame (Fr.setCell w4 ⟨w.heap.size + 2, 2, none⟩ (.int .u64 g0)) HO.out)
    have hf' := (HF3.out.new hf (fun j (h : j = _) => by omega)).new (Fr.setCell w4 ⟨w.heap.size + 2, 2, none⟩ (.int .u64 g0)) (fun j h => by have h : j = w.heap.size + 2 := h; omega)
    have hs' : w.heap.size + 3 ≤ (w4.setCell ⟨w.heap.size + 2, 2, none⟩ (.int .u64 g0)).heap.size := by simp only [World.setCell, Array.size_modify]; have := hf.size; omega
    have HH := Lib.hid hh'
    have HB := Lib.hid hb'
    have HR := Lib.hid hr'
    have HF5 := Lib.hid hf'
    have HS := Lib.hid hs'
    clear hh hb hh' hb' hr hr' hf hf' hs'
    go_wp2_with fail
    generalize w4.setCell ⟨w.heap.size + 2, 2, none⟩ (.int .u64 g0) = w5 at HH HB HR HF5 HS ⊢
    have HH5 : Hid (Blk w5 (w.heap.size + 2) 32 (hdCells ⟨kd, lv, g0, 0, 0⟩)) := HH
    have HB5 := HB
    have HR5 := HR
    have hs3 := HS.out
    clear HH HB HR HS HH3 HB3 HR3 HF3 m1 m2
    have t1 := rrFix_any w5 (w.heap.size + 1) (.slice aa 24 cc) L 8 0 8 HR5.out
    rw [takeFix_8 L 8 (by omega), HG.out.2.1] at t1
    refine t1.mono ?_
    clear t1
    rintro e w6 ⟨rfl, ⟨i', hi', hr⟩, hf⟩
    have hi8 : i' = 16 := by have := congrArg List.length hi'; simp only [List.length_drop] at this; have := hr.2.2.2.1; omega
    subst hi8
    have hh := HH5.out.frame hf (fun h => by have h : _ = _ := h; (try simp only [] at h); omega)
    have hb := HB5.out.frame hf (fun h => by have h : _ = _ := h; (try simp only [] at h); omega)
    obtain ⟨m1, m2⟩ := hh.at 3 _ rfl
    have hh' := hh.set 3 (.int .u64 g1)
    have hb' := hb.frame (Fr.setCell w6 ⟨w.heap.size + 2, 3, none⟩ (.int .u64 g1)) (fun h => by have h : _ = _ := h; (try simp only [] at h); omega)
    have hr' := hr.frame (Fr.setCell w6 ⟨w.heap.size + 2, 3, none⟩ (.int .u64 g1)) (fun h => by have h : _ = _ := h; (try simp only [] at h); omega) (hr.2.1.frame (Fr.setCell w6 ⟨w.heap.size + 2, 3, none⟩ (.int .u64 g1)) HO.out)
    have hf' := (HF5.out.new hf (fun j (h : j = _) => by omega)).new (Fr.setCell w6 ⟨w.heap.size + 2, 3, none⟩ (.int .u64 g1)) (fun j h => by have h : j = w.heap.size + 2 := h; omega)
    have hs' : w.heap.size + 3 ≤ (w6.setCell ⟨w.heap.size + 2, 3, none⟩ (.int .u64 g1)).heap.size := by simp only [World.setCell, Array.size_modify]; have := hf.size; omega
    have HH := Lib.hid hh'
    have HB := Lib.hid hb'
    have HR := Lib.hid hr'
    have HF7 := Lib.hid hf'
    have HS := Lib.hid hs'
    clear hh hb hh' hb' hr hr' hf hf' hs'
    go_wp2_with fail
    generalize w6.setCell ⟨w.heap.size + 2, 3, none⟩ (.int .u64 g1) = w7 at HH HB HR HF7 HS ⊢
    have HH7 : Hid (Blk w7 (w.heap.size + 2) 32 (hdCells ⟨kd, lv, g0, g1, 0⟩)) := HH
    have HB7 := HB
    have HR7 := HR
    have hs3 := HS.out
    clear HH HB HR HS HH5 HB5 HR5 HF5 m1 m2
    have t2 := rrFix_any w7 (w.heap.size + 1) (.slice aa 24 cc) L 16 0 8 HR7.out
    rw [takeFix_8 L 16 (by omega), HG.out.2.2] at t2
    refine t2.mono ?_
    clear t2
    rintro e w8 ⟨rfl, ⟨i', hi', hr⟩, hf⟩
    have hi8 : i' = 24 := by have := congrArg List.length hi'; simp only [List.length_drop] at this; have := hr.2.2.2.1; omega
    subst hi8
    have hh := HH7.out.frame hf (fun h => by have h : _ = _ := h; (try simp only [] at h); omega)
    have hb := HB7.out.frame hf (fun h => by have h : _ = _ := h; (try simp only [] at h); omega)
    obtain ⟨m1, m2⟩ := hh.at 4 _ rfl
    have hh' := hh.set 4 (.int .u64 g2)
    have hb' := hb.frame (Fr.setCell w8 ⟨w.heap.size + 2, 4, none⟩ (.int .u64 g2)) (fun h => by have h : _ = _ := h; (try simp only [] at h); omega)
    have hr' := hr.frame (Fr.setCell w8 ⟨w.heap.size + 2, 4, none⟩ (.int .u64 g2)) (fun h => by have h : _ = _ := h; (try simp only [] at h); omega) (hr.2.1.frame (Fr.setCell w8 ⟨w.heap.size + 2, 4, none⟩ (.int .u64 g2)) HO.out)
    have hf' := (HF7.out.new hf (fun j (h : j = _) => by omega)).new (Fr.setCell w8 ⟨w.heap.size + 2, 4, none⟩ (.int .u64 g2)) (fun j h => by have h : j = w.heap.size + 2 := h; omega)
    have hs' : w.heap.size + 3 ≤ (w8.setCell ⟨w.heap.size + 2, 4, none⟩ (.int .u64 g2)).heap.size := by simp only [World.setCell, Array.size_modify]; have := hf.size; omega
    have HH := Lib.hid hh'
    have HB := Lib.hid hb'
    have HR := Lib.hid hr'
    have HF9 := Lib.hid hf'
    have HS := Lib.hid hs'
    clear hh hb hh' hb' hr hr' hf hf' hs'
    go_upto_region 8 with (fail)
    generalize w8.setCell ⟨w.heap.size + 2, 4, none⟩ (.int .u64 g2) = w9 at HH HB HR HF9 HS ⊢
    have HH9 : Hid (Blk w9 (w.heap.size + 2) 32 (hdCells ⟨kd, lv, g0, g1, g2⟩)) := HH
    have HB9 := HB
    have HR9 := HR
    have hs3 := HS.out
    clear HH HB HR HS HH7 HB7 HR7 HF7 m1 m2
    -- region 8
    obtain ⟨M, hM⟩ : ∃ M : Hd, (⟨kd, lv, g0, g1, g2⟩ : Hd) = M := ⟨_, rfl⟩
    have HH := HH9
    rw [hM] at HH
    have eM : hdOf l = M := by
      rw [← hM]
      unfold hdOf
      rw [HKL.out.1, HKL.out.2, ← HG.out.1, ← HG.out.2.1, ← HG.out.2.2, HL.out.1]
      simp only [List.drop_take, List.take_take, List.drop_drop]
      rfl
    have hok : M.ok := by rw [← eM]; exact hdOf_ok l
    have hgood : hdGood l = (hdRight M && (hdLay M == l.take 30)) := by
      have h := hdLay_iff l (by omega)
      rw [eM] at h
      unfold hdGood
      rw [eM, show decide (30 ≤ l.length) = true by simp; omega, Bool.true_and]
      congr 1
      rw [Bool.eq_iff_iff, beq_iff_eq, beq_iff_eq]
      exact h.symm
    rw [hgood, eM] at HE
    have e30 : (bs l).take 30 = bs (l.take 30) := by simp [bs, List.map_take]
    rw [e30] at HV2
    generalize l.take 30 = T at HE HV2
    have HOK := Lib.hid hok
    clear hM eM hgood e30 HH9 HR9 HG HKL HL HV1 HO hok
    have him : (Tryd.prog.info? 32).map (·.size) = some (hdCells M).length := by show _ = some 5; kernel_rfl
    have hiz : (Tryd.prog.info? 32).map (·.size) = some (hdCells Hd.zero).length := by show _ = some 5; kernel_rfl
    have hum := Tryd.underlying32
    have h1m : ∀ v ∈ hdCells M, v.oneCell' = true := by intro v hv; simp only [hdCells, List.mem_cons, List.not_mem_nil, or_false] at hv; rcases hv with rfl | rfl | rfl | rfl | rfl <;> rfl
    have h1z : ∀ v ∈ hdCells Hd.zero, v.oneCell' = true := by intro v hv; simp only [hdCells, List.mem_cons, List.not_mem_nil, or_false] at hv; rcases hv with rfl | rfl | rfl | rfl | rfl <;> rfl
    have HB := HB9
    have HIM := Lib.hid (And.intro him (And.intro hiz (And.intro h1m h1z)))
    obtain ⟨H, hH⟩ : ∃ H, w.heap.size + 2 = H := ⟨_, rfl⟩
    rw [hH] at HH ⊢
    have HHE := Lib.hid hH
    have hS0 : (fun w' : World => w'.rangeAt H 0 (hdCells M) ∧ Row w' v2 (bs T)) w9.drew := ⟨(HH.out.non (Fr.drew _)).range 0 _ (fun j v hv => by simpa using hv), (HV2.out.non HF9.out).non (Fr.drew _)⟩
    clear hH HB9 hiz h1m h1z hs3
    by_cases hr : hdRight M = true
    case pos =>
      have right (w : World) := refRight_any M w
      rw [hr] at right HE
      have HRT := Lib.hid right
      clear right hr
      refine wp_region_held_drew (S := fun w' => w'.rangeAt H 0 (hdCells M) ∧ Row w' v2 (bs T)) (by kernel_rfl) hS0 (fun hHeld => ?_)
      refine wpAnyH_takeL (i := 0) 26 (v := .agg (hdCells M).toArray) rfl rfl (by kernel_rfl) (by kernel_rfl) (by kernel_rfl) (fun _ _ _ h => h) (by assumption) (yieldsIf_load_mid (by rfl) _ _ rfl H (0) rfl (hdCells M) _ (fun w h => h.1) hum rfl him) ?_
      simp only [List.set_cons_zero, List.set_cons_succ]
      refine wpAnyH_ready (rs := [1]) (by kernel_rfl) (by simp) ?_
      refine AllReadyH.cons (o := ⟨some 27, _, _, _, _, _⟩) rfl (fun K hK => ?_) (AllReadyH.nil)
      go_simp
      go_wp2_with (go_at_call 18; refine (HRT.out _).mono ?_; rintro e r2 ⟨rfl, hf2⟩)
      have F2 : Hid (Fr Non w9.drew r2) := Lib.hid hf2
      clear hf2
      refine hK.out _ _ (⟨(HH.out.non ((Fr.drew _).non F2.out)).range 0 _ (fun j v hv => by simpa using hv), (HV2.out.non HF9.out).non ((Fr.drew _).non F2.out)⟩) (fun hHeld => ?_)
      clear hK K
      refine wpAnyH_takeL (i := 2) 28 (v := ?_) rfl rfl (by kernel_rfl) (by kernel_rfl) (by kernel_rfl) (fun _ _ _ h => h) (by assumption) (Or.inl ⟨by rfl, ?_⟩) ?_
      rotate_left
      · intro w hSw; go_simp; (try with_reducible rfl)
      simp only [List.set_cons_zero, List.set_cons_succ]
      refine wpAnyH_takeL (i := 3) 29 (v := ?_) rfl rfl (by kernel_rfl) (by kernel_rfl) (by kernel_rfl) (fun _ _ _ h => h) (by assumption) (Or.inl ⟨by rfl, ?_⟩) ?_
      rotate_left
      · intro w hSw; go_simp; (try with_reducible rfl)
      simp only [List.set_cons_zero, List.set_cons_succ]
      refine wpAnyH_takeL (i := 4) 30 (v := .agg (hdCells M).toArray) rfl rfl (by kernel_rfl) (by kernel_rfl) (by kernel_rfl) (fun _ _ _ h => h) (by assumption) (yieldsIf_load_mid (by rfl) _ _ rfl H (0) rfl (hdCells M) _ (fun w h => h.1) hum rfl him) ?_
      simp only [List.set_cons_zero, List.set_cons_succ]
      refine wpAnyH_takeL (i := 7) 33 (v := ?_) rfl rfl (by kernel_rfl) (by kernel_rfl) (by kernel_rfl) (fun _ _ _ h => h) (by assumption) (Or.inl ⟨by rfl, ?_⟩) ?_
      rotate_left
      · intro w hSw; go_simp; (try with_reducible rfl)
      simp only [List.set_cons_zero, List.set_cons_succ]
      refine wpAnyH_takeL (i := 8) 34 (v := ?_) rfl rfl (by kernel_rfl) (by kernel_rfl) (by kernel_rfl) (fun _ _ _ h => h) (by assumption) (Or.inl ⟨by rfl, ?_⟩) ?_
      rotate_left
      · intro w hSw; go_simp; (try with_reducible rfl)
      simp only [List.set_cons_zero, List.set_cons_succ]
      refine wpAnyH_takeL (i := 9) 35 (v := .string ⟨T.toArray⟩) rfl rfl (by kernel_rfl) (by kernel_rfl) (by kernel_rfl) (fun _ _ _ h => h) (by assumption) (Or.inl ⟨by rfl, ?_⟩) ?_
      · intro w hSw; have hx := run_str (P := Tryd.prog) w 33 9 5 _ _ hSw.2 Tryd.underlying33 Tryd.underlying5 Tryd.underlying9; go_simp
      simp only [List.set_cons_zero, List.set_cons_succ]
      refine wpAnyH_ready (rs := [5]) (by kernel_rfl) (by simp) ?_
      refine AllReadyH.cons (o := ⟨some 31, _, _, _, _, _⟩) rfl (fun K hK => ?_) (AllReadyH.nil)
      go_simp
      go_wp2_with (go_at_call 20; refine (refLay_any M _ HOK.out).mono ?_; rintro e r3 ⟨v9, rfl, ho9, hf3⟩)
      have hr9 := ho9.row
      clear ho9
      have F3 : Hid (Fr Non r2 r3) := Lib.hid hf3
      clear hf3
      generalize hdLay M = X at hr9 HE
      refine hK.out _ _ (⟨(HH.out.non ((Fr.drew _).non (F2.out.non F3.out))).range 0 _ (fun j v hv => by simpa using hv), (HV2.out.non HF9.out).non ((Fr.drew _).non (F2.out.non F3.out))⟩) (fun hHeld => ?_)
      clear hK K
      refine wpAnyH_ready (rs := [6]) (by kernel_rfl) (by simp) ?_
      refine AllReadyH.cons (o := ⟨some 32, _, _, _, _, _⟩) rfl (fun K hK => ?_) (AllReadyH.nil)
      have hxs := run_str (P := Tryd.prog) r3 33 9 5 _ _ hr9 Tryd.underlying33 Tryd.underlying5 Tryd.underlying9
      go_simp
      refine hK.out _ _ (⟨(HH.out.non ((Fr.drew _).non (F2.out.non F3.out))).range 0 _ (fun j v hv => by simpa using hv), (HV2.out.non HF9.out).non ((Fr.drew _).non (F2.out.non F3.out))⟩) (fun hHeld => ?_)
      clear hK K
      refine wpAnyH_takeL (i := 10) 36 (v := ?_) rfl rfl (by kernel_rfl) (by kernel_rfl) (by kernel_rfl) (fun _ _ _ h => h) (by assumption) (Or.inl ⟨by rfl, ?_⟩) ?_
      rotate_left
      · intro w hSw; go_simp; (try with_reducible rfl)
      simp only [List.set_cons_zero, List.set_cons_succ]
      refine wpAnyH_takeL (i := 11) 37 (v := ?_) rfl rfl (by kernel_rfl) (by kernel_rfl) (by kernel_rfl) (fun _ _ _ h => h) (by assumption) (Or.inl ⟨by rfl, ?_⟩) ?_
      rotate_left
      · intro w hSw; go_simp; (try with_reducible rfl)
      simp only [List.set_cons_zero, List.set_cons_succ]
      refine wpAnyH_done (by kernel_rfl) ?_ _
      generalize hwA : r3 = wA
      have HFA : Hid (Fr Non w9 wA) := Lib.hid (by rw [← hwA]; exact ((Fr.drew _).non (F2.out.non F3.out)))
      clear hwA hr9 hxs hHeld hS0
      by_cases htb : (X == T) = true
      case pos =>
        rw [htb]
        rw [htb] at HE
        go_upto_region 10 with (fail)
        refine wp_region_lit ?_
        refine wpList_whole rfl rfl 32 39 (.tmp 5) (.tmp 2) rfl rfl rfl rfl H w.heap.size _ _ (hdCells M) (hdCells Hd.zero) (HH.out.non HFA.out) (HB.out.non HFA.out) rfl _ Tryd.underlying32 rfl HIM.out.1 HIM.out.2.2.1 (by simp) rfl (fun _ => rfl) ?_
        intro wB hbB hfB _
        have HRV := Lib.hid (hbB.loadVar (P := Tryd.prog) 32 _ Tryd.underlying32 rfl HIM.out.1)
        have HFF := Lib.hid ((HF9.out.non HFA.out).new hfB (fun i h => by have h1 : i = w.heap.size := h; omega))
        clear hbB hfB
        repeat (first | go_skip | go_step)
        refine bodyPost_ret (v := .tuple #[.agg (hdCells M).toArray, .int .i64 0]) (by have h := HRV.out; simp [results, Tryd.results16, asAddr, h]) rfl ⟨by rw [HE.out]; rfl, HFF.out⟩
      case neg =>
        have htf : (X == T) = false := by simpa using htb
        rw [htf]
        rw [htf] at HE
        clear htb htf
        go_wp2_with ((with_reducible show wpList _ _ _ (({ op := .store _ _ _, .. } : Oper) :: _) _ _); refine wpList_put rfl 32 (.tmp 2) (.tmp 38) rfl rfl w.heap.size _ (hdCells Hd.zero) (hdCells Hd.zero) (HB.out.non HFA.out) rfl HIM.out.2.1 HIM.out.2.2.2 rfl rfl ?_; intro wB hbB hfB _)
        have HRV := Lib.hid (hbB.loadVar (P := Tryd.prog) 32 _ Tryd.underlying32 rfl HIM.out.2.1)
        have HFF := Lib.hid ((HF9.out.non HFA.out).new hfB (fun i h => by have h1 : i = w.heap.size := h; omega))
        clear hbB hfB
        refine bodyPost_ret (v := .tuple #[.agg (hdCells Hd.zero).toArray, .int .i64 70]) (by have h := HRV.out; simp [results, Tryd.results16, asAddr, h]) rfl ⟨by rw [HE.out]; rfl, HFF.out⟩
    case neg =>
      have hrf : hdRight M = false := by simpa using hr
      have right (w : World) := refRight_any M w
      rw [hrf] at right HE
      have HRT := Lib.hid right
      clear right hr hrf
      refine wp_region_held_drew (S := fun w' => w'.rangeAt H 0 (hdCells M) ∧ Row w' v2 (bs T)) (by kernel_rfl) hS0 (fun hHeld => ?_)
      refine wpAnyH_takeL (i := 0) 26 (v := .agg (hdCells M).toArray) rfl rfl (by kernel_rfl) (by kernel_rfl) (by kernel_rfl) (fun _ _ _ h => h) (by assumption) (yieldsIf_load_mid (by rfl) _ _ rfl H (0) rfl (hdCells M) _ (fun w h => h.1) hum rfl him) ?_
      simp only [List.set_cons_zero, List.set_cons_succ]
      refine wpAnyH_ready (rs := [1]) (by kernel_rfl) (by simp) ?_
      refine AllReadyH.cons (o := ⟨some 27, _, _, _, _, _⟩) rfl (fun K hK => ?_) (AllReadyH.nil)
      go_simp
      go_wp2_with (go_at_call 18; refine (HRT.out _).mono ?_; rintro e r2 ⟨rfl, hf2⟩)
      have F2 : Hid (Fr Non w9.drew r2) := Lib.hid hf2
      clear hf2
      refine hK.out _ _ (⟨(HH.out.non ((Fr.drew _).non F2.out)).range 0 _ (fun j v hv => by simpa using hv), (HV2.out.non HF9.out).non ((Fr.drew _).non F2.out)⟩) (fun hHeld => ?_)
      clear hK K
      refine wpAnyH_takeL (i := 2) 28 (v := ?_) rfl rfl (by kernel_rfl) (by kernel_rfl) (by kernel_rfl) (fun _ _ _ h => h) (by assumption) (Or.inl ⟨by rfl, ?_⟩) ?_
      rotate_left
      · intro w hSw; go_simp; (try with_reducible rfl)
      simp only [List.set_cons_zero, List.set_cons_succ]
      refine wpAnyH_takeL (i := 3) 29 (v := ?_) rfl rfl (by kernel_rfl) (by kernel_rfl) (by kernel_rfl) (fun _ _ _ h => h) (by assumption) (Or.inl ⟨by rfl, ?_⟩) ?_
      rotate_left
      · intro w hSw; go_simp; (try with_reducible rfl)
      simp only [List.set_cons_zero, List.set_cons_succ]
      refine wpAnyH_takeL (i := 4) 30 (v := undef) rfl rfl (by kernel_rfl) (by kernel_rfl) (by kernel_rfl) (fun _ _ _ h => h) (by assumption) (Or.inr ⟨by rfl, rfl⟩) ?_
      simp only [List.set_cons_zero, List.set_cons_succ]
      refine wpAnyH_takeL (i := 5) 31 (v := undef) rfl rfl (by kernel_rfl) (by kernel_rfl) (by kernel_rfl) (fun _ _ _ h => h) (by assumption) (Or.inr ⟨by rfl, rfl⟩) ?_
      simp only [List.set_cons_zero, List.set_cons_succ]
      refine wpAnyH_takeL (i := 6) 32 (v := undef) rfl rfl (by kernel_rfl) (by kernel_rfl) (by kernel_rfl) (fun _ _ _ h => h) (by assumption) (Or.inr ⟨by rfl, rfl⟩) ?_
      simp only [List.set_cons_zero, List.set_cons_succ]
      refine wpAnyH_takeL (i := 7) 33 (v := undef) rfl rfl (by kernel_rfl) (by kernel_rfl) (by kernel_rfl) (fun _ _ _ h => h) (by assumption) (Or.inr ⟨by rfl, rfl⟩) ?_
      simp only [List.set_cons_zero, List.set_cons_succ]
      refine wpAnyH_takeL (i := 8) 34 (v := undef) rfl rfl (by kernel_rfl) (by kernel_rfl) (by kernel_rfl) (fun _ _ _ h => h) (by assumption) (Or.inr ⟨by rfl, rfl⟩) ?_
      simp only [List.set_cons_zero, List.set_cons_succ]
      refine wpAnyH_takeL (i := 9) 35 (v := undef) rfl rfl (by kernel_rfl) (by kernel_rfl) (by kernel_rfl) (fun _ _ _ h => h) (by assumption) (Or.inr ⟨by rfl, rfl⟩) ?_
      simp only [List.set_cons_zero, List.set_cons_succ]
      refine wpAnyH_takeL (i := 10) 36 (v := undef) rfl rfl (by kernel_rfl) (by kernel_rfl) (by kernel_rfl) (fun _ _ _ h => h) (by assumption) (Or.inr ⟨by rfl, rfl⟩) ?_
      simp only [List.set_cons_zero, List.set_cons_succ]
      refine wpAnyH_takeL (i := 11) 37 (v := ?_) rfl rfl (by kernel_rfl) (by kernel_rfl) (by kernel_rfl) (fun _ _ _ h => h) (by assumption) (Or.inl ⟨by rfl, ?_⟩) ?_
      rotate_left
      · intro w hSw; go_simp; (try with_reducible rfl)
      simp only [List.set_cons_zero, List.set_cons_succ]
      refine wpAnyH_done (by kernel_rfl) ?_ _
      generalize hwA : r2 = wA
      have HFA : Hid (Fr Non w9 wA) := Lib.hid (by rw [← hwA]; exact ((Fr.drew _).non F2.out))
      clear hwA hHeld hS0
      go_wp2_with ((with_reducible show wpList _ _ _ (({ op := .store _ _ _, .. } : Oper) :: _) _ _); refine wpList_put rfl 32 (.tmp 2) (.tmp 38) rfl rfl w.heap.size _ (hdCells Hd.zero) (hdCells Hd.zero) (HB.out.non HFA.out) rfl HIM.out.2.1 HIM.out.2.2.2 rfl rfl ?_; intro wB hbB hfB _)
      have HRV := Lib.hid (hbB.loadVar (P := Tryd.prog) 32 _ Tryd.underlying32 rfl HIM.out.2.1)
      have HFF := Lib.hid ((HF9.out.non HFA.out).new hfB (fun i h => by have h1 : i = w.heap.size := h; omega))
      clear hbB hfB
      refine bodyPost_ret (v := .tuple #[.agg (hdCells Hd.zero).toArray, .int .i64 70]) (by have h := HRV.out; simp [results, Tryd.results16, asAddr, h]) rfl ⟨by rw [HE.out]; rfl, HFF.out⟩
end Go.Proofs.YtpmkcjgndljhgaaDoor
