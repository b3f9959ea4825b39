/- package name: a head's fields; Take -/
import Derived.Test.YtpmkcjgndljhgaaDoorNameOpH
import Derived.Test.YtpmkcjgndljhgaaDoorCodecRd
import Derived.Test.YtpmkcjgndljhgaaDoorWhole
import Derived.Test.YtpmkcjgndljhgaaDoorHeld

namespace Go.Proofs.YtpmkcjgndljhgaaDoor
open Go.ChangeShapes Go.WideShapes Go.ChangeAt Go.RowKit

/-- the head whose fields those bytes are -/
def hdFields (L : List UInt8) : Hd := ⟨unfix ((L.drop 0).take 1), unfix ((L.drop 1).take 1), unfix ((L.drop 2).take 8), unfix ((L.drop 10).take 8), unfix ((L.drop 18).take 8)⟩
theorem unfix_one (l : List UInt8) (i : Nat) (h : i < l.length) : unfix ((l.drop i).take 1) = (l[i]!).toNat := by
  rw [List.drop_eq_getElem_cons h, getElem!_pos l i h]
  rw [List.take_succ_cons, List.take_zero]
  show _ + 256 * 0 = _
  omega
theorem hdFields_of (b : List UInt8) (h : 30 ≤ b.length) : hdFields ((b.take 30).drop 4) = hdOf b := by
  have e (k n : Nat) (hk : k + n ≤ 26) : (((b.take 30).drop 4).drop k).take n = (b.drop (4 + k)).take n := by
    rw [List.drop_drop, List.drop_take, List.take_take, Nat.min_eq_left (by omega)]
  unfold hdFields hdOf
  rw [e 0 1 (by omega), e 1 1 (by omega), e 2 8 (by omega), e 10 8 (by omega), e 18 8 (by omega), unfix_one b 4 (by omega), unfix_one b 5 (by omega)]
theorem takeFix_at (L : List UInt8) (i k : Nat) (h : i + k ≤ L.length) (hk : k ≤ 8) : takeFix (L.drop i) 0 k = (unfix ((L.drop i).take k), L.drop (i + k), 0) := by
  unfold takeFix unfixed
  rw [if_pos rfl, if_neg (by omega), if_neg (by rw [List.length_drop]; omega)]
  simp [List.drop_drop]
theorem unfix_take_lt (L : List UInt8) (i k : Nat) : unfix ((L.drop i).take k) < 256 ^ k :=
  Nat.lt_of_lt_of_le (unfix_lt _) (Nat.pow_le_pow_right (by omega) (by rw [List.length_take]; omega))

set_option maxRecDepth 100000 in
set_option maxHeartbeats 4000000 in
theorem fields_any (v : Value) (L : List UInt8) (w : World) (hv : Row w v (bs L)) (hl : L.length = 26) :
    Calls Tryd.prog 29 #[v] w fun e w' => e = .returned (.agg (hdCells (hdFields L)).toArray) ∧ Fr Non w w' := by
  obtain ⟨n0, h0⟩ : ∃ n, unfix ((L.drop 0).take 1) = n := ⟨_, rfl⟩
  obtain ⟨n1, h1⟩ : ∃ n, unfix ((L.drop 1).take 1) = n := ⟨_, rfl⟩
  obtain ⟨n2, h2⟩ : ∃ n, unfix ((L.drop 2).take 8) = n := ⟨_, rfl⟩
  obtain ⟨n3, h3⟩ : ∃ n, unfix ((L.drop 10).take 8) = n := ⟨_, rfl⟩
  obtain ⟨n4, h4⟩ : ∃ n, unfix ((L.drop 18).take 8) = n := ⟨_, rfl⟩
  have b0 : n0 < 256 := h0 ▸ unfix_take_lt L 0 1
  have b1 : n1 < 256 := h1 ▸ unfix_take_lt L 1 1
  have x0 : IntKind.u8.wrap (n0 : Int) = (n0 : Int) := by rw [IntKind.wrap_u8]; omega
  have x1 : IntKind.u8.wrap (n1 : Int) = (n1 : Int) := by rw [IntKind.wrap_u8]; omega
  have E : hdFields L = ⟨n0, n1, n2, n3, n4⟩ := by unfold hdFields; rw [h0, h1, h2, h3, h4]
  have t0 := takeFix_at L 0 1 (by omega) (by omega)
  have t1 := takeFix_at L 1 1 (by omega) (by omega)
  have t2 := takeFix_at L 2 8 (by omega) (by omega)
  have t3 := takeFix_at L 10 8 (by omega) (by omega)
  have t4 := takeFix_at L 18 8 (by omega) (by omega)
  rw [h0] at t0
  rw [h1] at t1
  rw [h2] at t2
  rw [h3] at t3
  rw [h4] at t4
  have HE := Lib.hid E
  have HV := Lib.hid hv
  have T0 := Lib.hid t0
  have T1 := Lib.hid t1
  have T2 := Lib.hid t2
  have T3 := Lib.hid t3
  have T4 := Lib.hid t4
  have HB := Lib.hid (And.intro b0 b1)
  have HL := Lib.hid hl
  clear hv hl h0 h1 h2 h3 h4 b0 b1 E t0 t1 t2 t3 t4
  go_enter Tryd.func29, Tryd.ntmps29
  go_upto_region 2 with (fail)
  have hb1 : Blk (w.alloc (.cells #[Value.int .u8 0, Value.int .u8 0, Value.int .u64 0, Value.int .u64 0, Value.int .u64 0] 32)) w.heap.size 32 (hdCells Hd.zero) := Blk.new w _ _
  have hf1 := Fr.alloc w (.cells #[Value.int .u8 0, Value.int .u8 0, Value.int .u64 0, Value.int .u64 0, Value.int .u64 0] 32)
  have hs1 : (w.alloc (.cells #[Value.int .u8 0, Value.int .u8 0, Value.int .u64 0, Value.int .u64 0, Value.int .u64 0] 32)).heap.size = w.heap.size + 1 := by simp
  generalize w.alloc (.cells #[Value.int .u8 0, Value.int .u8 0, Value.int .u64 0, Value.int .u64 0, Value.int .u64 0] 32) = w1 at hb1 hf1 hs1 ⊢
  have hb2 : Blk (w1.alloc (.cells #[Value.int .u8 0, Value.int .u8 0, Value.int .u64 0, Value.int .u64 0, Value.int .u64 0] 32)) (w.heap.size + 1) 32 (hdCells Hd.zero) := by rw [← hs1]; exact Blk.new w1 _ _
  have hf2 := Fr.alloc w1 (.cells #[Value.int .u8 0, Value.int .u8 0, Value.int .u64 0, Value.int .u64 0, Value.int .u64 0] 32)
  have hs2 : (w1.alloc (.cells #[Value.int .u8 0, Value.int .u8 0, Value.int .u64 0, Value.int .u64 0, Value.int .u64 0] 32)).heap.size = w.heap.size + 2 := by simp [hs1]
  generalize w1.alloc (.cells #[Value.int .u8 0, Value.int .u8 0, Value.int .u64 0, Value.int .u64 0, Value.int .u64 0] 32) = w2 at hb2 hf2 hs2 ⊢
  have HR2 := Lib.hid (hb1.non hf2)
  have HH2 := Lib.hid hb2
  have HF2 := Lib.hid (hf1.non hf2)
  have HS2 := Lib.hid hs2
  clear hb1 hb2 hf1 hf2 hs1 hs2
  go_wp2_with fail
  refine (New_any v L w2 (HV.out.non HF2.out) (by rw [HL.out]; omega)).mono ?_
  rintro e w3 ⟨b, rfl, hbs, hrd, hf3⟩
  obtain ⟨O, hO⟩ : ∃ O, O = Rng w2.heap.size w3.heap.size := ⟨_, rfl⟩
  rw [← hO] at hrd
  have hn (k : Nat) (hk : k < w.heap.size + 2) : ¬ O k := by rw [hO]; rintro ⟨h1, -⟩; have := HS2.out; omega
  have HRd0 : Hid (Rd O w3 b (L.drop 0) 0) := Lib.hid hrd
  have HN := Lib.hid hn
  have hb3 : w.heap.size + 2 ≤ b := by have := HS2.out; omega
  have HR3_0 := Lib.hid (HR2.out.non hf3)
  have HH3_0 : Hid (Blk w3 (w.heap.size + 1) 32 (hdCells ⟨0, 0, 0, 0, 0⟩)) := Lib.hid (HH2.out.non hf3)
  have HF3_0 := Lib.hid (HF2.out.non hf3)
  have HOb := Lib.hid (fun k (hk : ¬ O k) (h : One b k) => hk (by have h : k = b := h; rw [h]; exact hrd.1))
  clear hO hrd hn hbs hf3 HR2 HH2 HF2
  go_wp2_with fail
  refine (rFix_any O b 0 w3 (L.drop 0) 1 HRd0.out).mono ?_
  rintro e u0 ⟨rfl, hr, hf⟩
  rw [show ((1 : Int)) = ((1 : Nat) : Int) from rfl, T0.out] at hr
  rw [show ((1 : Int)) = ((1 : Nat) : Int) from rfl, T0.out]
  have hh := HH3_0.out.frame hf (fun h => by have h : _ = _ := h; (try simp only [] at h); omega)
  have hbr := HR3_0.out.frame hf (fun h => by have h : _ = _ := h; (try simp only [] at h); omega)
  obtain ⟨m1, m2⟩ := hh.at 0 _ rfl
  have hh' : Blk (u0.setCell ⟨w.heap.size + 1, 0, none⟩ (.int .u8 n0)) (w.heap.size + 1) 32 (hdCells ⟨n0, 0, 0, 0, 0⟩) := hh.set 0 (.int .u8 n0)
  have hb' := hbr.frame (Fr.setCell u0 ⟨w.heap.size + 1, 0, none⟩ (.int .u8 n0)) (fun h => by have h : _ = _ := h; (try simp only [] at h); omega)
  have hr' : Rd O (u0.setCell ⟨w.heap.size + 1, 0, none⟩ (.int .u8 n0)) b (L.drop 1) 0 := hr.frame (Fr.setCell u0 ⟨w.heap.size + 1, 0, none⟩ (.int .u8 n0)) (fun k hk h => by have h : k = w.heap.size + 1 := h; exact HN.out k (by omega) hk)
  have hf' := (HF3_0.out.new hf (fun k (h : k = b) => by omega)).new (Fr.setCell u0 ⟨w.heap.size + 1, 0, none⟩ (.int .u8 n0)) (fun k h => by have h : k = w.heap.size + 1 := h; omega)
  have HH3_1 := Lib.hid hh'
  have HR3_1 := Lib.hid hb'
  have HRd1 := Lib.hid hr'
  have HF3_1 := Lib.hid hf'
  clear hh hbr hh' hb' hr hr' hf hf' HH3_0 HR3_0 HRd0 HF3_0
  simp only []
  go_upto_region 4 with (fail)
  generalize u0.setCell ⟨w.heap.size + 1, 0, none⟩ (.int .u8 n0) = z0 at HH3_1 HR3_1 HRd1 HF3_1 ⊢
  clear m1 m2
  go_wp2_with fail
  refine (rFix_any O b 0 z0 (L.drop 1) 1 HRd1.out).mono ?_
  rintro e u1 ⟨rfl, hr, hf⟩
  rw [show ((1 : Int)) = ((1 : Nat) : Int) from rfl, T1.out] at hr
  rw [show ((1 : Int)) = ((1 : Nat) : Int) from rfl, T1.out]
  have hh := HH3_1.out.frame hf (fun h => by have h : _ = _ := h; (try simp only [] at h); omega)
  have hbr := HR3_1.out.frame hf (fun h => by have h : _ = _ := h; (try simp only [] at h); omega)
  obtain ⟨m1, m2⟩ := hh.at 1 _ rfl
  have hh' : Blk (u1.setCell ⟨w.heap.size + 1, 1, none⟩ (.int .u8 n1)) (w.heap.size + 1) 32 (hdCells ⟨n0, n1, 0, 0, 0⟩) := hh.set 1 (.int .u8 n1)
  have hb' := hbr.frame (Fr.setCell u1 ⟨w.heap.size + 1, 1, none⟩ (.int .u8 n1)) (fun h => by have h : _ = _ := h; (try simp only [] at h); omega)
  have hr' : Rd O (u1.setCell ⟨w.heap.size + 1, 1, none⟩ (.int .u8 n1)) b (L.drop 2) 0 := hr.frame (Fr.setCell u1 ⟨w.heap.size + 1, 1, none⟩ (.int .u8 n1)) (fun k hk h => by have h : k = w.heap.size + 1 := h; exact HN.out k (by omega) hk)
  have hf' := (HF3_1.out.new hf (fun k (h : k = b) => by omega)).new (Fr.setCell u1 ⟨w.heap.size + 1, 1, none⟩ (.int .u8 n1)) (fun k h => by have h : k = w.heap.size + 1 := h; omega)
  have HH3_2 := Lib.hid hh'
  have HR3_2 := Lib.hid hb'
  have HRd2 := Lib.hid hr'
  have HF3_2 := Lib.hid hf'
  clear hh hbr hh' hb' hr hr' hf hf' HH3_1 HR3_1 HRd1 HF3_1
  simp only []
  go_upto_region 5 with (fail)
  generalize u1.setCell ⟨w.heap.size + 1, 1, none⟩ (.int .u8 n1) = z1 at HH3_2 HR3_2 HRd2 HF3_2 ⊢
  clear m1 m2
  go_wp2_with fail
  refine (rFix_any O b 0 z1 (L.drop 2) 8 HRd2.out).mono ?_
  rintro e u2 ⟨rfl, hr, hf⟩
  rw [show ((8 : Int)) = ((8 : Nat) : Int) from rfl, T2.out] at hr
  rw [show ((8 : Int)) = ((8 : Nat) : Int) from rfl, T2.out]
  have hh := HH3_2.out.frame hf (fun h => by have h : _ = _ := h; (try simp only [] at h); omega)
  have hbr := HR3_2.out.frame hf (fun h => by have h : _ = _ := h; (try simp only [] at h); omega)
  obtain ⟨m1, m2⟩ := hh.at 2 _ rfl
  have hh' : Blk (u2.setCell ⟨w.heap.size + 1, 2, none⟩ (.int .u64 n2)) (w.heap.size + 1) 32 (hdCells ⟨n0, n1, n2, 0, 0⟩) := hh.set 2 (.int .u64 n2)
  have hb' := hbr.frame (Fr.setCell u2 ⟨w.heap.size + 1, 2, none⟩ (.int .u64 n2)) (fun h => by have h : _ = _ := h; (try simp only [] at h); omega)
  have hr' : Rd O (u2.setCell ⟨w.heap.size + 1, 2, none⟩ (.int .u64 n2)) b (L.drop 10) 0 := hr.frame (Fr.setCell u2 ⟨w.heap.size + 1, 2, none⟩ (.int .u64 n2)) (fun k hk h => by have h : k = w.heap.size + 1 := h; exact HN.out k (by omega) hk)
  have hf' := (HF3_2.out.new hf (fun k (h : k = b) => by omega)).new (Fr.setCell u2 ⟨w.heap.size + 1, 2, none⟩ (.int .u64 n2)) (fun k h => by have h : k = w.heap.size + 1 := h; omega)
  have HH3_3 := Lib.hid hh'
  have HR3_3 := Lib.hid hb'
  have HRd3 := Lib.hid hr'
  have HF3_3 := Lib.hid hf'
  clear hh hbr hh' hb' hr hr' hf hf' HH3_2 HR3_2 HRd2 HF3_2
  simp only []
  go_upto_region 6 with (fail)
  generalize u2.setCell ⟨w.heap.size + 1, 2, none⟩ (.int .u64 n2) = z2 at HH3_3 HR3_3 HRd3 HF3_3 ⊢
  clear m1 m2
  go_wp2_with fail
  refine (rFix_any O b 0 z2 (L.drop 10) 8 HRd3.out).mono ?_
  rintro e u3 ⟨rfl, hr, hf⟩
  rw [show ((8 : Int)) = ((8 : Nat) : Int) from rfl, T3.out] at hr
  rw [show ((8 : Int)) = ((8 : Nat) : Int) from rfl, T3.out]
  have hh := HH3_3.out.frame hf (fun h => by have h : _ = _ := h; (try simp only [] at h); omega)
  have hbr := HR3_3.out.frame hf (fun h => by have h : _ = _ := h; (try simp only [] at h); omega)
  obtain ⟨m1, m2⟩ := hh.at 3 _ rfl
  have hh' : Blk (u3.setCell ⟨w.heap.size + 1, 3, none⟩ (.int .u64 n3)) (w.heap.size + 1) 32 (hdCells ⟨n0, n1, n2, n3, 0⟩) := hh.set 3 (.int .u64 n3)
  have hb' := hbr.frame (Fr.setCell u3 ⟨w.heap.size + 1, 3, none⟩ (.int .u64 n3)) (fun h => by have h : _ = _ := h; (try simp only [] at h); omega)
  have hr' : Rd O (u3.setCell ⟨w.heap.size + 1, 3, none⟩ (.int .u64 n3)) b (L.drop 18) 0 := hr.frame (Fr.setCell u3 ⟨w.heap.size + 1, 3, none⟩ (.int .u64 n3)) (fun k hk h => by have h : k = w.heap.size + 1 := h; exact HN.out k (by omega) hk)
  have hf' := (HF3_3.out.new hf (fun k (h : k = b) => by omega)).new (Fr.setCell u3 ⟨w.heap.size + 1, 3, none⟩ (.int .u64 n3)) (fun k h => by have h : k = w.heap.size + 1 := h; omega)
  have HH3_4 := Lib.hid hh'
  have HR3_4 := Lib.hid hb'
  have HRd4 := Lib.hid hr'
  have HF3_4 := Lib.hid hf'
  clear hh hbr hh' hb' hr hr' hf hf' HH3_3 HR3_3 HRd3 HF3_3
  simp only []
  go_upto_region 7 with (fail)
  generalize u3.setCell ⟨w.heap.size + 1, 3, none⟩ (.int .u64 n3) = z3 at HH3_4 HR3_4 HRd4 HF3_4 ⊢
  clear m1 m2
  go_wp2_with fail
  refine (rFix_any O b 0 z3 (L.drop 18) 8 HRd4.out).mono ?_
  rintro e u4 ⟨rfl, hr, hf⟩
  rw [show ((8 : Int)) = ((8 : Nat) : Int) from rfl, T4.out] at hr
  rw [show ((8 : Int)) = ((8 : Nat) : Int) from rfl, T4.out]
  have hh := HH3_4.out.frame hf (fun h => by have h : _ = _ := h; (try simp only [] at h); omega)
  have hbr := HR3_4.out.frame hf (fun h => by have h : _ = _ := h; (try simp only [] at h); omega)
  obtain ⟨m1, m2⟩ := hh.at 4 _ rfl
  have hh' : Blk (u4.setCell ⟨w.heap.size + 1, 4, none⟩ (.int .u64 n4)) (w.heap.size + 1) 32 (hdCells ⟨n0, n1, n2, n3, n4⟩) := hh.set 4 (.int .u64 n4)
  have hb' := hbr.frame (Fr.setCell u4 ⟨w.heap.size + 1, 4, none⟩ (.int .u64 n4)) (fun h => by have h : _ = _ := h; (try simp only [] at h); omega)
  have hr' : Rd O (u4.setCell ⟨w.heap.size + 1, 4, none⟩ (.int .u64 n4)) b (L.drop 26) 0 := hr.frame (Fr.setCell u4 ⟨w.heap.size + 1, 4, none⟩ (.int .u64 n4)) (fun k hk h => by have h : k = w.heap.size + 1 := h; exact HN.out k (by omega) hk)
  have hf' := (HF3_4.out.new hf (fun k (h : k = b) => by omega)).new (Fr.setCell u4 ⟨w.heap.size + 1, 4, none⟩ (.int .u64 n4)) (fun k h => by have h : k = w.heap.size + 1 := h; omega)
  have HH3_5 := Lib.hid hh'
  have HR3_5 := Lib.hid hb'
  have HRd5 := Lib.hid hr'
  have HF3_5 := Lib.hid hf'
  clear hh hbr hh' hb' hr hr' hf hf' HH3_4 HR3_4 HRd4 HF3_4
  simp only []
  go_upto_region 8 with (fail)
  generalize u4.setCell ⟨w.heap.size + 1, 4, none⟩ (.int .u64 n4) = z4 at HH3_5 HR3_5 HRd5 HF3_5 ⊢
  clear m1 m2
  have hone : ∀ v ∈ hdCells ⟨n0, n1, n2, n3, n4⟩, v.oneCell' = true := by intro v hv; simp only [hdCells, List.mem_cons, List.not_mem_nil, or_false] at hv; rcases hv with rfl | rfl | rfl | rfl | rfl <;> rfl
  have hiy : (Tryd.prog.info? 32).map (·.size) = some (hdCells ⟨n0, n1, n2, n3, n4⟩).length := by show _ = some 5; kernel_rfl
  have HOne := Lib.hid (And.intro hone hiy)
  obtain ⟨ys, hys⟩ : ∃ ys, hdCells ⟨n0, n1, n2, n3, n4⟩ = ys := ⟨_, rfl⟩
  have hyl : ys.length = 5 := by rw [← hys]; rfl
  rw [hys] at HH3_5 HOne
  have HY := Lib.hid (And.intro hys hyl)
  clear hone hiy hys hyl x0 x1 hb3
  refine wp_region_lit ?_
  refine wpList_whole rfl rfl 32 24 (.tmp 3) (.tmp 2) rfl rfl rfl rfl (w.heap.size + 1) w.heap.size _ _ ys _ HH3_5.out HR3_5.out (by rw [HY.out.2]; rfl) _ Tryd.underlying32 rfl HOne.out.2 HOne.out.1 (by simp) rfl (fun _ => rfl) ?_
  intro w' hb' hf' _
  have HRV := Lib.hid (hb'.loadVar (P := Tryd.prog) 32 _ Tryd.underlying32 rfl HOne.out.2)
  have HFF : Hid (Fr Non w w') := Lib.hid (HF3_5.out.new hf' (fun i h => by have h1 : i = w.heap.size := h; omega))
  clear hb' hf'
  repeat (first | go_skip | go_step)
  refine bodyPost_ret (v := .agg ys.toArray) (by have h := HRV.out; simp [results, Tryd.results29, asAddr, h]) rfl ⟨by rw [HE.out, HY.out.1], HFF.out⟩
end Go.Proofs.YtpmkcjgndljhgaaDoor
