/- package name: a place's nonce -/
import Derived.Test.YtpmkcjgndljhgaaDoorNameRefH
import Derived.Test.YtpmkcjgndljhgaaDoorCodecFix
import Derived.Test.YtpmkcjgndljhgaaDoorWhole
import Derived.Test.YtpmkcjgndljhgaaDoorHeld
import Derived.Deep.RegionHeld3
import Derived.Deep.CutBlock
import Derived.Deep.DeepCutAuto
import Derived.Lib.SlBytesConst

namespace Go.Proofs.YtpmkcjgndljhgaaDoor
open Go.ChangeShapes Go.WideShapes Go.ChangeAt Go.RowKit

set_option maxRecDepth 100000 in
set_option maxHeartbeats 4000000 in
theorem nonce_any (p : Nat) (w : World) (hp : p < 18446744073709551616) : Calls Tryd.prog 23 #[.int .u64 p] w fun e w' => e = .returned (.agg (bs (nonceOf p)).toArray) ∧ Fr Non w w' := by
  have HP := Lib.hid hp
  have hiy : (Tryd.prog.info? 47).map (·.size) = some 12 := by kernel_rfl
  have HI := Lib.hid hiy
  clear hp hiy
  go_enter Tryd.func23, Tryd.ntmps23
  go_upto_region 2 with (fail)
  have hb1 : Blk (w.alloc (.cells #[Value.int .u8 0, Value.int .u8 0, Value.int .u8 0, Value.int .u8 0, Value.int .u8 0, Value.int .u8 0, Value.int .u8 0, Value.int .u8 0, Value.int .u8 0, Value.int .u8 0, Value.int .u8 0, Value.int .u8 0] 47)) w.heap.size 47 (bs (List.replicate 12 0)) := Blk.new w _ _
  have hf1 := Fr.alloc w (.cells #[Value.int .u8 0, Value.int .u8 0, Value.int .u8 0, Value.int .u8 0, Value.int .u8 0, Value.int .u8 0, Value.int .u8 0, Value.int .u8 0, Value.int .u8 0, Value.int .u8 0, Value.int .u8 0, Value.int .u8 0] 47)
  have hs1 : (w.alloc (.cells #[Value.int .u8 0, Value.int .u8 0, Value.int .u8 0, Value.int .u8 0, Value.int .u8 0, Value.int .u8 0, Value.int .u8 0, Value.int .u8 0, Value.int .u8 0, Value.int .u8 0, Value.int .u8 0, Value.int .u8 0] 47)).heap.size = w.heap.size + 1 := by simp
  generalize w.alloc (.cells #[Value.int .u8 0, Value.int .u8 0, Value.int .u8 0, Value.int .u8 0, Value.int .u8 0, Value.int .u8 0, Value.int .u8 0, Value.int .u8 0, Value.int .u8 0, Value.int .u8 0, Value.int .u8 0, Value.int .u8 0] 47) = w1 at hb1 hf1 hs1 ⊢
  have hb2 : Blk (w1.alloc (.cells #[Value.int .u8 0, Value.int .u8 0, Value.int .u8 0, Value.int .u8 0, Value.int .u8 0, Value.int .u8 0, Value.int .u8 0, Value.int .u8 0, Value.int .u8 0, Value.int .u8 0, Value.int .u8 0, Value.int .u8 0] 47)) (w.heap.size + 1) 47 (bs (List.replicate 12 0)) := by rw [← hs1]; exact Blk.new w1 _ _
  have hf2 := Fr.alloc w1 (.cells #[Value.int .u8 0, Value.int .u8 0, Value.int .u8 0, Value.int .u8 0, Value.int .u8 0, Value.int .u8 0, Value.int .u8 0, Value.int .u8 0, Value.int .u8 0, Value.int .u8 0, Value.int .u8 0, Value.int .u8 0] 47)
  generalize w1.alloc (.cells #[Value.int .u8 0, Value.int .u8 0, Value.int .u8 0, Value.int .u8 0, Value.int .u8 0, Value.int .u8 0, Value.int .u8 0, Value.int .u8 0, Value.int .u8 0, Value.int .u8 0, Value.int .u8 0, Value.int .u8 0] 47) = w2 at hb2 hf2 ⊢
  obtain ⟨P, hPE⟩ : ∃ P, P = w.heap.size := ⟨_, rfl⟩
  rw [← hPE] at hb1 hb2 ⊢
  have HRB := Lib.hid ((hb1.non hf2).non (Fr.drew _))
  have HNB := Lib.hid (hb2.non (Fr.drew _))
  have F0 := Lib.hid ((hf1.non hf2).non (Fr.drew w2))
  have HPE := Lib.hid hPE
  clear hb1 hb2 hf1 hf2 hs1 hPE
  refine wp_region_held_drew (S := fun _ => True) (by kernel_rfl) trivial (fun hHeld => ?_)
  generalize w2.drew = w4 at HRB HNB F0 hHeld ⊢
  refine wpAnyH_takeL (i := 0) 4 (v := ?_) rfl rfl (by kernel_rfl) (by kernel_rfl) (by kernel_rfl) (fun _ _ _ h => h) (by assumption) (Or.inl ⟨by rfl, ?_⟩) ?_
  rotate_left
  · intro w hSw; go_simp; (try with_reducible rfl)
  simp only [List.set_cons_zero, List.set_cons_succ]
  refine wpAnyH_takeL (i := 1) 5 (v := ?_) rfl rfl (by kernel_rfl) (by kernel_rfl) (by kernel_rfl) (fun _ _ _ h => h) (by assumption) (Or.inl ⟨by rfl, ?_⟩) ?_
  rotate_left
  · intro w hSw; go_simp; (try with_reducible rfl)
  simp only [List.set_cons_zero, List.set_cons_succ]
  refine wpAnyH_ready (rs := [2]) (by kernel_rfl) (by simp) ?_
  refine AllReadyH.cons (o := ⟨some 6, _, _, _, _, _⟩) rfl (fun K hK => ?_) (AllReadyH.nil)
  go_simp
  go_wp2_with (go_at_call 32; refine (Fix_any _ [] _ _ _ (Row.nil _) HP.out (by decide)).mono ?_; rintro e r1 ⟨v9, rfl, ho9, hf1⟩)
  rw [List.nil_append, show clamp8 8 = 8 from rfl] at ho9
  have HR9 := Lib.hid ho9.row
  have HG9 : Hid (∀ k, v9.ownBlock = some k → P + 1 < k) := Lib.hid (fun k hk => by have h1 := (ho9.lt k hk).1; have h2 := HNB.out.lt; omega)
  clear ho9
  have F1 : Hid (Fr Non w4 r1) := Lib.hid hf1
  clear hf1
  refine hK.out _ _ (trivial) (fun hHeld => ?_)
  clear hK K
  refine wpAnyH_ready (rs := [3]) (by kernel_rfl) (by simp) ?_
  refine AllReadyH.cons (o := ⟨some 7, _, _, _, _, _⟩) rfl (fun K hK => ?_) (AllReadyH.nil)
  have hbx := HNB.out.non F1.out
  refine wp_copy_fr (.tmp 4) (.tmp 6) 33 33 rfl 5 Tryd.underlying33 (by kernel_rfl) (P + 1) 0 _ 47 hbx 12 12 _ _ (HR9.out.non (Fr.refl _ _)) rfl rfl (by rw [bs_length]; simp) (bs_one _) ?_
  intro w5 hb5 hf5
  have es : splice (bs (List.replicate 12 0)) 0 ((bs (fixF 8 p)).take 12) = bs (nonceOf p) := by
    have hl8 : (fixF 8 p).length = 8 := fixF_length 8 p
    rw [List.take_of_length_le (by rw [bs_length, hl8]; omega)]
    unfold splice nonceOf
    rw [bs_length, hl8, bs_append]
    rfl
  rw [es] at hb5
  have HB5 := Lib.hid hb5
  have HZ5 := Lib.hid ((HRB.out.non F1.out).frame hf5 (fun h => by have h1 : P = P + 1 := h; omega))
  have HF5 : Hid (Fr Non w w5) := Lib.hid ((F0.out.non F1.out).new hf5 (fun i h => by have h1 : i = P + 1 := h; have := HPE.out; omega))
  clear hb5 hf5 hbx es
  simp only [Act.put]
  refine hK.out _ _ (trivial) (fun hHeld => ?_)
  clear hK K
  refine wpAnyH_done (by kernel_rfl) ?_ _
  clear hHeld
  obtain ⟨ys, hys⟩ : ∃ ys, ys = bs (nonceOf p) := ⟨_, rfl⟩
  have hyl : ys.length = 12 := by rw [hys, bs_length, nonceOf_length]
  have hy1 : ∀ v ∈ ys, v.oneCell' = true := by rw [hys]; exact bs_one _
  rw [← hys] at HB5
  have hiy : (Tryd.prog.info? 47).map (·.size) = some ys.length := by rw [hyl]; exact HI.out
  have HY := Lib.hid (And.intro hys (And.intro hyl (And.intro hy1 hiy)))
  clear hys hyl hy1 hiy
  go_upto_region 3 with (fail)
  refine wp_region_lit ?_
  refine wpList_whole rfl rfl 47 8 (.tmp 3) (.tmp 2) rfl rfl rfl rfl (P + 1) P _ _ ys _ HB5.out HZ5.out (by rw [HY.out.2.1]; rfl) _ Tryd.underlying47 rfl HY.out.2.2.2 HY.out.2.2.1 (by simp) rfl (fun _ => rfl) ?_
  intro w' hb' hf' _
  have HRV := Lib.hid (hb'.loadVar (P := Tryd.prog) 47 _ Tryd.underlying47 rfl HY.out.2.2.2)
  have HFF : Hid (Fr Non w w') := Lib.hid (HF5.out.new hf' (fun i h => by have h1 : i = P := h; have := HPE.out; omega))
  clear hb' hf'
  repeat (first | go_skip | go_step)
  refine bodyPost_ret (v := .agg ys.toArray) (by have h := HRV.out; simp [results, Tryd.results23, asAddr, h]) rfl ⟨by rw [HY.out.1], HFF.out⟩
end Go.Proofs.YtpmkcjgndljhgaaDoor
