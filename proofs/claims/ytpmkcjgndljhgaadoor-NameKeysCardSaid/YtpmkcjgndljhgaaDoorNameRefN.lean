/- package name, the document's: a place's nonce -/
import Derived.Test.YtpmkcjgndljhgaaDoorNameRefH
import Derived.Test.YtpmkcjgndljhgaaDoorWhole

namespace Go.Proofs.YtpmkcjgndljhgaaDoor
open Go.ChangeShapes Go.WideShapes Go.ChangeAt Go.RowKit

/-- twelve places of which the first are written -/
def half12 (l : List UInt8) (i : Nat) : List UInt8 := l.take i ++ List.replicate (12 - i) 0
theorem half12_length (l : List UInt8) (i : Nat) (hl : l.length = 8) (hi : i ≤ 8) : (half12 l i).length = 12 := by unfold half12; rw [List.length_append, List.length_take, List.length_replicate]; omega
theorem half12_set (l : List UInt8) (i : Nat) (hl : l.length = 8) (hi : i < 8) : (half12 l i).set i (l[i]!) = half12 l (i + 1) := by
  unfold half12
  rw [List.set_append, if_neg (by rw [List.length_take]; omega), List.length_take, show i - min i l.length = 0 by omega, show 12 - i = (12 - (i + 1)) + 1 by omega, List.replicate_succ, List.set_cons_zero, List.take_succ_eq_append_getElem (by omega), List.append_assoc, getElem!_pos l i (by omega)]
  rfl

set_option maxRecDepth 100000 in
theorem refNonce_any (p : Nat) (w : World) (hp : p < 18446744073709551616) : Calls Tryd.prog 24 #[.int .u64 p] w fun e w' => e = .returned (.agg (bs (nonceOf p)).toArray) ∧ Fr Non w w' := by
  have HP := Lib.hid hp
  clear hp
  go_enter Tryd.func24, Tryd.ntmps24
  go_wp2_with fail
  have z12 : half12 (fixF 8 p) 0 = List.replicate 12 0 := rfl
  have hb1 : Blk (w.alloc (.cells #[Value.int .u8 0, Value.int .u8 0, Value.int .u8 0, Value.int .u8 0, Value.int .u8 0, Value.int .u8 0, Value.int .u8 0, Value.int .u8 0, Value.int .u8 0, Value.int .u8 0, Value.int .u8 0, Value.int .u8 0] 47)) w.heap.size 47 (bs (List.replicate 12 0)) := Blk.new w _ _
  have hf1 := Fr.alloc w (.cells #[Value.int .u8 0, Value.int .u8 0, Value.int .u8 0, Value.int .u8 0, Value.int .u8 0, Value.int .u8 0, Value.int .u8 0, Value.int .u8 0, Value.int .u8 0, Value.int .u8 0, Value.int .u8 0, Value.int .u8 0] 47)
  have hs1 : (w.alloc (.cells #[Value.int .u8 0, Value.int .u8 0, Value.int .u8 0, Value.int .u8 0, Value.int .u8 0, Value.int .u8 0, Value.int .u8 0, Value.int .u8 0, Value.int .u8 0, Value.int .u8 0, Value.int .u8 0, Value.int .u8 0] 47)).heap.size = w.heap.size + 1 := by simp
  generalize w.alloc (.cells #[Value.int .u8 0, Value.int .u8 0, Value.int .u8 0, Value.int .u8 0, Value.int .u8 0, Value.int .u8 0, Value.int .u8 0, Value.int .u8 0, Value.int .u8 0, Value.int .u8 0, Value.int .u8 0, Value.int .u8 0] 47) = w1 at hb1 hf1 hs1 ⊢
  have hb2 : Blk (w1.alloc (.cells #[Value.int .u8 0, Value.int .u8 0, Value.int .u8 0, Value.int .u8 0, Value.int .u8 0, Value.int .u8 0, Value.int .u8 0, Value.int .u8 0, Value.int .u8 0, Value.int .u8 0, Value.int .u8 0, Value.int .u8 0] 47)) (w.heap.size + 1) 47 (bs (List.replicate 12 0)) := by rw [← hs1]; exact Blk.new w1 _ _
  have hf2 := Fr.alloc w1 (.cells #[Value.int .u8 0, Value.int .u8 0, Value.int .u8 0, Value.int .u8 0, Value.int .u8 0, Value.int .u8 0, Value.int .u8 0, Value.int .u8 0, Value.int .u8 0, Value.int .u8 0, Value.int .u8 0, Value.int .u8 0] 47)
  have hs2 : (w1.alloc (.cells #[Value.int .u8 0, Value.int .u8 0, Value.int .u8 0, Value.int .u8 0, Value.int .u8 0, Value.int .u8 0, Value.int .u8 0, Value.int .u8 0, Value.int .u8 0, Value.int .u8 0, Value.int .u8 0, Value.int .u8 0] 47)).heap.size = w.heap.size + 2 := by simp [hs1]
  generalize w1.alloc (.cells #[Value.int .u8 0, Value.int .u8 0, Value.int .u8 0, Value.int .u8 0, Value.int .u8 0, Value.int .u8 0, Value.int .u8 0, Value.int .u8 0, Value.int .u8 0, Value.int .u8 0, Value.int .u8 0, Value.int .u8 0] 47) = w2 at hb2 hf2 hs2 ⊢
  refine (refFix_any p 8 w2 HP.out).mono ?_
  rintro e w3 ⟨v, rfl, ho, hf3⟩
  rw [show clamp8 8 = 8 from rfl] at ho
  have hl8 : (fixF 8 p).length = 8 := fixF_length 8 p
  have HE : Hid (nonceOf p = half12 (fixF 8 p) 8) := Lib.hid (by unfold nonceOf half12; rw [List.take_of_length_le (by omega)]; rfl)
  rw [← z12] at hb2
  generalize fixF 8 p = l at ho hl8 HE hb2
  obtain ⟨g, c, rfl, hg, hc⟩ := ho.form (by rw [bs_length, hl8]; omega)
  rw [bs_length, hl8] at ho hc ⊢
  have HB := Lib.hid ((hb1.non hf2).non hf3)
  have HN := Lib.hid (hb2.non hf3)
  have HR := Lib.hid ho.row
  have HF := Lib.hid ((hf1.non hf2).non hf3)
  have HL := Lib.hid hl8
  have hs3 := hf3.size
  have hgw : g < w3.heap.size := (ho.lt g rfl).2
  clear hb1 hb2 hf1 hf2 hf3 ho z12 hs1 hl8
  go_wp2_with fail
  go_loopw [5] (fun i' wr => ∃ i : Nat, i' = .int .i64 i ∧ i ≤ 8 ∧ Blk wr (w.heap.size + 1) 47 (bs (half12 l i)) ∧ Blk wr w.heap.size 47 (bs (List.replicate 12 0)) ∧ Row wr (.slice (some ⟨g, 0, none⟩) 8 c) (bs l) ∧ Fr Non w wr ∧ w3.heap.size ≤ wr.heap.size) (fun i' _ => 8 - (intOf i').toNat)
  case atStart => exact ⟨0, rfl, by omega, HN.out, HB.out, HR.out, HF.out, Nat.le_refl _⟩
  case round =>
    obtain ⟨i, rfl, hi, hn, hb, hr, hf, hs⟩ := hrel
    have HB1 := Lib.hid hb
    have HN1 := Lib.hid hn
    have HR1 := Lib.hid hr
    have HF1 := Lib.hid hf
    by_cases hlt : (i : Int) < 8
    · have hil : (bs l)[i]? = some (.int .u8 ((l[i]!).toNat : Int)) := by
        unfold bs; rw [List.getElem?_map, List.getElem?_eq_getElem (show i < l.length by rw [HL.out]; omega), getElem!_pos l i (by rw [HL.out]; omega)]; rfl
      obtain ⟨bb, off, n', c', e', -, x⟩ := run_at hr i _ hil
      injection e' with e1 q1 q2
      injection e1 with e1
      injection e1 with e1 e2 e3
      subst e1 e2 q1 q2
      clear e3
      rw [Nat.zero_add] at x
      obtain ⟨u, m1, m2⟩ := hn.has i (by rw [bs_length, half12_length l i HL.out hi]; omega)
      have hset := hn.set i (.int .u8 ((l[i]!).toNat : Int))
      have es : (bs (half12 l i)).set i (.int .u8 ((l[i]!).toNat : Int)) = bs (half12 l (i + 1)) := by rw [bs_set, half12_set l i HL.out (by omega)]
      rw [es] at hset
      have HSet := Lib.hid hset
      have hgn : ¬ One (w.heap.size + 1) g := fun h => by have h : g = w.heap.size + 1 := h; omega
      clear hn hb hr hf hil hset es
      obtain ⟨d, hd⟩ : ∃ d, (l[i]!).toNat = d := ⟨_, rfl⟩
      rw [hd] at x HSet
      have i12 : (i : Int) < 12 := by omega
      clear hd
      go_wp2_with fail
      go_roundw
      case rel =>
        have hne : ¬ One (w.heap.size + 1) w.heap.size := fun h => by have h : w.heap.size = w.heap.size + 1 := h; omega
        exact ⟨i + 1, by go_num, by omega, HSet.out, HB1.out.frame (Fr.setCell wr ⟨w.heap.size + 1, i, none⟩ _) hne, HR1.out.frame (Fr.setCell wr ⟨w.heap.size + 1, i, none⟩ _) (Off.own (fun k hk h => by have h : k = w.heap.size + 1 := h; have hk : some g = some k := hk; injection hk with hk; omega)), HF1.out.new (Fr.setCell wr ⟨w.heap.size + 1, i, none⟩ _) (fun k h => by have h : k = w.heap.size + 1 := h; omega), by have := (Fr.setCell wr ⟨w.heap.size + 1, i, none⟩ (.int .u8 d)).size; omega⟩
      case measure => simp [intOf]; omega
    · obtain rfl : i = 8 := by omega
      clear hn hb hr hf
      obtain ⟨ys, hys⟩ : ∃ ys, ys = bs (half12 l 8) := ⟨_, rfl⟩
      have hyl : ys.length = 12 := by rw [hys, bs_length, half12_length l 8 HL.out (by omega)]
      have hy1 : ∀ v ∈ ys, v.oneCell' = true := by rw [hys]; exact bs_one _
      rw [← hys] at HN1
      have hiy : (Tryd.prog.info? 47).map (·.size) = some ys.length := by rw [hyl]; kernel_rfl
      have HY := Lib.hid (And.intro hys (And.intro hyl (And.intro hy1 hiy)))
      clear hys hyl hy1 hiy
      go_upto_region 7 with (fail)
      refine wp_region_lit ?_
      refine wpList_whole rfl rfl 47 18 (.tmp 3) (.tmp 2) rfl rfl rfl rfl (w.heap.size + 1) w.heap.size _ _ ys _ HN1.out HB1.out (by rw [HY.out.2.1]; rfl) _ Tryd.underlying47 rfl HY.out.2.2.2 HY.out.2.2.1 (by simp) rfl (fun _ => rfl) ?_
      intro w' hb' hf' _
      have HRV := Lib.hid (hb'.loadVar (P := Tryd.prog) 47 _ Tryd.underlying47 rfl HY.out.2.2.2)
      have HFF : Hid (Fr Non w w') := Lib.hid (HF1.out.new hf' (fun i h => by have h1 : i = w.heap.size := h; omega))
      clear hb' hf'
      repeat (first | go_skip | go_step)
      refine bodyPost_ret (v := .agg ys.toArray) (by have h := HRV.out; simp [results, Tryd.results24, asAddr, h]) rfl ⟨by rw [HY.out.1, HE.out], HFF.out⟩
end Go.Proofs.YtpmkcjgndljhgaaDoor
