/- layer 3: the document's examples (the head of all statements) -/
import Derived.Test.YtelagmelnkdheaaDoorShaC
import Derived.Lib.SlBytesConst
namespace Go.Proofs.YtelagmelnkdheaaDoor
open Go.ChangeShapes Go.WideShapes Go.ChangeAt Go.RowKit
variable {T : World → Prop} {SS : (Nat → Prop) → World → Addr → List UInt8 → Prop} {Bl Bm : Nat}

theorem abc8 : (sha [97, 98, 99]).take 8 = [186, 120, 22, 191, 143, 1, 207, 234] := by decide +kernel
theorem nil8 : (sha []).take 8 = [227, 176, 196, 66, 152, 252, 28, 20] := by decide +kernel
theorem there_new (w : World) (g : Nat) (hg : g = w.heap.size) : (w.alloc (.cells #[.int .u8 0, .int .u8 0, .int .u8 0, .int .u8 0, .int .u8 0, .int .u8 0, .int .u8 0, .int .u8 0, .int .u8 0, .int .u8 0, .int .u8 0, .int .u8 0, .int .u8 0, .int .u8 0, .int .u8 0, .int .u8 0, .int .u8 0, .int .u8 0, .int .u8 0, .int .u8 0, .int .u8 0, .int .u8 0, .int .u8 0, .int .u8 0, .int .u8 0, .int .u8 0, .int .u8 0, .int .u8 0, .int .u8 0, .int .u8 0, .int .u8 0, .int .u8 0] 25)).there g 0 32 := by subst hg; exact (DB.new w).there
theorem sizeD (l : List UInt8) : (bs (sha l)).toArray.size = 32 := by simp [bs_length, sha_length]
theorem oneD (l : List UInt8) : (bs (sha l)).toArray.all (·.oneCell') = true := by rw [Array.all_eq_true_iff_forall_mem]; intro v hv; exact bs_one _ v (by simpa using hv)
/-- a digest that was stored reads from its beginning -/
theorem row_stored {w : World} {B : Nat} (l : List UInt8) (h : w.there B 0 32) (k : Nat) (hk : k ≤ 32) : Row (w.setCells B 0 (bs (sha l)).toArray.toList) (.slice (some ⟨B, 0, none⟩) k 32) (bs ((sha l).take k)) := by
  have hr := World.rangeAt_setCells_same w B 0 (bs (sha l)) (by rw [bs_length, sha_length]; exact h)
  have hlen : (bs ((sha l).take k)).length = k := by rw [bs_length, List.length_take, sha_length]; omega
  refine ⟨_, 32, by rw [hlen], by omega, by decide, (by intro h; cases h), fun j hj => ⟨B, 0, rfl, fun i u hi => ?_⟩⟩
  refine hr i u ?_
  have hik : i < k := by have := (List.getElem?_eq_some_iff.1 hi).1; omega
  simp only [bs, List.map_take] at hi ⊢
  rwa [List.getElem?_take_of_lt hik] at hi

set_option maxRecDepth 100000 in
set_option maxHeartbeats 1000000 in
theorem shown3_any (C : ShaC T SS Bl Bm) (hB : 3 ≤ Bl ∧ 2 ≤ Bm) (w : World) (hT : T w) : Calls Tryd.prog 8 #[] w fun e w' => e = .returned (.bool true) ∧ Fr Non w w' := by
  have kc := fun (w : World) (C : Array Value) (n c : Nat) => Lib.run_convert_bytes_const (P := Tryd.prog) w 22 5 C n c Tryd.underlying22 Tryd.underlying5
  have k2 := kc (w.alloc (Obj.cells #[.int .u8 97] 5 (1, 2))) #[.int .u8 98, .int .u8 99] 2 2
  rw [show (w.alloc (Obj.cells #[.int .u8 97] 5 (1, 2))).heap.size = w.heap.size + 1 from by simp] at k2
  have HC := Lib.hid C
  have HT := Lib.hid hT
  clear C hT
  go_enter Tryd.func8, Tryd.ntmps8
  go_wp2_with fail
  clear kc k2
  refine (HC.out.all (ls := [[97], [98, 99]]) (HC.out.tf HT.out (((Fr.alloc w _).non (Fr.alloc _ _)).non (Fr.alloc _ _))) (Rows2.built (n := 2) (us := [.slice (some ⟨w.heap.size, 0, none⟩) 1 1, .slice (some ⟨w.heap.size + 1, 0, none⟩) 2 2]) (by simp) rfl (by decide) rfl (all2 ?c1 ?c2)) hB.1 (by simp; omega)).mono ?_
  case c1 => exact (Row.builtM w (bs [97]) 5 1 (1, 2) rfl rfl (by decide)).non (Fr.alloc _ _)
  case c2 => exact Row.builtM _ (bs [98, 99]) 5 2 (2, 3) (by simp) rfl (by decide)
  rintro e w1 ⟨rfl, hf⟩
  have hf1 : Fr Non w w1 := (((Fr.alloc w _).non (Fr.alloc _ _)).non (Fr.alloc _ _)).non hf
  rw [show ([[97], [98, 99]] : List (List UInt8)).flatten = [97, 98, 99] from rfl]
  clear hf
  go_wp2_with fail
  refine (HC.out.all (ls := []) (HC.out.tf HT.out hf1) ⟨[], Row.nil _, rfl, by simp⟩ (by simp) (by simp)).mono ?_
  rintro e w2 ⟨rfl, hf2⟩
  rw [show ([] : List (List UInt8)).flatten = [] from rfl]
  dsimp only
  iterate 7 (first | go_values | go_skip | go_guarded | go_step | go_upon | go_back)
  have ht1 := World.there_alloc (there_new w2 _ rfl) (.cells #[.int .u8 0, .int .u8 0, .int .u8 0, .int .u8 0, .int .u8 0, .int .u8 0, .int .u8 0, .int .u8 0, .int .u8 0, .int .u8 0, .int .u8 0, .int .u8 0, .int .u8 0, .int .u8 0, .int .u8 0, .int .u8 0, .int .u8 0, .int .u8 0, .int .u8 0, .int .u8 0, .int .u8 0, .int .u8 0, .int .u8 0, .int .u8 0, .int .u8 0, .int .u8 0, .int .u8 0, .int .u8 0, .int .u8 0, .int .u8 0, .int .u8 0, .int .u8 0] 25)
  have ht2 := there_new (w2.alloc (.cells #[.int .u8 0, .int .u8 0, .int .u8 0, .int .u8 0, .int .u8 0, .int .u8 0, .int .u8 0, .int .u8 0, .int .u8 0, .int .u8 0, .int .u8 0, .int .u8 0, .int .u8 0, .int .u8 0, .int .u8 0, .int .u8 0, .int .u8 0, .int .u8 0, .int .u8 0, .int .u8 0, .int .u8 0, .int .u8 0, .int .u8 0, .int .u8 0, .int .u8 0, .int .u8 0, .int .u8 0, .int .u8 0, .int .u8 0, .int .u8 0, .int .u8 0, .int .u8 0] 25)) (w2.heap.size + 1) (by simp)
  have hf3 : Fr Non w2 ((w2.alloc (.cells #[.int .u8 0, .int .u8 0, .int .u8 0, .int .u8 0, .int .u8 0, .int .u8 0, .int .u8 0, .int .u8 0, .int .u8 0, .int .u8 0, .int .u8 0, .int .u8 0, .int .u8 0, .int .u8 0, .int .u8 0, .int .u8 0, .int .u8 0, .int .u8 0, .int .u8 0, .int .u8 0, .int .u8 0, .int .u8 0, .int .u8 0, .int .u8 0, .int .u8 0, .int .u8 0, .int .u8 0, .int .u8 0, .int .u8 0, .int .u8 0, .int .u8 0, .int .u8 0] 25)).alloc (.cells #[.int .u8 0, .int .u8 0, .int .u8 0, .int .u8 0, .int .u8 0, .int .u8 0, .int .u8 0, .int .u8 0, .int .u8 0, .int .u8 0, .int .u8 0, .int .u8 0, .int .u8 0, .int .u8 0, .int .u8 0, .int .u8 0, .int .u8 0, .int .u8 0, .int .u8 0, .int .u8 0, .int .u8 0, .int .u8 0, .int .u8 0, .int .u8 0, .int .u8 0, .int .u8 0, .int .u8 0, .int .u8 0, .int .u8 0, .int .u8 0, .int .u8 0, .int .u8 0] 25)) := (Fr.alloc _ _).non (Fr.alloc _ _)
  generalize (w2.alloc (.cells #[.int .u8 0, .int .u8 0, .int .u8 0, .int .u8 0, .int .u8 0, .int .u8 0, .int .u8 0, .int .u8 0, .int .u8 0, .int .u8 0, .int .u8 0, .int .u8 0, .int .u8 0, .int .u8 0, .int .u8 0, .int .u8 0, .int .u8 0, .int .u8 0, .int .u8 0, .int .u8 0, .int .u8 0, .int .u8 0, .int .u8 0, .int .u8 0, .int .u8 0, .int .u8 0, .int .u8 0, .int .u8 0, .int .u8 0, .int .u8 0, .int .u8 0, .int .u8 0] 25)).alloc (.cells #[.int .u8 0, .int .u8 0, .int .u8 0, .int .u8 0, .int .u8 0, .int .u8 0, .int .u8 0, .int .u8 0, .int .u8 0, .int .u8 0, .int .u8 0, .int .u8 0, .int .u8 0, .int .u8 0, .int .u8 0, .int .u8 0, .int .u8 0, .int .u8 0, .int .u8 0, .int .u8 0, .int .u8 0, .int .u8 0, .int .u8 0, .int .u8 0, .int .u8 0, .int .u8 0, .int .u8 0, .int .u8 0, .int .u8 0, .int .u8 0, .int .u8 0, .int .u8 0] 25) = w3 at ht1 ht2 hf3 ⊢
  refine wpList_store_mid rfl _ _ _ rfl w2.heap.size 0 (bs (sha [97, 98, 99])).toArray rfl rfl (by rw [sizeD]; exact ht1) (by rw [sizeD]; kernel_rfl) (oneD _) ?_
  refine wpList_store_mid rfl _ _ _ rfl (w2.heap.size + 1) 0 (bs (sha [])).toArray rfl rfl (by rw [sizeD]; exact World.there_setCells ht2 _ _ _) (by rw [sizeD]; kernel_rfl) (oneD _) ?_
  have hr1 := row_stored [97, 98, 99] ht1 8 (by omega)
  have hr2 := row_stored [] (World.there_setCells ht2 w2.heap.size 0 (bs (sha [97, 98, 99])).toArray.toList) 8 (by omega)
  have hf4 : Fr (One w2.heap.size) w3 (w3.setCells w2.heap.size 0 (bs (sha [97, 98, 99])).toArray.toList) := Fr.setCells _ _ _ _
  generalize w3.setCells w2.heap.size 0 (bs (sha [97, 98, 99])).toArray.toList = w4 at hr1 hr2 hf4 ⊢
  have hf5 : Fr (One (w2.heap.size + 1)) w4 (w4.setCells (w2.heap.size + 1) 0 (bs (sha [])).toArray.toList) := Fr.setCells _ _ _ _
  generalize w4.setCells (w2.heap.size + 1) 0 (bs (sha [])).toArray.toList = w5 at hr2 hf5 ⊢
  have hr3 := hr1.frame hf5 (fun b off n c e h => by
    injection e with e _ _
    injection e with e
    injection e with e1 e2
    have h1 : b = w2.heap.size + 1 := h
    omega)
  rw [abc8] at hr3
  rw [nil8] at hr2
  have hx1 := run_str (P := Tryd.prog) w5 22 9 5 _ _ hr3 Tryd.underlying22 Tryd.underlying5 Tryd.underlying9
  have hx2 := run_str (P := Tryd.prog) w5 22 9 5 _ _ hr2 Tryd.underlying22 Tryd.underlying5 Tryd.underlying9
  clear ht1 ht2 hr1 hr2 hr3
  go_wp2
  go_ret
  exact ⟨rfl, (((hf1.non hf2).non hf3).new hf4 (fun i h => by have h1 : i = w2.heap.size := h; have := hf1.size; have := hf2.size; omega)).new hf5 (fun i h => by have h1 : i = w2.heap.size + 1 := h; have := hf1.size; have := hf2.size; omega)⟩
end Go.Proofs.YtelagmelnkdheaaDoor
