/- layer 4: the document's examples (the head of all statements) -/
import Derived.Test.YtajknmapggkmnaaDoorMacOpF
namespace Go.Proofs.YtajknmapggkmnaaDoor
open Go.ChangeShapes Go.WideShapes Go.ChangeAt Go.RowKit

def tKey : List UInt8 := [107, 101, 121]
def tFox : List UInt8 := [84, 104, 101, 32, 113, 117, 105, 99, 107, 32, 98, 114, 111, 119, 110, 32, 102, 111, 120, 32, 106, 117, 109, 112, 115, 32]
def tDog : List UInt8 := [111, 118, 101, 114, 32, 116, 104, 101, 32, 108, 97, 122, 121, 32, 100, 111, 103]
set_option maxRecDepth 100000 in
theorem fox8 : (macSum tKey (tFox ++ tDog)).take 8 = [247, 188, 131, 244, 48, 83, 132, 36] := by decide +kernel
/-- a digest in memory reads from its beginning -/
theorem row_digest {w : World} {X t : Nat} {D : List UInt8} (h : Blk w X t (bs D)) (hD : D.length = 32) (k : Nat) (hk : k ≤ 32) : Row w (.slice (some ⟨X, 0, none⟩) k 32) (bs (D.take k)) := by
  have hl2 : (bs (D.take k)).length = k := by rw [bs_length, List.length_take, hD]; omega
  have h := h.row 0 32 (bs (D.take k)) (by rw [hl2]; exact hk) (by unfold maxLen; omega) (fun j v hj => by
    rw [Nat.zero_add]
    simp only [bs, List.map_take] at hj ⊢
    rw [List.getElem?_take] at hj
    split at hj
    · exact hj
    · cases hj)
  rw [hl2] at h
  exact h

set_option maxRecDepth 100000 in
set_option maxHeartbeats 1000000 in
theorem shown4_any (w : World) (hT : ShaT w) : Calls Tryd.prog 11 #[] w fun e w' => e = .returned (.bool true) ∧ Fr Non w w' := by
  have kc : ∀ (w : World) (g : Nat) (C : Array Value) (n c : Nat), g = w.heap.size → (convert 22 22 (.slice (some ⟨g, 0, none⟩) n c)).run Tryd.prog (w.alloc (.cells C 5)) = .ok (.slice (some ⟨g, 0, none⟩) n c) (w.alloc (.cells C 5 (C.size, C.size + 1))) := fun w g C n c h => by
    subst h
    exact Lib.run_convert_bytes_const (P := Tryd.prog) w 22 5 C n c Tryd.underlying22 Tryd.underlying5
  have HT := Lib.hid hT
  clear hT
  go_enter Tryd.func11, Tryd.ntmps11
  have hzv : ∀ w, (zeroValue 25).run Tryd.prog w = .ok (.agg (bs zero32).toArray) w := fun _ => by kernel_rfl
  have HZV := Lib.hid hzv
  have hif : (Tryd.prog.info? 25).map (·.size) = some 32 := by kernel_rfl
  have HIF := Lib.hid hif
  clear hzv hif
  go_wp2_with fail
  have h1 : Row (w.alloc (.cells (bs tKey).toArray 5 (3, 4))) (.slice (some ⟨w.heap.size, 0, none⟩) 3 3) (bs tKey) := Row.builtM w (bs tKey) 5 3 (3, 4) rfl rfl (by decide)
  have f1 : Fr Non w (w.alloc (.cells (bs tKey).toArray 5 (3, 4))) := Fr.alloc _ _
  have s1 : (w.alloc (.cells (bs tKey).toArray 5 (3, 4))).heap.size = w.heap.size + 1 := by simp
  change Calls _ _ _ ((((w.alloc (.cells (bs tKey).toArray 5 (3, 4))).alloc (.cells (bs tFox).toArray 5 (26, 27))).alloc (.cells (bs tDog).toArray 5 (17, 18))).alloc _) _
  generalize w.alloc (.cells (bs tKey).toArray 5 (3, 4)) = w1 at h1 f1 s1 ⊢
  have h2 : Row (w1.alloc (.cells (bs tFox).toArray 5 (26, 27))) (.slice (some ⟨w.heap.size + 1, 0, none⟩) 26 26) (bs tFox) := Row.builtM w1 (bs tFox) 5 26 (26, 27) s1.symm rfl (by decide)
  have f2 : Fr Non w1 (w1.alloc (.cells (bs tFox).toArray 5 (26, 27))) := Fr.alloc _ _
  have s2 : (w1.alloc (.cells (bs tFox).toArray 5 (26, 27))).heap.size = w.heap.size + 1 + 1 := by simp [s1]
  generalize w1.alloc (.cells (bs tFox).toArray 5 (26, 27)) = w2 at h2 f2 s2 ⊢
  have h3 : Row (w2.alloc (.cells (bs tDog).toArray 5 (17, 18))) (.slice (some ⟨w.heap.size + 1 + 1, 0, none⟩) 17 17) (bs tDog) := Row.builtM w2 (bs tDog) 5 17 (17, 18) s2.symm rfl (by decide)
  have f3 : Fr Non w2 (w2.alloc (.cells (bs tDog).toArray 5 (17, 18))) := Fr.alloc _ _
  have s3 : (w2.alloc (.cells (bs tDog).toArray 5 (17, 18))).heap.size = w.heap.size + 1 + 1 + 1 := by simp [s2]
  generalize w2.alloc (.cells (bs tDog).toArray 5 (17, 18)) = w3 at h3 f3 s3 ⊢
  refine (macOp_any _ _ tKey [tFox, tDog] _ (((h1.non f2).non f3).non (Fr.alloc _ _)) (by decide) (Rows2.built (n := 2) (us := [.slice (some ⟨w.heap.size + 1, 0, none⟩) 26 26, .slice (some ⟨w.heap.size + 1 + 1, 0, none⟩) 17 17]) s3.symm rfl (by decide) rfl (all2 (h2.non f3) h3)) (by decide) (by decide) ((HT.out.non (f1.non (f2.non f3))).non (Fr.alloc _ _))).mono ?_
  rintro e w4 ⟨rfl, hf4⟩
  have hF4 : Fr Non w w4 := (f1.non (f2.non f3)).non ((Fr.alloc _ _).non hf4)
  have HF4 := Lib.hid hF4
  rw [show ([tFox, tDog] : List (List UInt8)).flatten = tFox ++ tDog from rfl]
  have HD : Hid ((macSum tKey (tFox ++ tDog)).length = 32 ∧ (macSum tKey (tFox ++ tDog)).take 8 = [247, 188, 131, 244, 48, 83, 132, 36]) := Lib.hid ⟨macSum_length _ _, fox8⟩
  generalize macSum tKey (tFox ++ tDog) = D at HD
  clear h1 h2 h3 f1 f2 f3 s1 s2 s3 hf4 hF4
  go_wp2_with ((with_reducible show wpList _ _ _ (({ op := .alloc _, .. } : Oper) :: _) _ _); refine wpList_var rfl rfl 25 1 (.tmp 11) rfl rfl rfl rfl _ (bs D) HZV.out (by rw [bs_length, bs_length, HD.out.1]; rfl) (by rw [bs_length, HD.out.1]; exact HIF.out) (bs_one _) (by simp) (fun _ => rfl) ?_)
  intro w5 hb5 hf5 hs5
  simp only [List.set_cons_succ, List.set_cons_zero]
  obtain ⟨X, hX⟩ : ∃ X, X = w4.heap.size := ⟨_, rfl⟩
  rw [← hX] at hb5 ⊢
  have HB5 := Lib.hid hb5
  have HF5 := Lib.hid (HF4.out.non hf5)
  clear hb5 hf5 hs5 hX
  go_wp2_with fail
  refine (expandOp_no _ _ (-1) w5 (.inl (by decide))).mono ?_
  rintro e w6 ⟨rfl, rfl⟩
  have hr8 := row_digest HB5.out HD.out.1 8 (by omega)
  rw [HD.out.2] at hr8
  have hsl := run_arrHi (P := Tryd.prog) Tryd.underlying25 (by kernel_rfl) X 0 .i64 8 8 rfl (by omega)
  have hx1 := run_str (P := Tryd.prog) w5 22 9 5 _ _ hr8 Tryd.underlying22 Tryd.underlying5 Tryd.underlying9
  clear hr8
  go_wp2_with fail
  have h1 : Row (w5.alloc (.cells #[.int .u8 97] 5 (1, 2))) (.slice (some ⟨w5.heap.size, 0, none⟩) 1 1) (bs [97]) := Row.builtM w5 (bs [97]) 5 1 (1, 2) rfl rfl (by decide)
  refine (equalOp_any _ _ [97] [97] _ (h1.non (Fr.alloc _ _)) (Row.builtM _ (bs [97]) 5 1 (1, 2) (by simp) rfl (by decide))).mono ?_
  rintro e w7 ⟨rfl, hf7⟩
  go_wp2_with fail
  go_ret
  exact ⟨rfl, HF5.out.non (((Fr.alloc _ _).non (Fr.alloc _ _)).non hf7)⟩
end Go.Proofs.YtajknmapggkmnaaDoor
