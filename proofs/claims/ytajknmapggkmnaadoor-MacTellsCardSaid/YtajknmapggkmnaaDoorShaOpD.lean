/- package sha: a state in memory; New, Len, Write -/
import Derived.Test.YtajknmapggkmnaaDoorShaOpC
import Derived.Deep.RegionHeldLaw
namespace Go.Proofs.YtajknmapggkmnaaDoor
open Go.ChangeShapes Go.WideShapes Go.ChangeAt Go.RowKit

/-- block B holds a state: words, block, number -/
def StB (w : World) (B : Nat) (s : List Nat) (blk : List UInt8) (n : Nat) : Prop := Blk w B 57 (us s ++ (bs blk ++ [.int .i64 (n : Int)]))
/-- .. that of the bytes l -/
def StL (w : World) (B : Nat) (l : List UInt8) : Prop := ∃ s : St8, ∃ blk : List UInt8, s.ok ∧ blk.length = 64 ∧ blk.take (l.length % 64) = l.drop (64 * (l.length / 64)) ∧ (l ≠ [] → s = shaRun (l.length / 64) shaInit l) ∧ StB w B s.list blk l.length
theorem StL.frame {w w' : World} {B : Nat} {l : List UInt8} (h : StL w B l) {S : Nat → Prop} (f : Fr S w w') (hn : ¬ S B) : StL w' B l := by
  obtain ⟨s, blk, h1, h2, h3, h4, h5⟩ := h
  exact ⟨s, blk, h1, h2, h3, h4, Blk.frame h5 f hn⟩
theorem StL.lt {w : World} {B : Nat} {l : List UInt8} (h : StL w B l) : B < w.heap.size := by
  obtain ⟨s, blk, h1, h2, h3, h4, h5⟩ := h
  exact Blk.lt h5
/-- the table of the first words -/
def StAt (w : World) (g : Nat) : Prop := ∀ i, i < 8 → w.cell? ⟨g, i, none⟩ = some (.int .u32 (shaInit.list[i]! : Int))
theorem StAt.frame {w w' : World} {g : Nat} (h : StAt w g) {S : Nat → Prop} (f : Fr S w w') (hn : ¬ S g) : StAt w' g := fun i hi => f.cell (h i hi) hn
theorem StB.len {w : World} {B n : Nat} {s : St8} {blk : List UInt8} (hb : blk.length = 64) (h : StB w B s.list blk n) : w.cell? ⟨B, 72, none⟩ = some (.int .i64 n) ∧ w.frozen? ⟨B, 72, none⟩ = false := by
  refine Blk.at h 72 _ ?_
  rw [List.getElem?_append_right (by simp [us_length, St8.list]), List.getElem?_append_right (by simp [us_length, St8.list, bs_length, hb])]
  simp [us_length, St8.list, bs_length, hb]

theorem new_any (w : World) : Calls Tryd.prog 24 #[] w fun e w' => ∃ B, e = .returned (.pointer (some ⟨B, 0, none⟩)) ∧ StL w' B [] ∧ w.heap.size ≤ B ∧ Fr Non w w' := by
  go_enter Tryd.func24, Tryd.ntmps24
  go_upto_region 1 with (fail)
  refine wp_region_lit ?_
  refine wpList_build_as rfl 57 [] rfl [] (us [0, 0, 0, 0, 0, 0, 0, 0] ++ (bs (List.replicate 64 0) ++ [Value.int .i64 ((0 : Nat) : Int)])).toArray (by kernel_rfl) rfl ?_
  have hb := Blk.new w 57 (us [0, 0, 0, 0, 0, 0, 0, 0] ++ (bs (List.replicate 64 0) ++ [Value.int .i64 ((0 : Nat) : Int)]))
  have hl : (⟨0, 0, 0, 0, 0, 0, 0, 0⟩ : St8).ok ∧ (List.replicate 64 (0 : UInt8)).length = 64 := ⟨by unfold St8.ok; decide, rfl⟩
  have hst : StL (w.alloc (.cells (us [0, 0, 0, 0, 0, 0, 0, 0] ++ (bs (List.replicate 64 0) ++ [Value.int .i64 ((0 : Nat) : Int)])).toArray 57)) w.heap.size [] := ⟨⟨0, 0, 0, 0, 0, 0, 0, 0⟩, _, hl.1, hl.2, rfl, fun h => absurd rfl h, hb⟩
  have hf := Fr.alloc w (.cells (us [0, 0, 0, 0, 0, 0, 0, 0] ++ (bs (List.replicate 64 0) ++ [Value.int .i64 ((0 : Nat) : Int)])).toArray 57)
  generalize (us [0, 0, 0, 0, 0, 0, 0, 0] ++ (bs (List.replicate 64 0) ++ [Value.int .i64 ((0 : Nat) : Int)])).toArray = Z at hst hf ⊢
  have HST := Lib.hid hst
  have HF := Lib.hid hf
  clear hst hf hb hl
  simp only [Act.put]
  go_wp2
  go_ret
  exact ⟨_, rfl, HST.out, Nat.le_refl _, HF.out⟩
theorem nwrite_any (w : World) (v : Value) : Calls Tryd.prog 25 #[.pointer none, v] w fun e w' => e = .returned (.tuple #[]) ∧ w = w' := by
  go_enter Tryd.func25, Tryd.ntmps25
  go_wp2
  exact bodyPost_ret (v := .tuple #[]) (by simp [results, Tryd.results25]) rfl ⟨rfl, rfl⟩
end Go.Proofs.YtajknmapggkmnaaDoor
