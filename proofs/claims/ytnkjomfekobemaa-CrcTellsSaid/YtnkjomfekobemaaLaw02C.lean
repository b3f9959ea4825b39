/- bytes of which one is another one have another sum -/
import Derived.Test.YtnkjomfekobemaaLaw02A
import Derived.Deep.RegionHeld
namespace Go.Proofs.Ytnkjomfekobemaa
open Go.ChangeShapes Go.WideShapes Go.ChangeAt Go.RowKit

theorem tell_beq {x y a b : Nat} (h : x = y ↔ a = b) : (((x : Int) == (y : Int)) == ((a : Int) == (b : Int))) = true := by
  rw [beq_iff_eq, Bool.eq_iff_iff, beq_iff_eq, beq_iff_eq]
  omega
theorem szA (w : World) (o : Obj) : w.heap.size + 1 = (w.alloc o).heap.size := by simp
theorem tells_none (W : World) (v : Value) (p b : Nat) (hv : Row W v (bs [])) :
    Calls Try.prog 7 #[v, .int .u64 p, .int .u8 b] W fun e w' => e = .returned (.bool true) ∧ Fr Non W w' := by
  have hlen := run_lenRow (P := Try.prog) hv 23 5 Try.underlying23
  rw [bs_length] at hlen
  clear hv
  go_enter Try.func7, Try.ntmps7
  go_wp2_with fail
  refine (shown2_any W).mono ?_
  rintro e w1 ⟨rfl, hf⟩
  go_wp2_with fail
  go_ret
  exact ⟨rfl, hf⟩

set_option maxRecDepth 100000 in
set_option maxHeartbeats 1000000 in
theorem tells_some (W : World) (v : Value) (l : List UInt8) (p : Nat) (b : UInt8) (hv : Row W v (bs l)) (hl : l.length ≤ 140737488351232) (_ : (p : Int) ≤ IntKind.u64.max) (h0 : 0 < l.length) :
    Calls Try.prog 7 #[v, .int .u64 p, .int .u8 b.toNat] W fun e w' => e = .returned (.bool true) ∧ Fr Non W w' := by
  obtain ⟨i0, hi⟩ := info_parts Try.info5
  obtain ⟨a, c, rfl, q1, q2, q3, q4⟩ := id hv
  rw [bs_length] at *
  clear q4
  obtain ⟨n, hn⟩ : ∃ n, n = l.length := ⟨_, rfl⟩
  rw [← hn] at hv hl q1 h0 ⊢
  unfold maxLen at q2
  have hmod : (p : Int) % (n : Int) = ((p % n : Nat) : Int) := by push_cast; rfl
  have hk : p % n < n := Nat.mod_lt p h0
  generalize p % n = k at hmod hk
  have hk0 : (0 : Int) ≤ (k : Int) := by omega
  have hkn : (k : Int) < (n : Int) := by omega
  have hn0 : ((n : Int) == 0) = false := by simp; omega
  have HV := Lib.hid hv
  have HN := Lib.hid hn
  have HI := Lib.hid hi
  clear hv hn q3 hi
  go_enter Try.func7, Try.ntmps7
  go_wp2_with fail
  refine (shown2_any W).mono ?_
  rintro e w1 ⟨rfl, hf⟩
  go_wp2_with (at_builtin; refine wpList_appRow _ rfl (.tmp 15) (.tmp 16) 23 rfl w1.heap.size 5 i0 (.int .u8 0) 1 Try.underlying23 HI.out rfl _ [] rfl (Own.empty _ _ _ (Nat.le_refl _)) _ (bs l) rfl ?c3 (bs_one l) ?c4 ?c5 ?_)
  case c3 => exact (HV.out.non hf).non (Fr.alloc _ _)
  case c4 => rw [bs_length]; have := HN.out; simp; omega
  case c5 => simp
  intro v' w2 hown hfr hmv
  have hown' : Own w2 w1.heap.size 5 v' (bs l) := hown
  have hf2 : Fr Non w1 w2 := (Fr.alloc _ _).new hfr (fun i hi => by cases hi; exact Nat.le_refl _)
  obtain ⟨g, c', rfl, hg, hc'⟩ := hown'.form (by rw [bs_length]; have := HN.out; omega)
  rw [bs_length, ← HN.out] at hown' hc' ⊢
  have hkc : (k : Int) < (c' : Int) := by omega
  have HO := Lib.hid hown'
  have hu : (bs l)[k]? = some (.int .u8 ((l[k]!).toNat : Int)) := by have := HN.out; simp [bs, show k < l.length by omega]
  obtain ⟨hcell, hfz⟩ := hown'.cellAt k _ hu
  clear hown hown' hfr hmv hu
  go_wp2_with fail
  have hX : Row (w2.setCell ⟨g, k, none⟩ (.int .u8 (b.toNat : Int))) (.slice (some ⟨g, 0, none⟩) n c') (bs (l.set k b)) := by rw [← bs_set]; exact (HO.out.set k _).row
  have hf3 : Fr Non w1 (w2.setCell ⟨g, k, none⟩ (.int .u8 (b.toNat : Int))) := hf2.new (Fr.setCell w2 ⟨g, k, none⟩ _) (fun i h => by have h1 : i = g := h; omega)
  clear hcell hfz HO hf2
  generalize w2.setCell ⟨g, k, none⟩ (.int .u8 (b.toNat : Int)) = w3 at hX hf3 ⊢
  have hB : Row w3 (.slice a n c) (bs l) := (HV.out.non hf).non hf3
  obtain ⟨-, -, -, hat⟩ := hB.bytes
  obtain ⟨gb, off, rfl, hcb⟩ := hat k (by have := HN.out; omega)
  have HX := Lib.hid hX
  have HB := Lib.hid hB
  clear hX hB hat
  have HT := Lib.hid (cMore_tells (s := 0) (by decide) l k (by have := HN.out; omega) b)
  have hlk : l[k]! = l[k]'(by have := HN.out; omega) := getElem!_pos l k _
  have HQ : Hid (cSum [l.set k b] = cSum [l] ↔ b.toNat = (l[k]!).toNat) := Lib.hid (by rw [hlk, UInt8.toNat_inj]; exact HT.out)
  clear HT hlk
  generalize (l[k]!).toNat = q at hcb HQ
  go_region_held (fun w' => w'.cell? ⟨gb, off + k, none⟩ = some (.int .u8 (q : Int))) (first | exact hcb | exact (Fr.alloc _ _).cell hcb (fun h => h) | exact ((Fr.alloc _ _).non (Fr.alloc _ _)).cell hcb (fun h => h) | exact ((Fr.alloc _ _).non (Fr.drew _)).cell hcb (fun h => h) | exact (((Fr.alloc _ _).non (Fr.alloc _ _)).non (Fr.drew _)).cell hcb (fun h => h)) (first
    | (go_at_call 12; refine (Sum_any _ _ _ (by first
        | exact (Rows2.built (ls := [l.set k b]) (n := 1) (us := [.slice (some ⟨g, 0, none⟩) n c']) rfl rfl (by decide) rfl (all1 HX.out)).frame (Fr.drew _)
        | exact ((Rows2.built (ls := [l.set k b]) (n := 1) (us := [.slice (some ⟨g, 0, none⟩) n c']) rfl rfl (by decide) rfl (all1 HX.out)).frame (Fr.alloc _ _)).frame (Fr.drew _)
        | exact (Rows2.built (ls := [l.set k b]) (n := 1) (us := [.slice (some ⟨g, 0, none⟩) n c']) (szA _ _) rfl (by decide) rfl (all1 (HX.out.non (Fr.alloc _ _)))).frame (Fr.drew _)
        | exact (Rows2.built (ls := [l]) (n := 1) (us := [.slice (some ⟨gb, off, none⟩) n c]) rfl rfl (by decide) rfl (all1 HB.out)).frame (Fr.drew _)
        | exact ((Rows2.built (ls := [l]) (n := 1) (us := [.slice (some ⟨gb, off, none⟩) n c]) rfl rfl (by decide) rfl (all1 HB.out)).frame (Fr.alloc _ _)).frame (Fr.drew _)
        | exact (Rows2.built (ls := [l]) (n := 1) (us := [.slice (some ⟨gb, off, none⟩) n c]) (szA _ _) rfl (by decide) rfl (all1 (HB.out.non (Fr.alloc _ _)))).frame (Fr.drew _))).mono ?_; rintro e w' ⟨rfl, rfl⟩))
  all_goals go_wp2
  all_goals go_ret
  all_goals exact ⟨by rw [tell_beq HQ.out]; rfl, ((hf.non hf3).non ((Fr.alloc _ _).non (Fr.alloc _ _))).non (Fr.drew _)⟩

/-- P2.3 -/
theorem tellsw (W : World) (v : Value) (l : List UInt8) (p b : Nat) (hv : Row W v (bs l)) (hl : l.length ≤ 140737488351232) (hp : (p : Int) ≤ IntKind.u64.max) (hb : (b : Int) ≤ IntKind.u8.max) :
    Calls Try.prog 7 #[v, .int .u64 p, .int .u8 b] W fun e w' => e = .returned (.bool true) ∧ Fr Non W w' := by
  obtain ⟨d, rfl⟩ : ∃ d : UInt8, b = d.toNat := ⟨UInt8.ofNat b, by
    rw [show IntKind.u8.max = 255 by decide] at hb
    rw [UInt8.toNat_ofNat', Nat.mod_eq_of_lt (by omega)]⟩
  cases l with
  | nil => exact tells_none W v p _ hv
  | cons c l => exact tells_some W v (c :: l) p d hv hl hp (by simp)
end Go.Proofs.Ytnkjomfekobemaa
