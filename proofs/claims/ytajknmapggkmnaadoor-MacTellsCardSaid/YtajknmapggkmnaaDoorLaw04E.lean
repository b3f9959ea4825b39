/- layer 4: bytes with one that is another one, with one more, or one less, are not equal -/
import Derived.Test.YtajknmapggkmnaaDoorLaw04C
namespace Go.Proofs.YtajknmapggkmnaaDoor
open Go.ChangeShapes Go.WideShapes Go.ChangeAt Go.RowKit

theorem set_beq (b : List UInt8) (k : Nat) (c : UInt8) (hk : k < b.length) : (b.set k c == b) = ((c.toNat : Int) == (b[k]!.toNat : Int)) := by
  rw [Bool.eq_iff_iff, beq_iff_eq, beq_iff_eq]
  constructor
  · intro h
    have h1 : (b.set k c)[k]? = b[k]? := by rw [h]
    rw [List.getElem?_set_self hk, List.getElem?_eq_getElem hk] at h1
    rw [getElem!_pos b k hk, ← Option.some.inj h1]
  · intro h
    have h1 : c = b[k] := by rw [getElem!_pos b k hk] at h; exact UInt8.toNat_inj.1 (by omega)
    rw [h1, List.set_getElem_self]
theorem less_beq (b : List UInt8) (h : 0 < b.length) : (b == b.take (b.length - 1)) = false := by
  rw [beq_eq_false_iff_ne]
  intro h1
  have h2 := congrArg List.length h1
  rw [List.length_take] at h2
  omega
theorem more_beq (b x : List UInt8) (c : UInt8) (h : x.length = b.length) : (b == x ++ [c]) = false := by
  rw [beq_eq_false_iff_ne]
  intro h1
  have h2 := congrArg List.length h1
  simp at h2
  omega

set_option maxRecDepth 100000 in
set_option maxHeartbeats 4000000 in
/-- P4.6 -/
theorem tells4_any (W : World) (v : Value) (b : List UInt8) (cut n : Nat) (hL : laidMetH Tryd.prog Rows.macTellsRow.laid W) (hv : Row W v (bs b)) (hbl : b.length ≤ 140737488351232) (_ : (cut : Int) ≤ IntKind.u64.max) (hn : (n : Int) ≤ IntKind.u8.max) :
    Calls Tryd.prog 9 #[v, .int .u64 cut, .int .u8 n] W fun e W' => e = .returned (.bool true) ∧ Fr Non W W' := by
  obtain ⟨i0, hi⟩ := info_parts Tryd.info5
  have HI := Lib.hid hi
  have HT := Lib.hid (shaT_2 hL)
  obtain ⟨a, c0, rfl, -⟩ := id hv
  have hn255 : n < 256 := by have h1 : IntKind.u8.max = 255 := by rfl
                             omega
  obtain ⟨c, hc⟩ : ∃ c : UInt8, c = UInt8.ofNat n := ⟨_, rfl⟩
  have hcn : (n : Int) = (c.toNat : Int) := by rw [hc, ofNat_toNat n hn255]
  have hc256 : c.toNat < 256 := c.toNat_lt
  rw [hcn]
  simp only [bs_length] at *
  have HV := Lib.hid hv
  have hlenv := run_lenRow (P := Tryd.prog) hv 22 5 Tryd.underlying22
  rw [bs_length] at hlenv
  clear hi hL hv hn hn255 hc hcn
  by_cases h0 : b.length = 0
  · have hb0 : b = [] := List.eq_nil_of_length_eq_zero h0
    have hz : ((b.length : Int) == 0) = true := by rw [h0]; rfl
    have HB0 := Lib.hid hb0
    clear hb0 h0
    go_enter Tryd.func9, Tryd.ntmps9
    go_wp2_with fail
    refine (shown4_any W HT.out).mono ?_
    rintro e w1 ⟨rfl, hf1⟩
    go_wp2_with fail
    refine (equalOp_any _ _ b [] w1 (HV.out.non hf1) (Row.nil _)).mono ?_
    rintro e w2 ⟨rfl, hf2⟩
    have e1 : (b == []) = true := by rw [HB0.out]; rfl
    have e2 : (b == [c]) = false := by rw [HB0.out]; rfl
    have HF2 := Lib.hid (hf1.non hf2)
    rw [e1]
    clear hf1 hf2 e1
    go_wp2_with fail
    refine (equalOp_any _ _ b [c] _ ((HV.out.non HF2.out).non (Fr.alloc _ _)) (Row.built w2 (bs [c]) _ 1 rfl (by decide))).mono ?_
    rintro e w3 ⟨rfl, hf3⟩
    rw [e2]
    go_wp2_with fail
    go_ret
    exact ⟨rfl, HF2.out.non ((Fr.alloc _ _).non hf3)⟩
  · have hz : ((b.length : Int) == 0) = false := by rw [beq_eq_false_iff_ne]; intro h; omega
    have hpos : 0 < b.length := by omega
    have hmod : (cut : Int) % (b.length : Int) = ((cut % b.length : Nat) : Int) := by push_cast; rfl
    have hk : cut % b.length < b.length := Nat.mod_lt _ hpos
    generalize cut % b.length = k at hmod hk
    have hk0 : (0 : Int) ≤ (k : Int) := by omega
    have hkn : (k : Int) < (b.length : Int) := by omega
    go_enter Tryd.func9, Tryd.ntmps9
    go_wp2_with fail
    refine (shown4_any W HT.out).mono ?_
    rintro e w1 ⟨rfl, hf1⟩
    have HF1 := Lib.hid hf1
    clear hf1
    go_wp2_with (at_builtin; refine wpList_appRow _ rfl (.tmp 32) (.tmp 33) 22 rfl W.heap.size 5 i0 (.int .u8 0) 1 Tryd.underlying22 HI.out rfl _ [] rfl (Own.empty _ _ _ HF1.out.size) _ (bs b) rfl ((HV.out.non HF1.out).non (Fr.alloc _ _)) (bs_one _) ⟨by rw [bs_length]; simp; omega, by omega⟩ (Nat.le_trans HF1.out.size (Fr.alloc _ _).size) ?_)
    intro v2 w2 hown hfr hmv
    have hown2 : Own w2 W.heap.size 5 v2 (bs b) := hown
    have HF2 : Hid (Fr Non W w2) := Lib.hid (HF1.out.non ((Fr.alloc _ _).new hfr (fun i hi => by cases hi; exact Nat.le_refl _)))
    clear hown hfr hmv
    obtain ⟨g, c1, rfl, hg, -⟩ := hown2.form (by rw [bs_length]; omega)
    rw [bs_length] at hown2 ⊢
    have huk : (bs b)[k]? = some (.int .u8 ((b[k]!).toNat : Int)) := by simp [bs, hk]
    obtain ⟨hcell, hfz⟩ := hown2.cellAt k _ huk
    have HO2 := Lib.hid hown2
    have HG := Lib.hid hg
    clear hown2 huk hg
    go_upto_region 7 with (fail)
    have hown3 := HO2.out.set k (.int .u8 (c.toNat : Int))
    rw [bs_set] at hown3
    have hf3 : Fr Non W (w2.setCell ⟨g, k, none⟩ (.int .u8 (c.toNat : Int))) := HF2.out.new (Fr.setCell _ _ _) (fun i h => by have h1 : i = g := h; have := HG.out; omega)
    generalize w2.setCell ⟨g, k, none⟩ (.int .u8 (c.toNat : Int)) = w3 at hown3 hf3 ⊢
    have hsb := set_beq b k c hk
    have hxl : (b.set k c).length = b.length := List.length_set
    obtain ⟨x, hx⟩ : ∃ x, x = b.set k c := ⟨_, rfl⟩
    rw [← hx] at hown3 hsb hxl
    have HO3 := Lib.hid hown3
    have HF3 := Lib.hid hf3
    have HSB := Lib.hid hsb
    have HXL := Lib.hid hxl
    obtain ⟨bb, off, hab, hcW⟩ := HV.out.bytes.2.2.2 k hk
    subst hab
    have hbb : bb < W.heap.size := HV.out.blockLt (fun h => by rw [h] at hpos; simp at hpos)
    obtain ⟨y, hy⟩ : ∃ y, y = b[k]!.toNat := ⟨_, rfl⟩
    rw [← hy] at hcW HSB
    have HCW := Lib.hid hcW
    have HBB := Lib.hid hbb
    have hq : (((c.toNat : Int) == (y : Int)) == ((c.toNat : Int) == (y : Int))) = true := by simp
    have hlb := less_beq b hpos
    have hmb := more_beq b x c hxl
    have HLM := Lib.hid (And.intro hlb hmb)
    obtain ⟨v4, r4, hv4, -⟩ := run_subHi (P := Tryd.prog) HV.out 22 5 Tryd.underlying22 (by kernel_rfl) .i64 ((b.length - 1 : Nat) : Int) (b.length - 1) rfl (by rw [bs_length]; omega)
    have hwr : IntKind.i64.wrap ((b.length : Int) - 1) = ((b.length - 1 : Nat) : Int) := by rw [IntKind.wrap_i64]; omega
    have HV4 : Hid (Row W v4 (bs (b.take (b.length - 1)))) := Lib.hid (by simpa [bs, List.map_take] using hv4)
    have hS0 : (fun w' : World => w'.cell? ⟨bb, off + k, none⟩ = some (.int .u8 (y : Int))) w3.drew := (HF3.out.non (Fr.drew _)).cell HCW.out (fun h => h)
    clear hown3 hf3 hsb hxl hx hcW hbb hy hlb hmb hv4 hcell hfz
    refine wp_region_held_drew (S := fun w' => w'.cell? ⟨bb, off + k, none⟩ = some (.int .u8 (y : Int))) (by kernel_rfl) hS0 (fun hHeld => ?_)
    refine wpAnyH_takeL (i := 0) 39 (v := ?_) rfl rfl (by kernel_rfl) (by kernel_rfl) (by kernel_rfl) (fun _ _ _ h => h) (by assumption) (Or.inl ⟨by rfl, ?_⟩) ?_
    rotate_left
    · intro w hSw; go_simp; (try with_reducible rfl)
    simp only [List.set_cons_zero, List.set_cons_succ]
    refine wpAnyH_takeL (i := 1) 40 (v := ?_) rfl rfl (by kernel_rfl) (by kernel_rfl) (by kernel_rfl) (fun _ _ _ h => h) (by assumption) (Or.inl ⟨by rfl, ?_⟩) ?_
    rotate_left
    · intro w hSw; go_simp; (try with_reducible rfl)
    simp only [List.set_cons_zero, List.set_cons_succ]
    refine wpAnyH_takeL (i := 2) 41 (v := ?_) rfl rfl (by kernel_rfl) (by kernel_rfl) (by kernel_rfl) (fun _ _ _ h => h) (by assumption) (Or.inl ⟨by rfl, ?_⟩) ?_
    rotate_left
    · intro w hSw; go_simp; (try with_reducible rfl)
    simp only [List.set_cons_zero, List.set_cons_succ]
    refine wpAnyH_takeL (i := 3) 42 (v := ?_) rfl rfl (by kernel_rfl) (by kernel_rfl) (by kernel_rfl) (fun _ _ _ h => h) (by assumption) (Or.inl ⟨by rfl, ?_⟩) ?_
    rotate_left
    · intro w hSw; go_simp; (try with_reducible rfl)
    simp only [List.set_cons_zero, List.set_cons_succ]
    refine wpAnyH_takeL (i := 5) 44 (v := ?_) rfl rfl (by kernel_rfl) (by kernel_rfl) (by kernel_rfl) (fun _ _ _ h => h) (by assumption) (Or.inl ⟨by rfl, ?_⟩) ?_
    rotate_left
    · intro w hSw; go_simp; (try with_reducible rfl)
    simp only [List.set_cons_zero, List.set_cons_succ]
    refine wpAnyH_takeL (i := 6) 45 (v := ?_) rfl rfl (by kernel_rfl) (by kernel_rfl) (by kernel_rfl) (fun _ _ _ h => h) (by assumption) (Or.inl ⟨by rfl, ?_⟩) ?_
    rotate_left
    · intro w hSw; go_simp; (try with_reducible rfl)
    simp only [List.set_cons_zero, List.set_cons_succ]
    refine wpAnyH_takeL (i := 7) 46 (v := ?_) rfl rfl (by kernel_rfl) (by kernel_rfl) (by kernel_rfl) (fun _ _ _ h => h) (by assumption) (Or.inl ⟨by rfl, ?_⟩) ?_
    rotate_left
    · intro w hSw; go_simp; (try with_reducible rfl)
    simp only [List.set_cons_zero, List.set_cons_succ]
    refine wpAnyH_takeL (i := 8) 47 (v := ?_) rfl rfl (by kernel_rfl) (by kernel_rfl) (by kernel_rfl) (fun _ _ _ h => h) (by assumption) (Or.inl ⟨by rfl, ?_⟩) ?_
    rotate_left
    · intro w hSw; go_simp; (try with_reducible rfl)
    simp only [List.set_cons_zero, List.set_cons_succ]
    refine wpAnyH_takeL (i := 9) 48 (v := ?_) rfl rfl (by kernel_rfl) (by kernel_rfl) (by kernel_rfl) (fun _ _ _ h => h) (by assumption) (Or.inl ⟨by rfl, ?_⟩) ?_
    rotate_left
    · intro w hSw; go_simp; (try with_reducible rfl)
    simp only [List.set_cons_zero, List.set_cons_succ]
    refine wpAnyH_takeL (i := 10) 49 (v := ?_) rfl rfl (by kernel_rfl) (by kernel_rfl) (by kernel_rfl) (fun _ _ _ h => h) (by assumption) (Or.inl ⟨by rfl, ?_⟩) ?_
    rotate_left
    · intro w hSw; go_simp; (try with_reducible rfl)
    simp only [List.set_cons_zero, List.set_cons_succ]
    refine wpAnyH_ready (rs := [4]) (by kernel_rfl) (by simp) ?_
    refine AllReadyH.cons (o := ⟨some 43, _, _, _, _, _⟩) rfl (fun K hK => ?_) (AllReadyH.nil)
    go_simp
    go_wp2_with (go_at_call 16; refine (equalOp_any _ _ x b _ (HO3.out.row.non (Fr.drew _)) (HV.out.non (HF3.out.non (Fr.drew _)))).mono ?_; rintro e r3 ⟨rfl, hf3⟩)
    rw [HSB.out]
    have F3 : Hid (Fr Non w3.drew r3) := Lib.hid hf3
    clear hf3
    refine hK.out _ _ (((HF3.out.non ((Fr.drew _).non F3.out))).cell HCW.out (fun h => h)) (fun hHeld => ?_)
    clear hK K
    refine wpAnyH_takeL (i := 11) 50 (v := ?_) rfl rfl (by kernel_rfl) (by kernel_rfl) (by kernel_rfl) (fun _ _ _ h => h) (by assumption) (Or.inl ⟨by rfl, ?_⟩) ?_
    rotate_left
    · intro w hSw; go_simp; (try with_reducible rfl)
    simp only [List.set_cons_zero, List.set_cons_succ]
    refine wpAnyH_takeL (i := 12) 51 (v := ?_) rfl rfl (by kernel_rfl) (by kernel_rfl) (by kernel_rfl) (fun _ _ _ h => h) (by assumption) (Or.inl ⟨by rfl, ?_⟩) ?_
    rotate_left
    · intro w hSw; go_simp; (try with_reducible rfl)
    simp only [List.set_cons_zero, List.set_cons_succ]
    refine wpAnyH_takeL (i := 13) 52 (v := ?_) rfl rfl (by kernel_rfl) (by kernel_rfl) (by kernel_rfl) (fun _ _ _ h => h) (by assumption) (Or.inl ⟨by rfl, ?_⟩) ?_
    rotate_left
    · intro w hSw; go_simp; (try with_reducible rfl)
    simp only [List.set_cons_zero, List.set_cons_succ]
    refine wpAnyH_takeL (i := 14) 53 (v := ?_) rfl rfl (by kernel_rfl) (by kernel_rfl) (by kernel_rfl) (fun _ _ _ h => h) (by assumption) (Or.inl ⟨by rfl, ?_⟩) ?_
    rotate_left
    · intro w hSw; go_simp; (try with_reducible rfl)
    simp only [List.set_cons_zero, List.set_cons_succ]
    refine wpAnyH_takeL (i := 15) 54 (v := ?_) rfl rfl (by kernel_rfl) (by kernel_rfl) (by kernel_rfl) (fun _ _ _ h => h) (by assumption) (Or.inl ⟨by rfl, ?_⟩) ?_
    rotate_left
    · intro w hSw; go_simp; (try with_reducible rfl)
    simp only [List.set_cons_zero, List.set_cons_succ]
    refine wpAnyH_takeL (i := 16) 55 (v := ?_) rfl rfl (by kernel_rfl) (by kernel_rfl) (by kernel_rfl) (fun _ _ _ h => h) (by assumption) (Or.inl ⟨by rfl, ?_⟩) ?_
    rotate_left
    · intro w hSw; go_simp; (try with_reducible rfl)
    simp only [List.set_cons_zero, List.set_cons_succ]
    refine wpAnyH_takeL (i := 17) 56 (v := ?_) rfl rfl (by kernel_rfl) (by kernel_rfl) (by kernel_rfl) (fun _ _ _ h => h) (by assumption) (Or.inl ⟨by rfl, ?_⟩) ?_
    rotate_left
    · intro w hSw; go_simp; (try with_reducible rfl)
    simp only [List.set_cons_zero, List.set_cons_succ]
    refine wpAnyH_takeL (i := 18) 57 (v := ?_) rfl rfl (by kernel_rfl) (by kernel_rfl) (by kernel_rfl) (fun _ _ _ h => h) (by assumption) (Or.inl ⟨by rfl, ?_⟩) ?_
    rotate_left
    · intro w hSw; go_simp; (try with_reducible rfl)
    simp only [List.set_cons_zero, List.set_cons_succ]
    refine wpAnyH_takeL (i := 19) 58 (v := ?_) rfl rfl (by kernel_rfl) (by kernel_rfl) (by kernel_rfl) (fun _ _ _ h => h) (by assumption) (Or.inl ⟨by rfl, ?_⟩) ?_
    rotate_left
    · intro w hSw; go_simp; (try with_reducible rfl)
    simp only [List.set_cons_zero, List.set_cons_succ]
    refine wpAnyH_ready (rs := [20]) (by kernel_rfl) (by simp) ?_
    refine AllReadyH.cons (o := ⟨some 59, _, _, _, _, _⟩) rfl (fun K hK => ?_) (AllReadyH.nil)
    go_simp
    go_wp2_with (go_at_call 16; refine (equalOp_any _ _ b (b.take (b.length - 1)) _ (HV.out.non (HF3.out.non ((Fr.drew _).non F3.out))) (HV4.out.non (HF3.out.non ((Fr.drew _).non F3.out)))).mono ?_; rintro e r4 ⟨rfl, hf4⟩)
    rw [HLM.out.1]
    have F4 : Hid (Fr Non r3 r4) := Lib.hid hf4
    clear hf4
    refine hK.out _ _ (((HF3.out.non ((Fr.drew _).non (F3.out.non F4.out)))).cell HCW.out (fun h => h)) (fun hHeld => ?_)
    clear hK K
    refine wpAnyH_takeL (i := 21) 60 (v := ?_) rfl rfl (by kernel_rfl) (by kernel_rfl) (by kernel_rfl) (fun _ _ _ h => h) (by assumption) (Or.inl ⟨by rfl, ?_⟩) ?_
    rotate_left
    · intro w hSw; go_simp; (try with_reducible rfl)
    simp only [List.set_cons_zero, List.set_cons_succ]
    refine wpAnyH_takeL (i := 22) 61 (v := ?_) rfl rfl (by kernel_rfl) (by kernel_rfl) (by kernel_rfl) (fun _ _ _ h => h) (by assumption) (Or.inl ⟨by rfl, ?_⟩) ?_
    rotate_left
    · intro w hSw; go_simp; (try with_reducible rfl)
    simp only [List.set_cons_zero, List.set_cons_succ]
    refine wpAnyH_takeL (i := 23) 62 (v := ?_) rfl rfl (by kernel_rfl) (by kernel_rfl) (by kernel_rfl) (fun _ _ _ h => h) (by assumption) (Or.inl ⟨by rfl, ?_⟩) ?_
    rotate_left
    · intro w hSw; go_simp; (try with_reducible rfl)
    simp only [List.set_cons_zero, List.set_cons_succ]
    refine wpAnyH_takeL (i := 24) 63 (v := ?_) rfl rfl (by kernel_rfl) (by kernel_rfl) (by kernel_rfl) (fun _ _ _ h => h) (by assumption) (Or.inl ⟨by rfl, ?_⟩) ?_
    rotate_left
    · intro w hSw; go_simp; (try with_reducible rfl)
    simp only [List.set_cons_zero, List.set_cons_succ]
    refine wpAnyH_takeL (i := 25) 64 (v := ?_) rfl rfl (by kernel_rfl) (by kernel_rfl) (by kernel_rfl) (fun _ _ _ h => h) (by assumption) (Or.inl ⟨by rfl, ?_⟩) ?_
    rotate_left
    · intro w hSw; go_simp; (try with_reducible rfl)
    simp only [List.set_cons_zero, List.set_cons_succ]
    refine wpAnyH_takeL (i := 26) 65 (v := ?_) rfl rfl (by kernel_rfl) (by kernel_rfl) (by kernel_rfl) (fun _ _ _ h => h) (by assumption) (Or.inl ⟨by rfl, ?_⟩) ?_
    rotate_left
    · intro w hSw; go_simp; (try with_reducible rfl)
    simp only [List.set_cons_zero, List.set_cons_succ]
    refine wpAnyH_ready (rs := [27]) (by kernel_rfl) (by simp) ?_
    refine AllReadyH.cons (o := ⟨some 66, _, _, _, _, _⟩) rfl (fun K hK => ?_) (AllReadyH.nil)
    go_simp
    obtain ⟨r5, hw5⟩ : ∃ w', w' = r4.alloc (.cells #[.int .u8 (c.toNat : Int)] 5) := ⟨_, rfl⟩
    rw [← hw5]
    have F5 : Hid (Fr Non r4 r5) := Lib.hid (by rw [hw5]; exact Fr.alloc _ _)
    have R27 : Hid (Row r5 (.slice (some ⟨r4.heap.size, 0, none⟩) 1 1) (bs [c])) := Lib.hid (by rw [hw5]; exact Row.built _ (bs [c]) _ 1 rfl (by decide))
    clear hw5
    refine hK.out _ _ (((HF3.out.non ((Fr.drew _).non (F3.out.non (F4.out.non F5.out))))).cell HCW.out (fun h => h)) (fun hHeld => ?_)
    clear hK K
    refine wpAnyH_ready (rs := [28]) (by kernel_rfl) (by simp) ?_
    refine AllReadyH.cons (o := ⟨some 67, _, _, _, _, _⟩) rfl (fun K hK => ?_) (AllReadyH.nil)
    have hcu := R27.out.cell0
    refine step_push_w (by rfl) (.tmp 64) (.tmp 66) 22 rfl W.heap.size 5 i0 (.int .u8 0) 1 Tryd.underlying22 HI.out rfl _ _ rfl (HO3.out.non ((Fr.drew _).non (F3.out.non (F4.out.non F5.out)))) _ _ rfl hcu rfl ⟨by rw [bs_length, HXL.out]; omega, by omega⟩ ((HF3.out.non ((Fr.drew _).non (F3.out.non (F4.out.non F5.out))))).size ?_
    intro v9 r6 hown9 hfr9 hmv9 hkp9
    simp only [Act.put, List.setIfInBounds_toArray, List.set_cons_zero, List.set_cons_succ]
    have HFA : Hid (Fr Non W r6) := Lib.hid (((HF3.out.non ((Fr.drew _).non (F3.out.non (F4.out.non F5.out))))).new hfr9 (fun i h => (HO3.out.lt i h).1))
    have HO9 : Hid (Own r6 W.heap.size 5 v9 (bs (x ++ [c]))) := Lib.hid (by rw [bs_snoc]; exact hown9)
    clear hcu hown9 hfr9 hmv9 hkp9
    refine hK.out _ _ ((HFA.out).cell HCW.out (fun h => h)) (fun hHeld => ?_)
    clear hK K
    refine wpAnyH_ready (rs := [29]) (by kernel_rfl) (by simp) ?_
    refine AllReadyH.cons (o := ⟨some 68, _, _, _, _, _⟩) rfl (fun K hK => ?_) (AllReadyH.nil)
    go_simp
    go_wp2_with (go_at_call 16; refine (equalOp_any _ _ b (x ++ [c]) _ (HV.out.non HFA.out) (HO9.out.row.non (Fr.refl _ _))).mono ?_; rintro e r2 ⟨rfl, hf2⟩)
    rw [HLM.out.2]
    have F2 : Hid (Fr Non r6 r2) := Lib.hid hf2
    clear hf2
    refine hK.out _ _ (((HFA.out.non F2.out)).cell HCW.out (fun h => h)) (fun hHeld => ?_)
    clear hK K
    refine wpAnyH_takeL (i := 30) 69 (v := ?_) rfl rfl (by kernel_rfl) (by kernel_rfl) (by kernel_rfl) (fun _ _ _ h => h) (by assumption) (Or.inl ⟨by rfl, ?_⟩) ?_
    rotate_left
    · intro w hSw; go_simp; (try with_reducible rfl)
    simp only [List.set_cons_zero, List.set_cons_succ]
    refine wpAnyH_takeL (i := 31) 70 (v := ?_) rfl rfl (by kernel_rfl) (by kernel_rfl) (by kernel_rfl) (fun _ _ _ h => h) (by assumption) (Or.inl ⟨by rfl, ?_⟩) ?_
    rotate_left
    · intro w hSw; go_simp; (try with_reducible rfl)
    simp only [List.set_cons_zero, List.set_cons_succ]
    refine wpAnyH_takeL (i := 32) 6 (v := ?_) rfl rfl (by kernel_rfl) (by kernel_rfl) (by kernel_rfl) (fun _ _ _ h => h) (by assumption) (Or.inl ⟨by rfl, ?_⟩) ?_
    rotate_left
    · intro w hSw; go_simp; (try with_reducible rfl)
    simp only [List.set_cons_zero, List.set_cons_succ]
    refine wpAnyH_done (by kernel_rfl) ?_ _
    go_wp2_with fail
    go_ret
    exact ⟨rfl, (HFA.out.non F2.out)⟩
end Go.Proofs.YtajknmapggkmnaaDoor
