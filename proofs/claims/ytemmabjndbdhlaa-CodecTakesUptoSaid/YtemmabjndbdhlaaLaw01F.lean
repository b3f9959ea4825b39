/- a reader takes what the document says -/
import Derived.Test.YtemmabjndbdhlaaLaw01A
import Derived.Test.YtemmabjndbdhlaaRef01C
import Derived.Test.YtemmabjndbdhlaaShellPairs
namespace Go.Proofs.Ytemmabjndbdhlaa
open Go.ChangeShapes Go.WideShapes Go.ChangeAt Go.RowKit

theorem Own.made0 (w : World) (base e : Nat) (hb : base ≤ w.heap.size) : Own (w.alloc (.cells #[] e)) base e (.slice (some ⟨w.heap.size, 0, none⟩) 0 0) [] :=
  World.ownsRow_made w #[] 0 hb (Nat.zero_le _) rfl

theorem RRd.drew1 {w : World} {p : Nat} {v : Value} {L : List UInt8} {i e : Nat} (h : RRd w p v L i e) : RRd w.drew p v L i e := h
theorem Fr.row5 {w w' w5 : World} {b : Nat} {v : Value} {xs : List Value} (h : Fr Non w w') (r : Row w v xs) (f : Fr (One b) w' w5) (hb : w.heap.size ≤ b) : Row w5 v xs := by
  have hn : Fr Non w w5 := h.new f (fun j hj => by have h1 : j = b := hj; omega)
  exact r.non hn
theorem RRd.frame {S : Nat → Prop} {w w' : World} {p : Nat} {v : Value} {L : List UInt8} {i e : Nat} (h : RRd w p v L i e) (f : Fr S w w') (hp : ¬ S p) (hv : Row w' v (bs L)) : RRd w' p v L i e := by
  obtain ⟨h1, h2, h3, h4, h5⟩ := h
  exact ⟨f.heap h1 hp, hv, h3, h4, h5⟩

set_option maxRecDepth 100000 in
set_option maxHeartbeats 8000000 in
theorem takesw0 (w : World) (v0 : Value) (L : List UInt8) (v1 : Value) (zs : List (Int × Int)) (hv0 : Row w v0 (bs L)) (hl : L.length ≤ 1048576) (hv1 : PRow w v1 (zs.map fun z => (Value.int .u8 z.1, Value.int .i64 z.2)))
    (hz : ∀ z ∈ zs, (Lit.int .u8 z.1).wf = true ∧ (Lit.int .i64 z.2).wf = true) (hzl : zs.length ≤ 1048576) :
    Calls Try.prog 4 #[v0, v1] w fun e w' => e = .returned (.bool true) ∧ Fr Non w w' := by
  obtain ⟨i0, hi⟩ := info_parts Try.info5
  obtain ⟨a0, c0, rfl, -⟩ := id hv0
  obtain ⟨a1, c1, rfl, -⟩ := id hv1
  rw [bs_length] at *
  rw [List.length_map] at *
  have A0 := Lib.hid hv0
  have A1 := Lib.hid hv1
  have HZ := Lib.hid hz
  clear hv0 hv1 hz
  go_enter Try.func4, Try.ntmps4
  go_wp2_with fail
  refine (shown_any w).mono ?_
  rintro e w1 ⟨rfl, hf1⟩
  have hown1 := Own.made0 w1 w1.heap.size 5 (Nat.le_refl _)
  have hrow1 := (A0.out.non hf1).non (Fr.alloc w1 (.cells #[] 5))
  have H1 := Lib.hid hrow1
  have HO := Lib.hid hown1
  clear hrow1 hown1
  go_wp2_with (at_builtin; refine wpList_appRow _ rfl (.tmp 13) (.tmp 14) 22 rfl w1.heap.size 5 i0 (.int .u8 0) 1 Try.underlying22 hi rfl _ _ rfl HO.out _ _ rfl H1.out (bs_one _) ?c1 ?c2 ?_)
  case c1 => rw [bs_length]; simp; omega
  case c2 => simp
  intro vg w2 ho2 hf2 _
  have hf12 : Fr Non w1 w2 := (Fr.alloc w1 _).new hf2 (fun k hk => by cases hk; simp)
  go_wp2_with fail
  refine (New_any vg L w2 ho2.row (by omega)).mono ?_
  rintro e w3 ⟨br, rfl, hbr, hr3, hf3⟩
  have hg : ∃ ag cg, vg = .slice ag L.length cg ∧ (0 < L.length → ∃ g cur, ag = some ⟨g, 0, none⟩ ∧ w1.heap.size ≤ g ∧ g < w2.heap.size ∧ w2.heap[g]? = some (.cells cur 5 (0, 0)) ∧ L.length ≤ cur.size ∧ ∀ j, j < L.length → ∃ y : Nat, cur[j]? = some (.int .u8 (y : Int)) ∧ y < 256) := by
    have hlt := Own.lt ho2
    rcases ho2.2 with ⟨rfl, h0⟩ | ⟨g, cap, cur, rfl, h1, h2, h3, h4, h5, htk⟩
    · rw [bs_length] at h0
      exact ⟨none, 0, by rw [h0], fun h => by omega⟩
    · rw [bs_length] at h3
      refine ⟨some ⟨g, 0, none⟩, cap, by rw [bs_length], fun _ => ⟨g, cur, rfl, h1, (hlt g rfl).2, h2, by omega, fun j hj => ⟨(L[j]).toNat, ?_, (L[j]).toNat_lt⟩⟩⟩
      have hj2 : (bs L)[j]? = some (.int .u8 ((L[j]).toNat : Int)) := by simp [bs, hj]
      rw [← htk, List.getElem?_take_of_lt (by rw [bs_length]; omega)] at hj2
      simpa using hj2
  obtain ⟨ag, cg, rfl, hg⟩ := hg
  have HG := Lib.hid hg
  have hz3 := hf3.size
  have hrd : Rd (Rng w2.heap.size w3.heap.size) (w3.alloc (.cells #[.slice a0 L.length c0, .int .i64 0, .int .i64 0] 37)) br L 0 := hr3.non (Fr.alloc _ _)
  have hbr3 : br < w3.heap.size := hr3.2.1
  have hFw : Fr Non w w3 := (hf1.non hf12).non hf3
  have hrr : RRd (w3.alloc (.cells #[.slice a0 L.length c0, .int .i64 0, .int .i64 0] 37)) w3.heap.size (.slice a0 L.length c0) L 0 0 := by
    refine ⟨heap_alloc_new w3 _, ((A0.out.non hFw).non (Fr.alloc _ _)), fun hL b off n c e hb => ?_, Nat.zero_le _, a0, c0, rfl⟩
    have hpos : 0 < L.length := List.length_pos_iff.2 hL
    obtain ⟨b', off', n', c', e0, -, hc⟩ := run_at A0.out 0 (.int .u8 ((L[0]'hpos).toNat : Int)) (by simp [bs, hpos])
    rw [e0] at e
    injection e with e1 _ _
    injection e1 with e1
    injection e1 with e2 _ _
    have h1 := World.block_lt_of_cell? w _ hc
    have h2 := hFw.size
    have h3 : b = w3.heap.size := hb
    simp only [] at h1
    omega
  have HRD := Lib.hid hrd
  have HRR := Lib.hid hrr
  obtain ⟨wA, hwA⟩ : ∃ wA, wA = w3.alloc (.cells #[.slice a0 L.length c0, .int .i64 0, .int .i64 0] 37) := ⟨_, rfl⟩
  have HWA := Lib.hid hwA
  clear hg hrd hrr hr3 ho2 hf2 HO H1 hwA
  go_wp2_with fail
  go_loopw [24] (fun i wr => ∃ k : Nat, k ≤ L.length ∧ i = .int .i64 k ∧ Fr (fun b => w1.heap.size ≤ b ∧ b < w2.heap.size) wA wr ∧ (0 < L.length → ∃ g cur, ag = some ⟨g, 0, none⟩ ∧ w1.heap.size ≤ g ∧ g < w2.heap.size ∧ wr.heap[g]? = some (.cells cur 5 (0, 0)) ∧ L.length ≤ cur.size ∧ ∀ j, j < L.length → ∃ y : Nat, cur[j]? = some (.int .u8 (y : Int)) ∧ y < 256)) (fun i _ => L.length - (intOf i).toNat)
  case atStart =>
    refine ⟨0, Nat.zero_le _, rfl, by rw [HWA.out]; exact Fr.refl _ _, fun h => ?_⟩
    obtain ⟨g, cur, e1, h1, h2, h3, h4, h5⟩ := HG.out h
    exact ⟨g, cur, e1, h1, h2, (hf3.non (Fr.alloc _ _)).heap h3 (fun h => h), h4, h5⟩
  case round =>
    obtain ⟨k, hk, rfl, hfr, hgc⟩ := hrel
    by_cases hlt : k < L.length
    · obtain ⟨g, cur, hag, h1, h2, h3, h4, h5⟩ := hgc (by omega)
      obtain ⟨y, hy, hy2⟩ := h5 k hlt
      subst hag
      have cc : wr.cell? ⟨g, k, none⟩ = some (.int .u8 (y : Int)) := by rw [(block_cells h3 k).1]; exact hy
      have ff := (block_cells h3 k).2
      have H3 := Lib.hid h3
      have H4 := Lib.hid h4
      have H5 := Lib.hid h5
      have HF := Lib.hid hfr
      clear hgc h3 h4 h5 hy hfr
      go_wp2
      go_roundw
      case rel =>
        have hx : ∃ z : Nat, bits BinOp.xor IntKind.u8 (y : Int) 85 = (z : Int) ∧ z < 256 := by
          refine ⟨y ^^^ 85, u8_xor_nat y 85 hy2 (by omega), ?_⟩
          exact Nat.xor_lt_two_pow (n := 8) hy2 (by omega)
        obtain ⟨z, hz1, hz2⟩ := hx
        rw [hz1]
        refine ⟨k + 1, by omega, by go_num, HF.out.trans (Fr.setCell _ ⟨g, k, none⟩ _) (fun _ h => h) (fun i h => .inl (by have h6 : i = g := h; omega)), fun _ => ⟨g, _, rfl, h1, h2, block_setCell H3.out k _, by simpa using H4.out, fun j hj => ?_⟩⟩
        by_cases hjk : k = j
        · subst hjk
          exact ⟨z, by rw [Array.getElem?_setIfInBounds_self_of_lt (by have := H4.out; omega)], hz2⟩
        · rw [Array.getElem?_setIfInBounds_ne hjk]
          exact H5.out j hj
      case measure => simp [intOf]; omega
    · have HF := Lib.hid hfr
      have hFA : Fr Non w wr := by
        refine ((hf1.non hf12).non hf3).new ?_ (fun j h => h) (S := Non) (T := fun j => w.heap.size ≤ j)
        refine (Fr.alloc w3 _).trans (T := fun b => w1.heap.size ≤ b ∧ b < w2.heap.size) (by rw [HWA.out] at hfr; exact hfr) (fun _ h => h.elim) (fun j h => .inl (Nat.le_trans hf1.size h.1))
      have hRd : Rd (Rng w2.heap.size w3.heap.size) wr br L 0 := by
        have h1 := HRD.out
        rw [← HWA.out] at h1
        exact h1.frame hfr (fun j h2 h3 => by have := h2.1; have := h3.2; omega)
      have hRRd : RRd wr w3.heap.size (.slice a0 L.length c0) L 0 0 := by
        have h1 := HRR.out
        rw [← HWA.out] at h1
        exact h1.frame hfr (fun h => by have := h.2; omega) (A0.out.non hFA)
      have hbrw : w.heap.size ≤ br := by have h1 := hf1.size; have h2 := hf12.size; omega
      have hbrp : br ≠ w3.heap.size := by omega
      have hwp : w.heap.size ≤ w3.heap.size := by omega
      have HA1 := Lib.hid hFA
      have HA2 := Lib.hid hRd
      have HA3 := Lib.hid hRRd
      clear hfr hgc HG HRD HRR hFA hRd hRRd hFw
      go_wp2_with fail
      go_loopw [36] (fun i' wx => ∃ k i f : Nat, k ≤ zs.length ∧ k ≤ 1000 ∧ i' = .int .i64 k ∧ Rd (Rng w2.heap.size w3.heap.size) wx br (L.drop i) f ∧ RRd wx w3.heap.size (.slice a0 L.length c0) L i f ∧ Fr Non w wx) (fun i' _ => 1001 - (intOf i').toNat)
      case atStart => exact ⟨0, 0, 0, by omega, by omega, rfl, HA2.out, HA3.out, HA1.out⟩
      case round =>
        obtain ⟨k, i, f, hk, hk2, rfl, hr, hq, hfx⟩ := hrel
        have HR := Lib.hid hr
        have HQ := Lib.hid hq
        have HFX := Lib.hid hfx
        clear hr hq hfx
        by_cases hlt2 : k < zs.length ∧ k < 1000
        · obtain ⟨hkz, hk1000⟩ := hlt2
          have hzk := HZ.out zs[k] (List.getElem_mem hkz)
          obtain ⟨bb, off, hab, hcells⟩ : ∃ b off, a1 = some ⟨b, off, none⟩ ∧ (w.cell? ⟨b, off + k * 2, none⟩ = some (.int .u8 zs[k].1) ∧ w.cell? ⟨b, off + k * 2 + 1, none⟩ = some (.int .i64 zs[k].2)) := by
            obtain ⟨a, c, e, _, _, h4⟩ := A1.out
            injection e with e1 _ _
            subst e1
            obtain ⟨b, off, hb, h5⟩ := h4 k (by simpa using hkz)
            exact ⟨b, off, hb, h5 k (.int .u8 zs[k].1, .int .i64 zs[k].2) (by simp [hkz])⟩
          subst hab
          obtain ⟨hcw0, hcw1⟩ := hcells
          have hblt := World.block_lt_of_cell? w _ hcw0
          simp only [] at hblt
          have hc0 := HFX.out.cell hcw0 (fun h => h)
          have hc1 := HFX.out.cell hcw1 (fun h => h)
          obtain ⟨x, hx1, hx2⟩ := nat_of_wf hzk.1 (by decide)
          have hx256 : x ≤ 255 := by have e : IntKind.u8.max = 255 := by decide
                                     omega
          have hyb := int_of_wf hzk.2
          have hym : IntKind.i64.max = 9223372036854775807 := by decide
          rw [hx1] at hc0
          generalize zs[k].2 = y at *
          have hy : y ≤ 9223372036854775807 := by omega
          have hbb : bb ≠ br := by omega
          have hbp : bb ≠ w3.heap.size := by omega
          have hpbr : ¬ One br w3.heap.size := fun h => by have h1 : w3.heap.size = br := h; omega
          have hk0 : (0 : Int) ≤ (k : Int) := by omega
          have hk3 : (k : Int) < (zs.length : Int) := by omega
          have hx3 : x % 3 = 0 ∨ x % 3 = 1 ∨ x % 3 = 2 := by omega
          clear hx1 hx2 hzk hyb hym hcw0 hcw1
          rcases hx3 with hx3 | hx3 | hx3
          · have x0 : ((x : Int) % 3 == 0) = true := by simp; omega
            have x1 : ((x : Int) % 3 == 1) = false := by simp; omega
            clear hx3
            go_wp2_with fail
            refine (rNum_any _ br f _ _ HR.out).mono ?_
            rintro e w5 ⟨rfl, hr5, hf5⟩
            go_wp2_with fail
            refine (rrNum_any w5 _ _ L i f (HQ.out.frame hf5 hpbr (HFX.out.row5 A0.out hf5 hbrw))).mono ?_
            rintro e w6 ⟨rfl, ⟨i', hi', hr6⟩, hf6⟩
            have HFX0 : Fr Non w wr := HFX.out
            have hrd6 := hr5.frame hf6 (fun j h1 h2 => by have h3 : j = w3.heap.size := h2; have := h1.2; omega)
            rw [hi'] at hrd6
            obtain ⟨-, d1, d2, -, -⟩ := hr6.cells
            have hfx6 : Fr Non w w6 := (HFX0.new hf5 (fun j h => by have h3 : j = br := h; omega)).new hf6 (fun j h => by have h3 : j = w3.heap.size := h; omega)
            have hi'L := hr6.2.2.2.1
            have elq : ((L.drop i').length : Int) = (L.length : Int) - (i' : Int) := by rw [List.length_drop]; omega
            have w9 : IntKind.i64.wrap ((L.length : Int) - (i' : Int)) = (L.length : Int) - (i' : Int) := IntWalk.i64_in _ (by omega)
            generalize (takeNum (L.drop i) f).2.2 = f' at *
            have H6 := Lib.hid hrd6
            have HQ6 := Lib.hid hr6
            have HI := Lib.hid hi'
            have HX6 := Lib.hid hfx6
            have HE := Lib.hid elq
            clear hrd6 hr6 hi' hfx6 elq hr5
            go_wp2_with fail
            go_region_held (fun w' => w'.cell? ⟨w3.heap.size, 1, none⟩ = some (.int .i64 i') ∧ w'.cell? ⟨w3.heap.size, 2, none⟩ = some (.int .i64 f')) (first | exact ⟨d1, d2⟩) (first
              | (go_at_call 23; refine (Left_any _ br _ _ _ (H6.out.non (Fr.drew _))).mono ?_; rintro e w' ⟨rfl, rfl⟩; rw [HE.out])
              | (go_at_call 24; refine (Fault_any _ br _ _ _ (H6.out.non (Fr.drew _))).mono ?_; rintro e w' ⟨rfl, rfl⟩)
              | (go_at_call 25; refine (End_any _ br _ _ _ (H6.out.non (Fr.drew _))).mono ?_; rintro e w' ⟨rfl, rfl⟩)
              | (go_at_call 26; refine (rrEnd_any _ _ _ L i' _ (RRd.drew1 HQ6.out)).mono ?_; rintro e w' ⟨rfl, nq, rfl⟩))
            go_wp2
            go_roundw
            case rel => exact ⟨k + 1, i', f', by omega, by omega, by go_num, H6.out, HQ6.out, HX6.out.non (Fr.drewN _ _)⟩
            case measure => simp [intOf]; omega
          · have x0 : ((x : Int) % 3 == 0) = false := by simp; omega
            have x1 : ((x : Int) % 3 == 1) = true := by simp; omega
            clear hx3
            go_wp2_with fail
            go_region_held (fun w' => w'.cell? ⟨bb, off + k * 2 + 1, none⟩ = some (.int .i64 y)) (first | exact hc1 | exact (hf5.cell hc1 hbb) | exact hf6.cell (hf5.cell hc1 hbb) hbp) (first
              | (go_at_call 19; refine (rStr_any _ br f _ _ y (HR.out.non (Fr.drew _)) (by omega)).mono ?_; rintro e w5 ⟨rfl, hr5, hf5⟩)
              | (go_at_call 20; refine (rrStr_any w5 _ _ L i f y ((RRd.drew1 HQ.out).frame hf5 hpbr ((HFX.out.non (Fr.drew _)).row5 A0.out hf5 hbrw)) (by omega)).mono ?_; rintro e w6 ⟨rfl, ⟨i', hi', hr6⟩, hf6⟩))
            have HFX0 : Fr Non w wr.drew := HFX.out.non (Fr.drew _)
            have hrd6 := hr5.frame hf6 (fun j h1 h2 => by have h3 : j = w3.heap.size := h2; have := h1.2; omega)
            rw [hi'] at hrd6
            obtain ⟨-, d1, d2, -, -⟩ := hr6.cells
            have hfx6 : Fr Non w w6 := (HFX0.new hf5 (fun j h => by have h3 : j = br := h; omega)).new hf6 (fun j h => by have h3 : j = w3.heap.size := h; omega)
            have hi'L := hr6.2.2.2.1
            have elq : ((L.drop i').length : Int) = (L.length : Int) - (i' : Int) := by rw [List.length_drop]; omega
            have w9 : IntKind.i64.wrap ((L.length : Int) - (i' : Int)) = (L.length : Int) - (i' : Int) := IntWalk.i64_in _ (by omega)
            generalize (takeStr (L.drop i) f y).2.2 = f' at *
            have H6 := Lib.hid hrd6
            have HQ6 := Lib.hid hr6
            have HI := Lib.hid hi'
            have HX6 := Lib.hid hfx6
            have HE := Lib.hid elq
            clear hrd6 hr6 hi' hfx6 elq hr5
            go_wp2_with fail
            go_region_held (fun w' => w'.cell? ⟨w3.heap.size, 1, none⟩ = some (.int .i64 i') ∧ w'.cell? ⟨w3.heap.size, 2, none⟩ = some (.int .i64 f')) (first | exact ⟨d1, d2⟩) (first
              | (go_at_call 23; refine (Left_any _ br _ _ _ (H6.out.non (Fr.drew _))).mono ?_; rintro e w' ⟨rfl, rfl⟩; rw [HE.out])
              | (go_at_call 24; refine (Fault_any _ br _ _ _ (H6.out.non (Fr.drew _))).mono ?_; rintro e w' ⟨rfl, rfl⟩)
              | (go_at_call 25; refine (End_any _ br _ _ _ (H6.out.non (Fr.drew _))).mono ?_; rintro e w' ⟨rfl, rfl⟩)
              | (go_at_call 26; refine (rrEnd_any _ _ _ L i' _ (RRd.drew1 HQ6.out)).mono ?_; rintro e w' ⟨rfl, nq, rfl⟩))
            go_wp2
            go_roundw
            case rel => exact ⟨k + 1, i', f', by omega, by omega, by go_num, H6.out, HQ6.out, HX6.out.non (Fr.drewN _ _)⟩
            case measure => simp [intOf]; omega
          · have x0 : ((x : Int) % 3 == 0) = false := by simp; omega
            have x1 : ((x : Int) % 3 == 1) = false := by simp; omega
            clear hx3
            go_wp2_with fail
            go_region_held (fun w' => w'.cell? ⟨bb, off + k * 2 + 1, none⟩ = some (.int .i64 y)) (first | exact hc1 | exact (hf5.cell hc1 hbb) | exact hf6.cell (hf5.cell hc1 hbb) hbp) (first
              | (go_at_call 21; refine (rFix_any _ br f _ _ y (HR.out.non (Fr.drew _))).mono ?_; rintro e w5 ⟨rfl, hr5, hf5⟩)
              | (go_at_call 22; refine (rrFix_any w5 _ _ L i f y ((RRd.drew1 HQ.out).frame hf5 hpbr ((HFX.out.non (Fr.drew _)).row5 A0.out hf5 hbrw))).mono ?_; rintro e w6 ⟨rfl, ⟨i', hi', hr6⟩, hf6⟩))
            have HFX0 : Fr Non w wr.drew := HFX.out.non (Fr.drew _)
            have hrd6 := hr5.frame hf6 (fun j h1 h2 => by have h3 : j = w3.heap.size := h2; have := h1.2; omega)
            rw [hi'] at hrd6
            obtain ⟨-, d1, d2, -, -⟩ := hr6.cells
            have hfx6 : Fr Non w w6 := (HFX0.new hf5 (fun j h => by have h3 : j = br := h; omega)).new hf6 (fun j h => by have h3 : j = w3.heap.size := h; omega)
            have hi'L := hr6.2.2.2.1
            have elq : ((L.drop i').length : Int) = (L.length : Int) - (i' : Int) := by rw [List.length_drop]; omega
            have w9 : IntKind.i64.wrap ((L.length : Int) - (i' : Int)) = (L.length : Int) - (i' : Int) := IntWalk.i64_in _ (by omega)
            generalize (takeFix (L.drop i) f y).2.2 = f' at *
            have H6 := Lib.hid hrd6
            have HQ6 := Lib.hid hr6
            have HI := Lib.hid hi'
            have HX6 := Lib.hid hfx6
            have HE := Lib.hid elq
            clear hrd6 hr6 hi' hfx6 elq hr5
            go_wp2_with fail
            go_region_held (fun w' => w'.cell? ⟨w3.heap.size, 1, none⟩ = some (.int .i64 i') ∧ w'.cell? ⟨w3.heap.size, 2, none⟩ = some (.int .i64 f')) (first | exact ⟨d1, d2⟩) (first
              | (go_at_call 23; refine (Left_any _ br _ _ _ (H6.out.non (Fr.drew _))).mono ?_; rintro e w' ⟨rfl, rfl⟩; rw [HE.out])
              | (go_at_call 24; refine (Fault_any _ br _ _ _ (H6.out.non (Fr.drew _))).mono ?_; rintro e w' ⟨rfl, rfl⟩)
              | (go_at_call 25; refine (End_any _ br _ _ _ (H6.out.non (Fr.drew _))).mono ?_; rintro e w' ⟨rfl, rfl⟩)
              | (go_at_call 26; refine (rrEnd_any _ _ _ L i' _ (RRd.drew1 HQ6.out)).mono ?_; rintro e w' ⟨rfl, nq, rfl⟩))
            go_wp2
            go_roundw
            case rel => exact ⟨k + 1, i', f', by omega, by omega, by go_num, H6.out, HQ6.out, HX6.out.non (Fr.drewN _ _)⟩
            case measure => simp [intOf]; omega
        · go_wp2_with fail
          all_goals go_ret
          all_goals exact ⟨rfl, HFX.out⟩

theorem takesw (w : World) (v0 : Value) (L : List UInt8) (v1 : Value) (zs : List (Int × Int)) (hv0 : Row w v0 (bs L)) (hl : L.length ≤ 1048576) (hv1 : PRow w v1 (zs.map fun z => (Value.int .u8 z.1, Value.int .i64 z.2)))
    (hz : ∀ z ∈ zs, (Lit.int .u8 z.1).wf = true ∧ (Lit.int .i64 z.2).wf = true) (hzl : zs.length ≤ 1048576) :
    Calls Try.prog 4 #[v0, v1] w fun e w' => e = .returned (.bool true) ∧ Fr Non w w' := takesw0 w v0 L v1 zs hv0 hl hv1 hz hzl
end Go.Proofs.Ytemmabjndbdhlaa
