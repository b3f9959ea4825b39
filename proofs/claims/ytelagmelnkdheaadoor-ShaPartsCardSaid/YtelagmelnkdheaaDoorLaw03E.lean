/- layer 3: states are apart -/
import Derived.Test.YtelagmelnkdheaaDoorShaC
import Derived.Test.YtelagmelnkdheaaDoorLaw03B
import Derived.Deep.RegionHeld
import Derived.Deep.DeepCutAuto
namespace Go.Proofs.YtelagmelnkdheaaDoor
open Go.ChangeShapes Go.WideShapes Go.ChangeAt Go.RowKit
variable {T : World → Prop} {SS : (Nat → Prop) → World → Addr → List UInt8 → Prop} {Bl Bm : Nat}

theorem setRows {B e : Nat} {fr : Nat × Nat} : ∀ (vs : List Value) (o : Nat) (w : World) (C : Array Value), w.heap[B]? = some (.cells C e fr) → o + vs.length ≤ C.size →
    ∃ C', (w.setCells B o vs).heap[B]? = some (.cells C' e fr) ∧ C'.size = C.size ∧ ∀ i, C'[i]? = if o ≤ i ∧ i < o + vs.length then vs[i - o]? else C[i]?
  | [], o, w, C, h, _ => ⟨C, h, rfl, fun i => by rw [if_neg (by simp)]⟩
  | v :: vs, o, w, C, h, hs => by
    have h1 := heap_setCell w B o C e fr v h
    obtain ⟨C', h2, h3, h4⟩ := setRows vs (o + 1) (w.setCell ⟨B, o, none⟩ v) (C.setIfInBounds o v) h1 (by simp at hs ⊢; omega)
    refine ⟨C', h2, by simpa using h3, fun i => ?_⟩
    rw [h4 i]
    have hlen : (v :: vs).length = vs.length + 1 := rfl
    by_cases h5 : i = o
    · subst h5
      rw [if_neg (by omega), if_pos (by omega)]
      have : i < C.size := by omega
      simp [this]
    · by_cases h6 : o + 1 ≤ i ∧ i < o + 1 + vs.length
      · rw [if_pos h6, if_pos (by omega), show i - o = (i - (o + 1)) + 1 by omega]
        simp
      · rw [if_neg h6, if_neg (by omega), Array.getElem?_setIfInBounds, if_neg (by omega)]
theorem DB.stored {w : World} {B : Nat} {l m : List UInt8} (h : DB w B l) (hl : l.length = 32) (hm : m.length = 32) : DB (w.setCells B 0 (bs m)) B m := by
  obtain ⟨C', h1, h2, h3⟩ := setRows (bs m) 0 w _ h (by simp [bs_length, hl, hm])
  unfold DB
  rw [h1]
  have e : C' = (bs m).toArray := by
    apply Array.ext_getElem?
    intro i
    rw [h3 i]
    by_cases hi : i < 32
    · rw [if_pos (by simp [bs_length, hm]; exact hi)]; simp
    · have h4 : (bs m).length = 32 := by rw [bs_length, hm]
      have h5 : (bs l).length = 32 := by rw [bs_length, hl]
      rw [if_neg (by omega)]
      simp [h4, h5, hi]
  rw [e]
theorem xor255 (c : UInt8) : ∃ d : UInt8, bits BinOp.xor IntKind.u8 (c.toNat : Int) 255 = (d.toNat : Int) := by
  have h := u8_xor_nat c.toNat 255 c.toNat_lt (by omega)
  have hx : c.toNat ^^^ 255 < 256 := Nat.xor_lt_two_pow (n := 8) c.toNat_lt (by omega)
  exact ⟨UInt8.ofNat (c.toNat ^^^ 255), by rw [ofNat_toNat _ hx]; exact h⟩

set_option maxRecDepth 100000 in
set_option maxHeartbeats 4000000 in
/-- P3.4 -/
theorem apart3w (C : ShaC T SS Bl Bm) (hshown : ∀ w, T w → Calls Tryd.prog 8 #[] w fun e w' => e = .returned (.bool true) ∧ Fr Non w w')
    (W : World) (vb vm : Value) (b more : List UInt8) (hT : T W) (hvb : Row W vb (bs b)) (hvm : Row W vm (bs more)) (hl : b.length ≤ 140737488351232) (_ : more.length ≤ 140737488351232) (hb1 : b.length + more.length ≤ Bl) (hb2 : b.length ≤ Bm) (hb3 : more.length ≤ Bm) :
    Calls Tryd.prog 6 #[vb, vm] W fun e w' => e = .returned (.bool true) ∧ Fr Non W w' := by
  obtain ⟨i0, hi⟩ := info_parts Tryd.info5
  obtain ⟨a, c, rfl, -⟩ := id hvb
  obtain ⟨a2, c2, rfl, -⟩ := id hvm
  simp only [bs_length] at *
  obtain ⟨n, hn⟩ : ∃ n, n = b.length := ⟨_, rfl⟩
  obtain ⟨n2, hn2⟩ : ∃ n2, n2 = more.length := ⟨_, rfl⟩
  rw [← hn] at hvb hl hb1 hb2 ⊢
  rw [← hn2] at hvm hb1 hb3 ⊢
  have HC := Lib.hid C
  have HT := Lib.hid hT
  have HSH := Lib.hid hshown
  have HB := Lib.hid hvb
  have HM := Lib.hid hvm
  have HN := Lib.hid hn
  have HN2 := Lib.hid hn2
  have HI := Lib.hid hi
  clear C hT hshown hvb hvm hn hn2 hi
  go_enter Tryd.func6, Tryd.ntmps6
  go_wp2_with fail
  refine (HC.out.new HT.out).mono ?_
  rintro e w1 ⟨p, O, rfl, hs1, hO, hf1⟩
  go_wp2_with fail
  refine (HC.out.new (HC.out.tf HT.out hf1)).mono ?_
  rintro e w2 ⟨p', O', rfl, ht2, hO', hf2⟩
  have hs2 := HC.out.sf hs1 hf2 (fun _ h => h.elim)
  have hOO : ∀ i, O i → ¬ O' i := fun i h h2 => by have := HC.out.lt hs1 i h; have := hO' i h2; omega
  have hfW2 : Fr Non W w2 := hf1.non hf2
  have hO'W : ∀ i, O' i → W.heap.size ≤ i := fun i h => Nat.le_trans hf1.size (hO' i h)
  have HS2 := Lib.hid hs2
  have HT2 := Lib.hid ht2
  clear hs1 hs2 ht2
  go_wp2_with (at_builtin; refine wpList_appRow _ rfl (.tmp 20) (.tmp 21) 22 rfl w2.heap.size 5 i0 (.int .u8 0) 1 Tryd.underlying22 HI.out rfl _ [] rfl (Own.empty _ _ _ (Nat.le_refl _)) _ (bs b) rfl ?c3 (bs_one b) ?c4 ?c5 ?_)
  case c3 => exact (HB.out.non hfW2).non (Fr.alloc _ _)
  case c4 => rw [bs_length, ← HN.out]; simp; omega
  case c5 => simp
  intro v3 w3 hown hfr hmv
  have hown3 : Own w3 w2.heap.size 5 v3 (bs b) := hown
  have hf23 : Fr Non w2 w3 := (Fr.alloc _ _).new hfr (fun i hi => by cases hi; exact Nat.le_refl _)
  have hfW3 : Fr Non W w3 := hfW2.non hf23
  have hs3 := HC.out.sf HS2.out hf23 (fun _ h => h.elim)
  have ht3 := HC.out.sf HT2.out hf23 (fun _ h => h.elim)
  have hlen3 := run_lenRow (P := Tryd.prog) hown3.row 22 5 Tryd.underlying22
  rw [bs_length, ← HN.out] at hlen3
  have h3O : ∀ i, OwnOf v3 i → ¬ O i := fun i h h2 => by have := (hown3.lt i h).1; have := HC.out.lt HS2.out i h2; omega
  have h3O' : ∀ i, OwnOf v3 i → ¬ O' i := fun i h h2 => by have := (hown3.lt i h).1; have := HC.out.lt HT2.out i h2; omega
  clear hown hfr hmv
  go_wp2_with fail
  refine (HC.out.write (HC.out.tf HT.out hfW3) hs3 hown3.row (fun _ => Off.own h3O) (by simp) (by rw [← HN.out]; exact hb2)).mono ?_
  rintro e w4 ⟨rfl, O4, hs4, hO4, hf4⟩
  have hfW4 : Fr Non W w4 := hfW3.new hf4 (fun i h => hO i h)
  have ht4 := HC.out.sf ht3 hf4 hOO
  have hown4 := hown3.frame hf4 (Off.own h3O)
  have h3O4 : ∀ i, OwnOf v3 i → ¬ O4 i := fun i h h2 => by
    rcases hO4 i h2 with h3 | h3
    · exact h3O i h h3
    · have := (hown3.lt i h).2; omega
  have hOO4 : ∀ i, O4 i → ¬ O' i := fun i h h2 => by
    rcases hO4 i h with h3 | h3
    · exact hOO i h3 h2
    · have := HC.out.lt ht3 i h2; omega
  have hO4W : ∀ i, O4 i → W.heap.size ≤ i := fun i h => by
    rcases hO4 i h with h3 | h3
    · exact hO i h3
    · exact Nat.le_trans hfW3.size h3
  rw [List.nil_append] at hs4
  clear hs3 ht3 hown3 hf4
  go_wp2_with fail
  refine (HC.out.write (HC.out.tf HT.out hfW4) ht4 (HB.out.non hfW4) (fun hn => HB.out.offNew hO'W hn) (by simp) (by rw [← HN.out]; exact hb2)).mono ?_
  rintro e w5 ⟨rfl, O5, ht5, hO5, hf5⟩
  have hfW5 : Fr Non W w5 := hfW4.new hf5 (fun i h => hO'W i h)
  have hs5 := HC.out.sf hs4 hf5 (fun i h h2 => hOO4 i h2 h)
  have hown5 := hown4.frame hf5 (Off.own h3O')
  have h3O5 : ∀ i, OwnOf v3 i → ¬ O5 i := fun i h h2 => by
    rcases hO5 i h2 with h3 | h3
    · exact h3O' i h h3
    · have := (hown4.lt i h).2; omega
  have hOO5 : ∀ i, O4 i → ¬ O5 i := fun i h h2 => by
    rcases hO5 i h2 with h3 | h3
    · exact hOO4 i h h3
    · have := HC.out.lt hs4 i h; omega
  have hO5W : ∀ i, O5 i → W.heap.size ≤ i := fun i h => by
    rcases hO5 i h with h3 | h3
    · exact hO'W i h3
    · exact Nat.le_trans hfW4.size h3
  rw [List.nil_append] at ht5
  have hv3W : ∀ i, OwnOf v3 i → W.heap.size ≤ i := fun i h => Nat.le_trans hfW2.size (hown4.lt i h).1
  have HS5 := Lib.hid hs5
  have HT5 := Lib.hid ht5
  have HOWN := Lib.hid hown5
  have HFW5 := Lib.hid hfW5
  have G1 := Lib.hid h3O4
  have G2 := Lib.hid h3O5
  have G3 := Lib.hid hOO5
  have G4 := Lib.hid hO4W
  have G5 := Lib.hid hO5W
  have G6 := Lib.hid hv3W
  have hnb : (bs b).length = n := by rw [bs_length, HN.out]
  have HNB := Lib.hid hnb
  clear hs4 ht4 hs5 ht5 hown4 hown5 hf5 hO5 hO4 hOO hOO4 h3O h3O' hfW2 hfW3 hfW4 hfW5 hf1 hf2 hf23 hO hO' hO'W h3O4 h3O5 hOO5 hO4W hO5W hv3W hnb
  go_wp2_with fail
  go_loopw [31] (fun i wr => ∃ (k : Nat) (m : List UInt8), k ≤ n ∧ i = .int .i64 k ∧ m.length = n ∧ Own wr w2.heap.size 5 v3 (bs m) ∧ Fr (OwnOf v3) w5 wr) (fun i _ => n - (intOf i).toNat)
  case atStart => exact ⟨0, b, by omega, rfl, HN.out.symm, HOWN.out, Fr.refl _ _⟩
  case round =>
    obtain ⟨k, m, hk, rfl, hml, hown, hfr⟩ := hrel
    have HML := Lib.hid hml
    have HF := Lib.hid hfr
    clear hml hfr
    by_cases hlt : k < n
    · obtain ⟨g, c', rfl, hg, -⟩ := hown.form (by rw [bs_length, HML.out]; omega)
      rw [bs_length, HML.out] at hown hlen3 ⊢
      have hu : (bs m)[k]? = some (.int .u8 ((m[k]!).toNat : Int)) := by have := HML.out; simp [bs, show k < m.length by omega]
      obtain ⟨hcell, hfz⟩ := hown.cellAt k _ hu
      obtain ⟨d, hd⟩ := xor255 m[k]!
      generalize (m[k]!).toNat = x at hcell hd
      have HOW := Lib.hid hown
      have z0 : (0 : Int) ≤ (k : Int) := by omega
      have z1 : (k : Int) < (n : Int) := by omega
      clear hown hu
      go_wp2_with fail
      go_roundw
      case rel =>
        refine ⟨k + 1, m.set k d, by omega, by go_num, by rw [List.length_set]; exact HML.out, ?_, ?_⟩
        · rw [← bs_set]; exact HOW.out.set k _
        · exact HF.out.trans (Fr.setCell wr ⟨g, k, none⟩ _) (fun _ h => h) (fun i h => .inl (by have h1 : i = g := h; subst h1; rfl))
      case measure => simp [intOf]; omega
    · have hkn : ¬ (k : Int) < (n : Int) := by omega
      have hs6 := HC.out.sf HS5.out HF.out (fun i h => G1.out i h)
      have ht6 := HC.out.sf HT5.out HF.out (fun i h => G2.out i h)
      have hfW6 : Fr Non W wr := HFW5.out.new HF.out (fun i h => G6.out i h)
      have HS6 := Lib.hid hs6
      have HT6 := Lib.hid ht6
      have HFW6 := Lib.hid hfW6
      clear hs6 ht6 hfW6 hown HOWN hlen3
      go_wp2_with fail
      refine (HC.out.sum (HC.out.tf HT.out HFW6.out) HS6.out).mono ?_
      rintro e w7 ⟨rfl, hf67⟩
      dsimp only
      iterate 4 (first | go_values | go_skip | go_guarded | go_step | go_upon | go_back)
      have hd0 := DB.new w7
      have hfa := Fr.alloc w7 (.cells #[.int .u8 0, .int .u8 0, .int .u8 0, .int .u8 0, .int .u8 0, .int .u8 0, .int .u8 0, .int .u8 0, .int .u8 0, .int .u8 0, .int .u8 0, .int .u8 0, .int .u8 0, .int .u8 0, .int .u8 0, .int .u8 0, .int .u8 0, .int .u8 0, .int .u8 0, .int .u8 0, .int .u8 0, .int .u8 0, .int .u8 0, .int .u8 0, .int .u8 0, .int .u8 0, .int .u8 0, .int .u8 0, .int .u8 0, .int .u8 0, .int .u8 0, .int .u8 0] 25)
      generalize w7.alloc (.cells #[.int .u8 0, .int .u8 0, .int .u8 0, .int .u8 0, .int .u8 0, .int .u8 0, .int .u8 0, .int .u8 0, .int .u8 0, .int .u8 0, .int .u8 0, .int .u8 0, .int .u8 0, .int .u8 0, .int .u8 0, .int .u8 0, .int .u8 0, .int .u8 0, .int .u8 0, .int .u8 0, .int .u8 0, .int .u8 0, .int .u8 0, .int .u8 0, .int .u8 0, .int .u8 0, .int .u8 0, .int .u8 0, .int .u8 0, .int .u8 0, .int .u8 0, .int .u8 0] 25) = w8 at hd0 hfa ⊢
      refine wpList_store_mid rfl _ _ _ rfl w7.heap.size 0 (bs (sha b)).toArray rfl rfl (by rw [sizeD]; exact hd0.there) (by rw [sizeD]; kernel_rfl) (oneD _) ?_
      rw [show (bs (sha b)).toArray.toList = bs (sha b) by simp]
      have hd1 := hd0.stored (by rfl) (sha_length b)
      have hfs : Fr (One w7.heap.size) w8 (w8.setCells w7.heap.size 0 (bs (sha b))) := Fr.setCells _ _ _ _
      generalize w8.setCells w7.heap.size 0 (bs (sha b)) = w9 at hd1 hfs ⊢
      obtain ⟨D, hD⟩ : ∃ D, D = w7.heap.size := ⟨_, rfl⟩
      rw [← hD] at hd1 ⊢
      have hsz9 : D < w9.heap.size := (Array.getElem?_eq_some_iff.1 (show w9.heap[D]? = _ from hd1)).1
      have hf69 : Fr Non wr w9 := (hf67.non hfa).new hfs (fun i h => by have h1 : i = w7.heap.size := h; have := hf67.size; omega)
      have hD67 : wr.heap.size ≤ D := by have := hf67.size; omega
      have HD1 := Lib.hid hd1
      have HF9 := Lib.hid hf69
      have hinfo : (Tryd.prog.info? 25).map (·.size) = some (bs (sha b)).length := by rw [bs_length, sha_length]; kernel_rfl
      have HIN := Lib.hid hinfo
      clear hd0 hfa hfs hd1 hD hf67 hf69 hinfo
      go_upto_region 13 with (fail)
      refine wp_region_lit ?_
      refine wpList_load_mid rfl _ _ rfl D 0 rfl (bs (sha b)) _ HD1.out.range Tryd.underlying25 rfl HIN.out ?_
      iterate 3 (first | go_values | go_skip | go_guarded | go_step | go_upon | go_back)
      have hd0 := DB.new w9
      have hfa := Fr.alloc w9 (.cells #[.int .u8 0, .int .u8 0, .int .u8 0, .int .u8 0, .int .u8 0, .int .u8 0, .int .u8 0, .int .u8 0, .int .u8 0, .int .u8 0, .int .u8 0, .int .u8 0, .int .u8 0, .int .u8 0, .int .u8 0, .int .u8 0, .int .u8 0, .int .u8 0, .int .u8 0, .int .u8 0, .int .u8 0, .int .u8 0, .int .u8 0, .int .u8 0, .int .u8 0, .int .u8 0, .int .u8 0, .int .u8 0, .int .u8 0, .int .u8 0, .int .u8 0, .int .u8 0] 25)
      generalize w9.alloc (.cells #[.int .u8 0, .int .u8 0, .int .u8 0, .int .u8 0, .int .u8 0, .int .u8 0, .int .u8 0, .int .u8 0, .int .u8 0, .int .u8 0, .int .u8 0, .int .u8 0, .int .u8 0, .int .u8 0, .int .u8 0, .int .u8 0, .int .u8 0, .int .u8 0, .int .u8 0, .int .u8 0, .int .u8 0, .int .u8 0, .int .u8 0, .int .u8 0, .int .u8 0, .int .u8 0, .int .u8 0, .int .u8 0, .int .u8 0, .int .u8 0, .int .u8 0, .int .u8 0] 25) = w10 at hd0 hfa ⊢
      refine wpList_store_mid rfl _ _ _ rfl w9.heap.size 0 (bs (sha b)).toArray rfl rfl (by rw [sizeD]; exact hd0.there) (by rw [sizeD]; kernel_rfl) (oneD _) ?_
      rw [show (bs (sha b)).toArray.toList = bs (sha b) by simp]
      have hd1 := hd0.stored (by rfl) (sha_length b)
      have hfs : Fr (One w9.heap.size) w10 (w10.setCells w9.heap.size 0 (bs (sha b))) := Fr.setCells _ _ _ _
      generalize w10.setCells w9.heap.size 0 (bs (sha b)) = w11 at hd1 hfs ⊢
      obtain ⟨E, hE⟩ : ∃ E, E = w9.heap.size := ⟨_, rfl⟩
      rw [← hE] at hd1 ⊢
      have hf91 : Fr Non w9 w11 := hfa.new hfs (fun i h => by have h1 : i = w9.heap.size := h; omega)
      have hDE : D < E := by omega
      have hdd := HD1.out.frame hf91 (fun h => h)
      have hfW11 : Fr Non W w11 := (HFW6.out.non HF9.out).non hf91
      have hfr11 : Fr Non wr w11 := HF9.out.non hf91
      have hs11 := HC.out.sf HS6.out hfr11 (fun _ h => h.elim)
      have ht11 := HC.out.sf HT6.out hfr11 (fun _ h => h.elim)
      have hO4D : ∀ i, O4 i → i < D := fun i h => by have := HC.out.lt HS6.out i h; omega
      have hO5D : ∀ i, O5 i → i < D := fun i h => by have := HC.out.lt HT6.out i h; omega
      clear hd0 hfa hfs hE hf91 hfr11
      go_wp2_with fail
      refine (HC.out.write (HC.out.tf HT.out hfW11) hs11 (HM.out.non hfW11) (fun hn => HM.out.offNew G4.out hn) (by rw [← HN.out]; omega) (by rw [← HN2.out]; exact hb3)).mono ?_
      rintro e w12 ⟨rfl, O12, hs12, hO12, hf12⟩
      have hfW12 : Fr Non W w12 := hfW11.new hf12 (fun i h => G4.out i h)
      have ht12 := HC.out.sf ht11 hf12 (fun i h => G3.out i h)
      have hdd12 := hdd.frame hf12 (fun h => by have := hO4D _ h; omega)
      have hde12 := hd1.frame hf12 (fun h => by have := hO4D _ h; omega)
      have hD12 : ∀ i, O12 i → ¬ i = D ∧ ¬ i = E := fun i h => by
        have hE11 : E < w11.heap.size := (Array.getElem?_eq_some_iff.1 (show w11.heap[E]? = _ from hd1)).1
        rcases hO12 i h with h3 | h3
        · have := hO4D i h3; omega
        · omega
      have h125 : ∀ i, O5 i → ¬ O12 i := fun i h h2 => by
        rcases hO12 i h2 with h3 | h3
        · exact G3.out i h3 h
        · have := HC.out.lt ht11 i h; omega
      have HS12 := Lib.hid hs12
      have HT12 := Lib.hid ht12
      have HDD12 := Lib.hid hdd12
      have HDE12 := Lib.hid hde12
      have HFW12 := Lib.hid hfW12
      have G7 := Lib.hid hD12
      have G8 := Lib.hid h125
      have G9 := Lib.hid hO5D
      clear hs11 ht11 hs12 ht12 hdd hd1 hdd12 hde12 hfW11 hfW12 hf12 hO12 hD12 h125 hO4D hO5D
      go_wp2_with fail
      go_loopw [47] (fun i wq => ∃ (k : Nat) (m : List UInt8), k ≤ 32 ∧ i = .int .i64 k ∧ m.length = 32 ∧ DB wq D m ∧ Fr (One D) w12 wq) (fun i _ => 32 - (intOf i).toNat)
      case atStart => exact ⟨0, sha b, by omega, rfl, sha_length b, HDD12.out, Fr.refl _ _⟩
      case round =>
        obtain ⟨k, m, hk, rfl, hml, hdb, hfr⟩ := hrel
        have HML := Lib.hid hml
        have HFQ := Lib.hid hfr
        have HDB := Lib.hid hdb
        clear hml hfr hdb
        by_cases hlt : k < 32
        · obtain ⟨hcell, hfz⟩ := HDB.out.at k (by rw [HML.out]; exact hlt)
          obtain ⟨d, hd⟩ := xor255 m[k]!
          generalize (m[k]!).toNat = x at hcell hd
          have z0 : (0 : Int) ≤ (k : Int) := by omega
          have z1 : (k : Int) < 32 := by omega
          go_wp2_with fail
          go_roundw
          case rel => exact ⟨k + 1, m.set k d, by omega, by go_num, by rw [List.length_set]; exact HML.out, HDB.out.set k d, HFQ.out.trans (Fr.setCell _ ⟨D, k, none⟩ _) (fun _ h => h) (fun _ h => .inl h)⟩
          case measure => simp [intOf]; omega
        · have hkn : ¬ (k : Int) < 32 := by omega
          have hkd : decide ((k : Int) < 32) = false := by simpa using hkn
          have hs13 := HC.out.sf HS12.out HFQ.out (fun i h h2 => by have h1 : i = D := h; exact (G7.out i h2).1 h1)
          have ht13 := HC.out.sf HT12.out HFQ.out (fun i h h2 => by have h1 : i = D := h; have := G9.out i h2; omega)
          have hde13 := HDE12.out.frame HFQ.out (fun h => by have h1 : E = D := h; omega)
          have hfW13 : Fr Non W _ := HFW12.out.new HFQ.out (fun i h => by have h1 : i = D := h; have := HFW6.out.size; omega)
          go_wp2_with fail
          refine (HC.out.write (HC.out.tf HT.out hfW13) ht13 (m := []) (Row.nil _) (fun hn => absurd rfl hn) (by rw [← HN.out]; omega) (by simp)).mono ?_
          rintro e w14 ⟨rfl, O14, ht14, hO14, hf14⟩
          have hfW14 : Fr Non W w14 := hfW13.new hf14 (fun i h => G5.out i h)
          have hs14 := HC.out.sf hs13 hf14 (fun i h => G8.out i h)
          have hde14 := hde13.frame hf14 (fun h => by have := G9.out _ h; omega)
          rw [List.append_nil] at ht14
          have hT14 := HC.out.tf HT.out hfW14
          have HT14 := Lib.hid hT14
          have HSS := Lib.hid hs14
          have HTT := Lib.hid ht14
          have HRG := Lib.hid hde14.range
          have HRa := Lib.hid (HB.out.non hfW14)
          have HRm := Lib.hid (HM.out.non hfW14)
          have F1 : Hid ([b, more].flatten = b ++ more) := Lib.hid (by simp)
          have M1 : Hid ([b, more].flatten.length ≤ Bl ∧ ∀ x ∈ [b, more], x.length ≤ Bm) := Lib.hid ⟨by rw [F1.out, List.length_append, ← HN.out, ← HN2.out]; exact hb1, by
            intro x hx
            simp at hx
            rcases hx with rfl | rfl
            · rw [← HN.out]; exact hb2
            · rw [← HN2.out]; exact hb3⟩
          have HNI : Hid (((b.length : Nat) : Int) = (n : Int)) := Lib.hid (by rw [HN.out])
          have heq := eqDigest_same b
          have heq2 := eqDigest_same (b ++ more)
          have hnn : ((n : Int) == (n : Int)) = true := by simp
          have hu := Tryd.underlying25
          have hinf := HIN.out
          clear hs13 ht13 hde13 hfW13 hs14 ht14 hde14 hT14 hO14 hf14
          go_wp2_with fail
          go_region_held (fun w' => w'.rangeAt E 0 (bs (sha b))) (exact Fr.range (S := Non) (a := w14) (by (with_reducible (repeat (first | assumption | exact Fr.refl _ _ | refine Fr.toAlloc ?_ _ | refine Fr.toDrew ?_)))) HRG.out (fun h => h)) (first
            | (go_at_call 8; refine (HSH.out _ (HC.out.tf HT14.out (by (with_reducible (repeat (first | assumption | exact Fr.refl _ _ | refine Fr.toAlloc ?_ _ | refine Fr.toDrew ?_)))))).mono ?_; rintro e wn ⟨rfl, hff⟩; have hfn := Fr.non (a := w14) (by (with_reducible (repeat (first | assumption | exact Fr.refl _ _ | refine Fr.toAlloc ?_ _ | refine Fr.toDrew ?_)))) hff; have hfp := hff; clear hff)
            | (go_at_call 14; refine (HC.out.len (HC.out.sf HTT.out (w := w14) (S := Non) (by (with_reducible (repeat (first | assumption | exact Fr.refl _ _ | refine Fr.toAlloc ?_ _ | refine Fr.toDrew ?_)))) (fun _ h => h.elim))).mono ?_; rintro e wn ⟨rfl, rfl⟩; rw [HNI.out])
            | (go_at_call_of 13 (Value.pointer (some p)); refine (HC.out.sum (HC.out.tf HT14.out (by (with_reducible (repeat (first | assumption | exact Fr.refl _ _ | refine Fr.toAlloc ?_ _ | refine Fr.toDrew ?_))))) (HC.out.sf HSS.out (w := w14) (S := Non) (by (with_reducible (repeat (first | assumption | exact Fr.refl _ _ | refine Fr.toAlloc ?_ _ | refine Fr.toDrew ?_)))) (fun _ h => h.elim))).mono ?_; rintro e wn ⟨rfl, hff⟩; have hfn := Fr.non (a := w14) (by (with_reducible (repeat (first | assumption | exact Fr.refl _ _ | refine Fr.toAlloc ?_ _ | refine Fr.toDrew ?_)))) hff; have hfp := hff; clear hff)
            | (go_at_call_of 13 (Value.pointer (some p')); refine (HC.out.sum (HC.out.tf HT14.out (by (with_reducible (repeat (first | assumption | exact Fr.refl _ _ | refine Fr.toAlloc ?_ _ | refine Fr.toDrew ?_))))) (HC.out.sf HTT.out (w := w14) (S := Non) (by (with_reducible (repeat (first | assumption | exact Fr.refl _ _ | refine Fr.toAlloc ?_ _ | refine Fr.toDrew ?_)))) (fun _ h => h.elim))).mono ?_; rintro e wn ⟨rfl, hff⟩; have hfn := Fr.non (a := w14) (by (with_reducible (repeat (first | assumption | exact Fr.refl _ _ | refine Fr.toAlloc ?_ _ | refine Fr.toDrew ?_)))) hff; have hfp := hff; clear hff)
            | (go_at_call 9; refine (HC.out.all (ls := [b, more]) (HC.out.tf HT14.out (by (with_reducible (repeat (first | assumption | exact Fr.refl _ _ | refine Fr.toAlloc ?_ _ | refine Fr.toDrew ?_))))) ?_ M1.out.1 M1.out.2).mono ?_; (focus (repeat (first | ((with_reducible refine Rows2.built (ls := [b, more]) (n := 2) (us := [.slice a n c, .slice a2 n2 c2]) ?_ ?_ ?_ ?_ ?_); (focus simp); (focus rfl); (focus decide); (focus rfl); (focus exact (all2 (HRa.out.non (by (with_reducible (repeat (first | assumption | exact Fr.refl _ _ | refine Fr.toAlloc ?_ _ | refine Fr.toDrew ?_))))) (HRm.out.non (by (with_reducible (repeat (first | assumption | exact Fr.refl _ _ | refine Fr.toAlloc ?_ _ | refine Fr.toDrew ?_)))))))) | (with_reducible refine Rows2.toAlloc ?_ _) | (with_reducible refine Rows2.toDrew ?_) | (with_reducible refine Rows2.frame ?_ (by assumption))))); rintro e wn ⟨rfl, hff⟩; have hfn := Fr.non (a := w14) (by (with_reducible (repeat (first | assumption | exact Fr.refl _ _ | refine Fr.toAlloc ?_ _ | refine Fr.toDrew ?_)))) hff; have hfp := hff; clear hff; rw [F1.out]))
          all_goals go_wp2
          all_goals go_ret
          all_goals exact ⟨by simp, hfW14.non (by (with_reducible (repeat (first | assumption | exact Fr.refl _ _ | refine Fr.toAlloc ?_ _ | refine Fr.toDrew ?_))))⟩
end Go.Proofs.YtelagmelnkdheaaDoor
