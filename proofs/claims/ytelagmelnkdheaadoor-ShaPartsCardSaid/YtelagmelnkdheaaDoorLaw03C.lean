/- layer 3: a state's digest is that of all bytes so far, whenever it is asked -/
import Derived.Test.YtelagmelnkdheaaDoorShaC
namespace Go.Proofs.YtelagmelnkdheaaDoor
open Go.ChangeShapes Go.WideShapes Go.ChangeAt Go.RowKit
variable {T : World → Prop} {SS : (Nat → Prop) → World → Addr → List UInt8 → Prop} {Bl Bm : Nat}

set_option maxRecDepth 100000 in
set_option maxHeartbeats 1000000 in
/-- P3.2 -/
theorem states3w (C : ShaC T SS Bl Bm) (hshown : ∀ w, T w → Calls Tryd.prog 8 #[] w fun e w' => e = .returned (.bool true) ∧ Fr Non w w')
    (W : World) (v : Value) (ls : List (List UInt8)) (hT : T W) (hK : KAt W 1) (hv : Rows2 W v ls) (hb : 100000 ≤ Bl ∧ 100000 ≤ Bm) :
    Calls Tryd.prog 4 #[v] W fun e w' => e = .returned (.bool true) ∧ Fr Non W w' := by
  obtain ⟨i0, hi⟩ := info_parts Tryd.info5
  obtain ⟨vs, hr, hlen, hrows⟩ := hv
  obtain ⟨a, c, rfl, hl, hm, h3, h4⟩ := hr
  unfold maxLen at hm
  have HR := Lib.hid hrows
  have H4 := Lib.hid h4
  have HL := Lib.hid hlen
  have HT := Lib.hid hT
  have HK := Lib.hid hK
  have HC := Lib.hid C
  have HI := Lib.hid hi
  have HSH := Lib.hid hshown
  clear hrows h4 hlen h3 hT hK C hi hshown
  go_enter Tryd.func4, Tryd.ntmps4
  go_wp2_with fail
  refine (HSH.out _ HT.out).mono ?_
  rintro e w1 ⟨rfl, hf1⟩
  go_wp2_with fail
  refine (HC.out.new (HC.out.tf HT.out hf1)).mono ?_
  rintro e w2 ⟨p, O, rfl, hs, hO, hf2⟩
  have HF2 : Hid (Fr Non W w2) := Lib.hid (hf1.non hf2)
  have HS := Lib.hid hs
  have HO : Hid (∀ i, O i → W.heap.size ≤ i) := Lib.hid (fun i h => Nat.le_trans hf1.size (hO i h))
  clear hf1 hf2 hs hO
  go_wp2_with fail
  go_loopw [5, 13] (fun x i wr => ∃ (k : Nat) (m : List UInt8) (Q : Nat → Prop), k ≤ vs.length ∧ i = .int .i64 k ∧ m.length ≤ 100000 ∧ Own wr W.heap.size 5 x (bs m) ∧ SS Q wr p m ∧ (∀ i, Q i → W.heap.size ≤ i) ∧ (∀ i, OwnOf x i → ¬ Q i) ∧ Fr Non W wr) (fun _ i _ => vs.length - (intOf i).toNat)
  case atStart => exact ⟨0, [], O, by omega, rfl, by simp, Own.nil _ _ _, HS.out, HO.out, (fun i h => by cases h), HF2.out⟩
  case round =>
    obtain ⟨k, m, Q, hk, rfl, hml, hown, hss, hQ, hdis, hfr⟩ := hrel
    have hlenm := run_lenRow (P := Tryd.prog) hown.row 22 5 Tryd.underlying22
    rw [bs_length] at hlenm
    have heq := eqDigest_same m
    have HOW := Lib.hid hown
    have HS2 := Lib.hid hss
    have HQ := Lib.hid hQ
    have HD := Lib.hid hdis
    have HF := Lib.hid hfr
    clear hown hss hQ hdis hfr
    by_cases hlt : k < vs.length
    · obtain ⟨b, off, rfl, hc⟩ := H4.out k hlt
      have hc1 : wr.cell? ⟨b, off + k, none⟩ = some vs[k] := HF.out.cell (hc k _ (List.getElem?_eq_getElem hlt)) (fun h => h)
      have hcW : W.cell? ⟨b, off + k, none⟩ = some vs[k] := hc k _ (List.getElem?_eq_getElem hlt)
      have hr0 := HR.out k _ (List.getElem?_eq_getElem hlt)
      have hr1 := hr0.non HF.out
      have hlenk := run_lenRow (P := Tryd.prog) hr1 22 5 Tryd.underlying22
      rw [bs_length] at hlenk
      generalize vs[k] = u at hc1 hr0 hr1 hlenk hcW
      generalize ls[k]! = q at hr0 hr1 hlenk
      have HR0 := Lib.hid hr0
      have HCW := Lib.hid hcW
      have HR1 := Lib.hid hr1
      have z0 : (0 : Int) ≤ (k : Int) := by omega
      have z1 : (k : Int) < (vs.length : Int) := by omega
      clear hc hr0 hr1 hcW
      by_cases h100 : 100 ≤ k
      · have g1 : (100 : Int) ≤ (k : Int) := by omega
        go_wp2_with fail
        refine (HC.out.sum (HC.out.tf HT.out HF.out) HS2.out).mono ?_
        rintro e w5 ⟨rfl, hf5⟩
        go_wp2_with fail
        refine (refSum_any u5 m _ (HOW.out.row.non hf5) (by omega) (HK.out.frame (HF.out.non hf5) (fun h => h))).mono ?_
        rintro e w6 ⟨rfl, hf6⟩
        go_wp2_with fail
        go_ret
        exact ⟨by simp, (HF.out.non hf5).non hf6⟩
      · have g1 : (k : Int) < 100 := by omega
        by_cases hbig : 100000 < q.length + m.length
        · have g2 : (100000 : Int) - (m.length : Int) < (q.length : Int) := by omega
          go_wp2_with fail
          refine (HC.out.sum (HC.out.tf HT.out HF.out) HS2.out).mono ?_
          rintro e w5 ⟨rfl, hf5⟩
          go_wp2_with fail
          refine (refSum_any u5 m _ (HOW.out.row.non hf5) (by omega) (HK.out.frame (HF.out.non hf5) (fun h => h))).mono ?_
          rintro e w6 ⟨rfl, hf6⟩
          go_wp2_with fail
          go_ret
          exact ⟨by simp, (HF.out.non hf5).non hf6⟩
        · have g2 : (q.length : Int) ≤ (100000 : Int) - (m.length : Int) := by omega
          go_wp2_with fail
          refine (HC.out.write (HC.out.tf HT.out HF.out) HS2.out HR1.out (fun hn => HR0.out.offNew HQ.out hn) (by omega) (by omega)).mono ?_
          rintro e w3 ⟨rfl, Q3, hs3, hQ3, hf3⟩
          have hf3W : Fr Non W w3 := HF.out.new hf3 (fun i h => HQ.out i h)
          have hown3 : Own w3 W.heap.size 5 u5 (bs m) := HOW.out.frame hf3 (Off.own (fun i h => HD.out i h))
          have hrow3 : Row w3 u (bs q) := HR0.out.non hf3W
          have hc3 : w3.cell? ⟨b, off + k, none⟩ = some u := hf3W.cell HCW.out (fun h => h)
          have hnq : ∀ i, OwnOf u5 i → ¬ Q3 i := fun i h h2 => by
            rcases hQ3 i h2 with h3 | h3
            · exact HD.out i h h3
            · have := (HOW.out.lt i h).2; omega
          have HOW3 := Lib.hid hown3
          have HR3 := Lib.hid hrow3
          have HN3 := Lib.hid hnq
          have HS3 := Lib.hid hs3
          have HF3 := Lib.hid hf3W
          have HQ3 : Hid (∀ i, Q3 i → W.heap.size ≤ i) := Lib.hid (fun i h => by
            rcases hQ3 i h with h3 | h3
            · exact HQ.out i h3
            · exact Nat.le_trans HF.out.size h3)
          clear hf3W hown3 hrow3 hnq hs3 hf3 hQ3 hc1
          go_wp2_with (at_builtin; refine wpList_appRow _ rfl (.tmp 35) (.tmp 39) 22 rfl W.heap.size 5 i0 (.int .u8 0) 1 Tryd.underlying22 HI.out rfl _ _ rfl HOW3.out _ (bs q) rfl HR3.out (bs_one q) ?c4 ?c5 ?_)
          case c4 => rw [bs_length, bs_length]; omega
          case c5 => exact HF3.out.size
          intro v4 w4 hown4 hfr4 hmv4
          rw [← bs_append] at hown4
          have hs4 := HC.out.sf HS3.out hfr4 HN3.out
          have hML : (m ++ q).length ≤ 100000 := by rw [List.length_append]; omega
          have hlen4 := run_lenRow (P := Tryd.prog) hown4.row 22 5 Tryd.underlying22
          rw [bs_length] at hlen4
          have heq4 := eqDigest_same (m ++ q)
          have hne4 := neqDigest_same (m ++ q)
          generalize m ++ q = M at hown4 hs4 hML hlen4 heq4 hne4
          have HOW4 := Lib.hid hown4
          have HS4 := Lib.hid hs4
          have HF4 : Hid (Fr Non W w4) := Lib.hid (HF3.out.new hfr4 (fun i h => (HOW.out.lt i h).1))
          have HN4 : Hid (∀ i, OwnOf v4 i → ¬ Q3 i) := Lib.hid (fun i h h2 => by
            rcases hmv4 i h with h3 | h3
            · exact HN3.out i h3 h2
            · have := HC.out.lt HS3.out i h2; omega)
          clear hown4 hs4 hfr4 hmv4
          by_cases h3 : k % 3 = 0
          · have hb3 : (((k : Int) % 3) == 0) = true := by simp; omega
            have H3 := Lib.hid h3
            clear h3
            go_wp2_with fail
            refine (HC.out.sum (HC.out.tf HT.out HF4.out) HS4.out).mono ?_
            rintro e w5 ⟨rfl, hf5⟩
            go_wp2_with fail
            refine (refSum_any v4 M _ (HOW4.out.row.non hf5) (by omega) (HK.out.frame (HF4.out.non hf5) (fun h => h))).mono ?_
            rintro e w6 ⟨rfl, hf6⟩
            go_wp2_with fail
            refine (HC.out.len (HC.out.sf HS4.out (hf5.non hf6) (fun _ h => h.elim))).mono ?_
            rintro e w' ⟨rfl, rfl⟩
            have hbn : (((M.length : Nat) : Int) != ((M.length : Nat) : Int)) = false := by simp
            go_wp2_with fail
            go_roundw
            case rel => exact ⟨k + 1, M, Q3, by omega, by go_num, hML, (HOW4.out.non hf5).non hf6, HC.out.sf HS4.out (hf5.non hf6) (fun _ h => h.elim), HQ3.out, HN4.out, (HF4.out.non hf5).non hf6⟩
            case measure => simp [intOf]; omega
          · have hb3 : (((k : Int) % 3) == 0) = false := by simp; omega
            have H3 := Lib.hid h3
            clear h3
            go_wp2_with fail
            refine (HC.out.len HS4.out).mono ?_
            rintro e w' ⟨rfl, rfl⟩
            go_wp2_with fail
            go_roundw
            case rel => exact ⟨k + 1, M, Q3, by omega, by go_num, hML, HOW4.out, HS4.out, HQ3.out, HN4.out, HF4.out⟩
            case measure => simp [intOf]; omega
    · go_wp2_with fail
      refine (HC.out.sum (HC.out.tf HT.out HF.out) HS2.out).mono ?_
      rintro e w5 ⟨rfl, hf5⟩
      go_wp2_with fail
      refine (refSum_any u5 m _ (HOW.out.row.non hf5) (by omega) (HK.out.frame (HF.out.non hf5) (fun h => h))).mono ?_
      rintro e w6 ⟨rfl, hf6⟩
      go_wp2_with fail
      go_ret
      exact ⟨by simp, (HF.out.non hf5).non hf6⟩
end Go.Proofs.YtelagmelnkdheaaDoor
