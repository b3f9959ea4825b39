/- numbers, texts and fixed bytes are laid as the document says -/
import Derived.Test.YtemmabjndbdhlaaLaw01A
import Derived.Test.YtemmabjndbdhlaaRef01A
import Derived.Deep.RegionHeld3
namespace Go.Proofs.Ytemmabjndbdhlaa
open Go.ChangeShapes Go.WideShapes Go.ChangeAt Go.RowKit

theorem Own.explicit {w : World} {base e : Nat} {v : Value} {xs : List Value} (h : Own w base e v xs) (hx : xs ≠ []) :
    ∃ g cap cur, v = .slice (some ⟨g, 0, none⟩) xs.length cap ∧ base ≤ g ∧ w.heap[g]? = some (.cells cur e (0, 0)) ∧ xs.length ≤ cap ∧ cap ≤ maxLen ∧ cur.size = cap := by
  rcases h.2 with ⟨rfl, h0⟩ | ⟨g, cap, cur, rfl, h1, hg, h2, h3, h4, _⟩
  · exact absurd (List.eq_nil_of_length_eq_zero h0) hx
  · exact ⟨g, cap, cur, rfl, h1, hg, h2, h3, by omega⟩
/-- what was there before is read as it was, whatever is written to newer blocks -/
theorem Row.old {S : Nat → Prop} {w w' : World} {v : Value} {xs : List Value} (h : Row w v xs) (f : Fr S w w') (hs : ∀ k, S k → w.heap.size ≤ k) : Row w' v xs := by
  obtain ⟨a, c, rfl, h1, h2, h3, h4⟩ := h
  refine ⟨a, c, rfl, h1, h2, h3, fun j hj => ?_⟩
  obtain ⟨b, off, rfl, h5⟩ := h4 j hj
  have hb := World.block_lt_of_cell? w _ (h5 j _ (List.getElem?_eq_getElem hj))
  exact ⟨b, off, rfl, fun i u hi => f.cell (h5 i u hi) (fun hS => by have := hs b hS; simp only [] at hb; omega)⟩
theorem bytes_append (a b : List UInt8) : (⟨(a ++ b).toArray⟩ : ByteArray) = (⟨a.toArray⟩ : ByteArray) ++ (⟨b.toArray⟩ : ByteArray) := by
  apply ByteArray.ext
  simp

theorem str_is (w : World) (v : Value) (l : List UInt8) (b : ByteArray) (h : Row w v (bs l)) (e : (⟨l.toArray⟩ : ByteArray) = b) : Sem.run Try.prog (convert 22 9 v) w = .ok (.string (b)) w := by
  rw [← e]
  exact run_str w 22 9 5 v l h Try.underlying22 Try.underlying5 Try.underlying9

set_option maxRecDepth 100000 in
set_option maxHeartbeats 8000000 in
theorem laysw (w : World) (v : Value) (l : List UInt8) (n : Nat) (s : ByteArray) (m : Int) (hv : Row w v (bs l)) (hl : l.length ≤ 1048576) (hn : (n : Int) ≤ IntKind.u64.max) (hs : s.size ≤ 1048576) (_ : IntKind.i64.min ≤ m ∧ m ≤ IntKind.i64.max) :
    Calls Try.prog 3 #[v, .int .u64 n, .string s, .int .i64 m] w fun e w' => e = .returned (.bool true) ∧ Fr Non w w' := by
  have hmx : IntKind.u64.max = 18446744073709551615 := by decide
  have hn' : n < 18446744073709551616 := by omega
  have HN := Lib.hid hn'
  have HV := Lib.hid hv
  clear hmx hn hn' hv
  obtain ⟨own, ho⟩ : ∃ own : ByteArray, own = ⟨l.toArray⟩ := ⟨_, rfl⟩
  obtain ⟨en, hen⟩ : ∃ en : ByteArray, en = ⟨(enc n).toArray⟩ := ⟨_, rfl⟩
  obtain ⟨es, hes⟩ : ∃ es : ByteArray, es = ⟨(encStr s.data.toList).toArray⟩ := ⟨_, rfl⟩
  obtain ⟨ef, hef⟩ : ∃ ef : ByteArray, ef = ⟨(fixF (clamp8 m) n).toArray⟩ := ⟨_, rfl⟩
  have z1 : own.size ≤ 1048576 := by rw [ho]; simpa [ByteArray.size] using hl
  have z2 : en.size ≤ 10 := by rw [hen]; simpa [ByteArray.size] using enc_length n
  have esl : s.data.toList.length = s.size := rfl
  have z3 : es.size ≤ 1048590 := by
    rw [hes]
    have h1 := enc_length s.data.toList.length
    have h2 : (encStr s.data.toList).length ≤ 1048590 := by unfold encStr; rw [List.length_append]; omega
    simpa [ByteArray.size] using h2
  have z4 : ef.size ≤ 8 := by
    rw [hef]
    have h2 : (fixF (clamp8 m) n).length ≤ 8 := by rw [fixF_length]; unfold clamp8; split <;> (try split) <;> omega
    simpa [ByteArray.size] using h2
  have hX : (⟨(l ++ enc n).toArray⟩ : ByteArray) = own ++ en := by rw [ho, hen, bytes_append]
  have hY : (⟨(l ++ encStr s.data.toList).toArray⟩ : ByteArray) = own ++ es := by rw [ho, hes, bytes_append]
  have hZ : (⟨(l ++ fixF (clamp8 m) n).toArray⟩ : ByteArray) = own ++ ef := by rw [ho, hef, bytes_append]
  have HO := Lib.hid ho
  have HEN := Lib.hid hen
  have HES := Lib.hid hes
  have HEF := Lib.hid hef
  have HX := Lib.hid hX
  have HY := Lib.hid hY
  have HZ := Lib.hid hZ
  clear ho hen hes hef hX hY hZ esl
  go_enter Try.func3, Try.ntmps3
  go_wp2_with fail
  refine (shown_any w).mono ?_
  rintro e w1 ⟨rfl, hf1⟩
  have hb1 := run_str (P := Try.prog) w1 22 9 5 v _ (HV.out.non hf1) Try.underlying22 Try.underlying5 Try.underlying9
  rw [← HO.out] at hb1
  go_wp2_with fail
  refine (Num_any v l n w1 (HV.out.non hf1) HN.out (by omega)).mono ?_
  rintro e w2 ⟨vx, rfl, hox, hf2⟩
  clear hb1
  go_wp2_with fail
  refine (Str_any v l s w2 ((HV.out.non hf1).non hf2) (by omega)).mono ?_
  rintro e w3 ⟨vy, rfl, hoy, hf3⟩
  go_wp2_with fail
  refine (Fix_any v l n m w3 (((HV.out.non hf1).non hf2).non hf3) HN.out (by omega)).mono ?_
  rintro e w4 ⟨vz, rfl, hoz, hf4⟩
  go_wp2_with fail
  have RX := Lib.hid ((hox.row.non hf3).non hf4)
  have RY := Lib.hid (hoy.row.non hf4)
  have RZ := Lib.hid hoz.row
  have hf14 : Fr Non w1 w4 := (hf2.non hf3).non hf4
  go_region_held (fun w' => Sem.run Try.prog (convert 22 9 vx) w' = .ok (.string (own ++ en)) w' ∧ Sem.run Try.prog (convert 22 9 vy) w' = .ok (.string (own ++ es)) w' ∧ Sem.run Try.prog (convert 22 9 vz) w' = .ok (.string (own ++ ef)) w') (first | exact ⟨str_is _ _ _ _ (RX.out) HX.out, str_is _ _ _ _ (RY.out) HY.out, str_is _ _ _ _ (RZ.out) HZ.out⟩ | exact ⟨str_is _ _ _ _ (RX.out.non (Fr.drew _)) HX.out, str_is _ _ _ _ (RY.out.non (Fr.drew _)) HY.out, str_is _ _ _ _ (RZ.out.non (Fr.drew _)) HZ.out⟩ | exact ⟨str_is _ _ _ _ ((RX.out.non (Fr.drew _)).non hfa) HX.out, str_is _ _ _ _ ((RY.out.non (Fr.drew _)).non hfa) HY.out, str_is _ _ _ _ ((RZ.out.non (Fr.drew _)).non hfa) HZ.out⟩ | exact ⟨str_is _ _ _ _ (((RX.out.non (Fr.drew _)).non hfa).non hfb) HX.out, str_is _ _ _ _ (((RY.out.non (Fr.drew _)).non hfa).non hfb) HY.out, str_is _ _ _ _ (((RZ.out.non (Fr.drew _)).non hfa).non hfb) HZ.out⟩ | exact ⟨str_is _ _ _ _ ((((RX.out.non (Fr.drew _)).non hfa).non hfb).non hfc) HX.out, str_is _ _ _ _ ((((RY.out.non (Fr.drew _)).non hfa).non hfb).non hfc) HY.out, str_is _ _ _ _ ((((RZ.out.non (Fr.drew _)).non hfa).non hfb).non hfc) HZ.out⟩) (first
    | (go_at_call 13; refine (refNum_any n _ HN.out).mono ?_; rintro e wa ⟨va, rfl, hoa, hfa⟩; have hsa := str_is wa va _ _ hoa.row HEN.out.symm)
    | (go_at_call 14; refine (refStr_any s _ (by omega)).mono ?_; rintro e wb ⟨vb, rfl, hob, hfb⟩; have hsb := str_is wb vb _ _ hob.row HES.out.symm)
    | (go_at_call 15; refine (refFix_any n m _ HN.out).mono ?_; rintro e wc ⟨vc, rfl, hoc, hfc⟩; have hsc := str_is wc vc _ _ hoc.row HEF.out.symm))
  have hwc : Fr Non w4 wc := (((Fr.drew w4).non hfa).non hfb).non hfc
  have ho4 := (((hox.non hf3).non hf4).non hwc)
  have hzy := Own.lt (hoy.non hf4)
  obtain ⟨g, cap, cur, rfl, hg, hcells, hcap, hcapm, hcur⟩ := Own.explicit ho4 (by
    intro h
    have h1 := congrArg List.length h
    rw [bs_length, List.length_append] at h1
    have := enc_pos n
    simp only [List.length_nil] at h1
    omega)
  have hgl : g < w2.heap.size := (Own.lt hox g rfl).2
  have hLn : (bs (l ++ enc n)).length ≤ 1048600 := by rw [bs_length, List.length_append]; have := enc_length n; omega
  generalize (bs (l ++ enc n)).length = Ln at *
  have RVc : Hid (Row wc v (bs l)) := (((HV.out.non hf1).non hf14).non hwc)
  have RYc : Hid (Row wc vy (bs (l ++ encStr s.data.toList))) := RY.out.non hwc
  have hoffy : Off (One g) vy := Off.own (fun k hk h => by have h1 : k = g := h; have h2 := (Own.lt hoy k hk).1; omega)
  have hoffv : Hid (∀ b off n c, v = .slice (some ⟨b, off, none⟩) n c → True) := fun _ _ _ _ _ => trivial
  have HF : Hid (Fr Non w wc) := (hf1.non hf14).non hwc
  have HOY := Lib.hid hoffy
  have HC := Lib.hid hcells
  clear hox hoy hoz RX RZ hsa hsb hsc hoa hob hoc ho4 hzy hoffy hoffv hcells hwc hf14 hfa hfb hfc
  go_wp2_with fail
  go_loopw [60] (fun i wr => ∃ (k : Nat) (cur' : Array Value), k ≤ Ln ∧ i = .int .i64 k ∧ wr.heap[g]? = some (.cells cur' 5 (0, 0)) ∧ cur'.size = cap ∧ Fr (One g) wc wr) (fun i _ => Ln - (intOf i).toNat)
  case atStart => exact ⟨0, cur, by omega, rfl, HC.out, hcur, Fr.refl _ _⟩
  case round =>
    obtain ⟨k, cur', hk, rfl, hb, hsz, hfr⟩ := hrel
    by_cases hlt : k < Ln
    · have hck : k < cur'.size := by omega
      have c0 : wr.cell? ⟨g, k, none⟩ = some cur'[k] := by rw [(block_cells hb k).1]; simp [hck]
      have f0 := (block_cells hb k).2
      have HB := Lib.hid hb
      have HFR := Lib.hid hfr
      have HSZ := Lib.hid hsz
      clear hb hfr hsz
      go_wp2
      go_roundw
      case rel => exact ⟨k + 1, _, by omega, by go_num, block_setCell HB.out k _, by simp [HSZ.out], HFR.out.trans (Fr.setCell _ ⟨g, k, none⟩ _) (fun _ h => h) (fun _ h => .inl h)⟩
      case measure => simp [intOf]; omega
    · have hFw : Fr Non w wr := HF.out.new hfr (fun k h => by have h1 : k = g := h; have h2 := hf1.size; omega)
      have RV : Hid (Row wr v (bs l)) := HV.out.old (HF.out.non hfr) (fun k h => by have h1 : k = g := h; have h2 := hf1.size; omega)
      have RYr : Hid (Row wr vy (bs (l ++ encStr s.data.toList))) := RYc.out.frame hfr HOY.out
      have HFW := Lib.hid hFw
      clear hb hsz hfr hFw
      go_wp2_with fail
      go_region_held (fun w' => Sem.run Try.prog (convert 22 9 v) w' = .ok (.string (own)) w' ∧ Sem.run Try.prog (convert 22 9 vy) w' = .ok (.string (own ++ es)) w') (first | exact ⟨str_is _ _ _ _ (RV.out) HO.out.symm, str_is _ _ _ _ (RYr.out) HY.out⟩ | exact ⟨str_is _ _ _ _ (RV.out.non (Fr.drew _)) HO.out.symm, str_is _ _ _ _ (RYr.out.non (Fr.drew _)) HY.out⟩ | exact ⟨str_is _ _ _ _ ((RV.out.non (Fr.drew _)).non hfa) HO.out.symm, str_is _ _ _ _ ((RYr.out.non (Fr.drew _)).non hfa) HY.out⟩) (first
        | (go_at_call 14; refine (refStr_any s _ (by omega)).mono ?_; rintro e wa ⟨va, rfl, hoa, hfa⟩; have hsa := str_is wa va _ _ hoa.row HES.out.symm)
        | fail)
      all_goals go_wp2
      all_goals go_ret
      all_goals exact ⟨rfl, (HFW.out.non (Fr.drew _)).non hfa⟩
end Go.Proofs.Ytemmabjndbdhlaa
