/- the document's answers of layer 1: a text is taken -/
import Derived.Test.YtemmabjndbdhlaaRef01B
namespace Go.Proofs.Ytemmabjndbdhlaa
open Go.ChangeShapes Go.WideShapes Go.ChangeAt Go.RowKit

set_option maxRecDepth 100000 in
set_option maxHeartbeats 4000000 in
theorem rrStr_any (w : World) (p : Nat) (v : Value) (L : List UInt8) (i e : Nat) (most : Int) (h : RRd w p v L i e) (hmost : most ≤ 9223372036854775807) :
    Calls Try.prog 20 #[.pointer (some ⟨p, 0, none⟩), .int .i64 most] w fun en w' => en = .returned (.string ⟨(takeStr (L.drop i) e most).1.toArray⟩) ∧
      (∃ i', (takeStr (L.drop i) e most).2.1 = L.drop i' ∧ RRd w' p v L i' (takeStr (L.drop i) e most).2.2) ∧ Fr (One p) w w' := by
  by_cases he : e = 0
  · subst he
    obtain ⟨c0, c1, c2, f1, f2⟩ := h.cells
    have hiL := h.2.2.2.1
    have H := Lib.hid h
    clear h
    go_enter Try.func20, Try.ntmps20
    go_wp2_with fail
    refine (rrNum_any w p v L i 0 H.out).mono ?_
    rintro en w1 ⟨rfl, ⟨i', hi', hr1⟩, hf1⟩
    have TN : takeNum (L.drop i) 0 = ((dec (L.drop i)).1, if (dec (L.drop i)).2.2 = 0 then (L.drop i).drop (dec (L.drop i)).2.1 else L.drop i, (dec (L.drop i)).2.2) := if_pos rfl
    have TS : takeStr (L.drop i) 0 most = ((dist (L.drop i) most).1, if (dist (L.drop i) most).2.2 = 0 then (L.drop i).drop (dist (L.drop i) most).2.1 else L.drop i, (dist (L.drop i) most).2.2) := if_pos rfl
    have hD : dist (L.drop i) most = if (dec (L.drop i)).2.2 ≠ 0 then ([], 0, (dec (L.drop i)).2.2) else if max most 0 < ((dec (L.drop i)).1 : Int) then ([], 0, 4) else if (L.drop i).length - (dec (L.drop i)).2.1 < (dec (L.drop i)).1 then ([], 0, 10) else (((L.drop i).drop (dec (L.drop i)).2.1).take (dec (L.drop i)).1, (dec (L.drop i)).2.1 + (dec (L.drop i)).1, 0) := rfl
    have hok := dec_ok (L.drop i)
    rw [TN] at hi' hr1 ⊢
    simp only [] at hi' hr1 ⊢
    generalize (dec (L.drop i)).1 = n at *
    generalize (dec (L.drop i)).2.1 = k at *
    generalize (dec (L.drop i)).2.2 = f at *
    clear TN c0 c1 c2 f1 f2
    obtain ⟨c0, c1, c2, f1, f2⟩ := hr1.cells
    by_cases hf : f = 0
    · subst hf
      obtain ⟨hn64, hk0, hkl, hk10⟩ := hok rfl
      rw [if_neg (by simp)] at hD
      rw [if_pos rfl] at hi'
      rw [List.length_drop] at hkl hD
      have hi'L := hr1.2.2.2.1
      have hii : i' = i + k := by
        have h1 := congrArg List.length hi'
        rw [List.length_drop, List.length_drop, List.length_drop] at h1
        omega
      have hrow := hr1.2.1
      have hlen := run_lenRow (P := Try.prog) hrow 22 5 Try.underlying22
      have hmx := hrow.le
      rw [bs_length] at hlen hmx
      unfold maxLen at hmx
      have HN := Lib.hid hn64
      have HR1 := Lib.hid hr1
      have HII := Lib.hid hii
      have HROW := Lib.hid hrow
      clear hn64 hi' hr1 hok hii hrow
      by_cases h1 : max most 0 < (n : Int)
      · rw [if_pos h1] at hD
        rw [hD] at TS
        have HT := Lib.hid TS
        clear TS hD
        rcases Int.lt_or_le most 0 with h0 | h0
        all_goals
          have e1 : (max most 0) < (n : Int) := h1
          clear h1
          have e2 : most < (n : Int) := by omega
          have e3 : (0 : Int) < (n : Int) := by omega
          clear e1
          go_wp2_with fail
          refine (fail_any w1 p v L i' 0 4 HR1.out).mono ?_
          rintro en w2 ⟨rfl, hr2, hf2⟩
          obtain ⟨-, d1, -, g1, -⟩ := hr2.cells
          have HR2 := Lib.hid hr2
          clear hr2 c0 c1 c2 f1 f2
          go_wp2
          go_ret
          rw [HT.out]
          exact ⟨rfl, ⟨i, rfl, HR2.out.set1 i hiL⟩, (hf1.trans hf2 (fun _ h => h) (fun _ h => .inl h)).trans (Fr.setCell _ ⟨p, 1, none⟩ _) (fun _ h => h) (fun _ h => .inl h)⟩
      · rw [if_neg h1] at hD
        have hmn : (n : Int) ≤ max most 0 := by omega
        by_cases h2 : L.length - i - k < n
        · rw [if_pos h2] at hD
          rw [hD] at TS
          have HT := Lib.hid TS
          have h3 : (L.length : Int) - (i' : Int) < (n : Int) := by have := HII.out; omega
          have w3 : IntKind.u64.wrap ((L.length : Int) - (i' : Int)) = (L.length : Int) - (i' : Int) := IntWalk.u64_in _ (by omega)
          have t3 : decide ((L.length : Int) - (i' : Int) < (n : Int)) = true := by simp; omega
          clear TS hD h2 h1
          have h0 : 0 ≤ most := by omega
          have e3 : (n : Int) ≤ most := by omega
          clear hmn
          go_wp2_with fail
          go_quiet (fail)
          go_wp2_with fail
          refine (fail_any _ p v L i' 0 10 (RRd.drew HR1.out)).mono ?_
          rintro en w2 ⟨rfl, hr2, hf2⟩
          obtain ⟨-, d1, -, g1, -⟩ := hr2.cells
          have HR2 := Lib.hid hr2
          clear hr2 c0 c1 c2 f1 f2
          go_wp2
          go_ret
          rw [HT.out]
          exact ⟨rfl, ⟨i, rfl, HR2.out.set1 i hiL⟩, ((hf1.thenNon (Fr.drewN _ _)).trans hf2 (fun _ h => h) (fun _ h => .inl h)).trans (Fr.setCell _ ⟨p, 1, none⟩ _) (fun _ h => h) (fun _ h => .inl h)⟩
        · rw [if_neg h2] at hD
          rw [hD] at TS
          have HT := Lib.hid TS
          have hsum : i' + n ≤ L.length := by have := HII.out; omega
          have h3 : ¬ (L.length : Int) - (i' : Int) < (n : Int) := by omega
          have w3 : IntKind.u64.wrap ((L.length : Int) - (i' : Int)) = (L.length : Int) - (i' : Int) := IntWalk.u64_in _ (by omega)
          have w4 : IntKind.i64.wrap ((i' : Int) + (n : Int)) = (i' : Int) + (n : Int) := IntWalk.i64_in _ (by omega)
          have w5 : IntKind.i64.wrap (n : Int) = (n : Int) := IntWalk.i64_in _ (by omega)
          have t3 : decide ((L.length : Int) - (i' : Int) < (n : Int)) = false := by simp; omega
          obtain ⟨v', hrun, hv', -⟩ := run_sub (P := Try.prog) HROW.out 22 5 Try.underlying22 (by kernel_rfl) .i64 .i64 i' (i' + n) i' (i' + n) rfl (by omega) (by omega) (by rw [bs_length]; omega)
          have hv2 : Row w1 v' (bs ((L.drop i').take n)) := by simpa [bs, List.map_take, List.map_drop] using hv'
          have hstr : ∀ nq, (convert 22 9 v').run Try.prog (w1.drewN nq) = .ok (.string ⟨((L.drop i').take n).toArray⟩) (w1.drewN nq) := fun nq => run_str (P := Try.prog) (w1.drewN nq) 22 9 5 v' _ hv2 Try.underlying22 Try.underlying5 Try.underlying9
          have hii : (L.drop i).drop (k + n) = L.drop (i' + n) := by rw [List.drop_drop, HII.out, Nat.add_assoc]
          have HDR := Lib.hid hii
          have hres : ((L.drop i).drop k).take n = (L.drop i').take n := by rw [List.drop_drop, HII.out]
          have HRES := Lib.hid hres
          clear TS hD h2 h1 hv' hv2 hii hres
          rcases Int.lt_or_le most 0 with h0 | h0
          · have e3 : (n : Int) ≤ 0 := by omega
            clear hmn
            go_wp2_with fail
            go_quiet (fail)
            go_wp2_with fail
            go_quiet (fail)
            go_wp2
            go_ret
            rw [HT.out, HRES.out]
            exact ⟨rfl, ⟨i' + n, HDR.out, (RRd.drew HR1.out).set1 (i' + n) hsum⟩, (hf1.thenNon (Fr.drewN _ _)).trans (Fr.setCell _ ⟨p, 1, none⟩ _) (fun _ h => h) (fun _ h => .inl h)⟩
          · have e3 : (n : Int) ≤ most := by omega
            clear hmn
            go_wp2_with fail
            go_quiet (fail)
            go_wp2_with fail
            go_quiet (fail)
            go_wp2
            go_ret
            rw [HT.out, HRES.out]
            exact ⟨rfl, ⟨i' + n, HDR.out, (RRd.drew HR1.out).set1 (i' + n) hsum⟩, (hf1.thenNon (Fr.drewN _ _)).trans (Fr.setCell _ ⟨p, 1, none⟩ _) (fun _ h => h) (fun _ h => .inl h)⟩
    · rw [if_pos hf] at hD
      rw [hD] at TS
      simp only [if_neg hf] at TS hi'
      have HT := Lib.hid TS
      have hf0 : ((f : Int) != 0) = true := by simp; omega
      have HR1 := Lib.hid hr1
      have HI := Lib.hid hi'
      clear TS hD hok hr1 hi' hf
      go_wp2_with fail
      go_ret
      rw [HT.out]
      exact ⟨rfl, ⟨i', HI.out, HR1.out⟩, hf1⟩
  · have T : takeStr (L.drop i) e most = ([], L.drop i, e) := if_neg he
    have HT := Lib.hid T
    have he0 : ((e : Int) != 0) = true := by simp; omega
    obtain ⟨c0, c1, c2, f1, f2⟩ := h.cells
    have H := Lib.hid h
    clear T h he
    go_enter Try.func20, Try.ntmps20
    go_wp2_with fail
    go_ret
    rw [HT.out]
    exact ⟨rfl, ⟨i, rfl, H.out⟩, Fr.refl _ _⟩
end Go.Proofs.Ytemmabjndbdhlaa
