/- the document's digest: what stands behind the bytes; the digest -/
import Derived.Test.YtajknmapggkmnaaDoorShaRefB
import Derived.Test.YtajknmapggkmnaaDoorMore
namespace Go.Proofs.YtajknmapggkmnaaDoor
open Go.ChangeShapes Go.WideShapes Go.ChangeAt Go.RowKit

/-- the k highest of eight bytes -/
def beTop (n : Nat) : Nat → List UInt8
  | 0 => []
  | k + 1 => beTop n k ++ [UInt8.ofNat (n / 2 ^ (8 * (7 - k)) % 256)]
theorem beTop_length (n k : Nat) : (beTop n k).length = k := by
  induction k with
  | zero => rfl
  | succ k ih => simp [beTop, ih]
theorem beTop_8 (n : Nat) : beTop n 8 = beBytes 8 n := by
  simp only [beTop, beBytes, List.nil_append, Nat.div_div_eq_div_mul, Nat.reduceMul, Nat.reduceSub, Nat.reducePow, Nat.div_one]
theorem bs_snoc (l : List UInt8) (c : UInt8) : bs (l ++ [c]) = bs l ++ [.int .u8 (c.toNat : Int)] := by rw [bs_append]; rfl

set_option maxRecDepth 100000 in
set_option maxHeartbeats 1000000 in
theorem padded_any (v : Value) (l : List UInt8) (w : World) (hv : Row w v (bs l)) (hl : l.length ≤ 140737488355000) :
    Calls Tryd.prog 28 #[v] w fun e w' => ∃ v', e = .returned v' ∧ Own w' w.heap.size 5 v' (bs (l ++ shaPad l.length)) ∧ Fr Non w w' := by
  obtain ⟨i0, hi⟩ := info_parts Tryd.info5
  have HV := Lib.hid hv
  have HI := Lib.hid hi
  have hlenv := run_lenRow (P := Tryd.prog) hv 22 5 Tryd.underlying22
  rw [bs_length] at hlenv
  clear hv hi
  go_enter Tryd.func28, Tryd.ntmps28
  go_wp2_with (at_builtin; refine wpList_appRow _ rfl (.tmp 6) (.tmp 7) 22 rfl w.heap.size 5 i0 (.int .u8 0) 1 Tryd.underlying22 HI.out rfl _ [] rfl (Own.empty _ _ _ (Nat.le_refl _)) _ (bs l) rfl ?c3 (bs_one l) ?c4 ?c5 ?_)
  case c3 => exact HV.out.non (Fr.alloc _ _)
  case c4 => rw [bs_length]; simp; omega
  case c5 => simp
  intro v1 w1 hown hfr hmv
  have HO1 : Hid (Own w1 w.heap.size 5 v1 (bs l)) := hown
  have HF1 : Hid (Fr Non w w1) := Lib.hid ((Fr.alloc _ _).new hfr (fun i hi => by cases hi; exact Nat.le_refl _))
  clear hown hfr hmv
  go_wp2_with (at_builtin; refine wpList_push _ rfl (.tmp 9) (.tmp 10) 22 rfl w.heap.size 5 i0 (.int .u8 0) 1 Tryd.underlying22 HI.out rfl _ _ rfl HO1.out _ _ rfl rfl ?c6 ?c7 ?_)
  case c6 => rw [bs_length]; omega
  case c7 => exact HF1.out.size
  intro v2 w2 hown hfr hmv
  have HO2 : Hid (Own w2 w.heap.size 5 v2 (bs (l ++ 128 :: List.replicate 0 0))) := Lib.hid (by rw [List.replicate_zero, bs_snoc]; exact hown)
  have HF2 : Hid (Fr Non w w2) := Lib.hid (HF1.out.new hfr (fun i h => (HO1.out.lt i h).1))
  clear hown hfr hmv HO1 HF1
  go_wp2
  go_loopw [3] (fun v' wr => ∃ z : Nat, z ≤ shaZeros l.length ∧ Own wr w.heap.size 5 v' (bs (l ++ 128 :: List.replicate z 0)) ∧ Fr Non w wr) (fun v' _ => l.length + 100 - vlen v')
  case atStart => exact ⟨0, Nat.zero_le _, HO2.out, HF2.out⟩
  case round =>
    obtain ⟨z, hz, hown, hfr⟩ := hrel
    have hlen := run_lenRow (P := Tryd.prog) hown.row 22 5 Tryd.underlying22
    have hvl := hown.vlen
    have hm : (bs (l ++ 128 :: List.replicate z 0)).length = l.length + 1 + z := by rw [bs_length]; simp; omega
    rw [hm] at hlen hvl
    have HVL := Lib.hid hvl
    have HM := Lib.hid hm
    have HO := Lib.hid hown
    have HF := Lib.hid hfr
    have hz64 : shaZeros l.length < 64 := by unfold shaZeros; omega
    have HZ : Hid (shaZeros l.length = (119 - l.length % 64) % 64) := Lib.hid rfl
    clear hm hown hfr hvl
    obtain ⟨m, hmm⟩ : ∃ m, m = l.length + 1 + z := ⟨_, rfl⟩
    rw [← hmm] at hlen
    have HMM := Lib.hid hmm
    have hm0 : (0 : Int) ≤ (m : Int) := by omega
    clear hmm
    by_cases hlt : z < shaZeros l.length
    · have hb : (((m : Int) % 64) != 56) = true := by
        have h1 := HMM.out
        have h2 := HZ.out
        simp
        omega
      go_wp2_with (at_builtin; refine wpList_push _ rfl (.tmp 16) (.tmp 17) 22 rfl w.heap.size 5 i0 (.int .u8 0) 1 Tryd.underlying22 HI.out rfl _ _ rfl HO.out _ _ rfl rfl ?c8 ?c9 ?_)
      case c8 => rw [HM.out]; omega
      case c9 => exact HF.out.size
      intro v3 w3 hown hfr hmv
      have HO3 : Hid (Own w3 w.heap.size 5 v3 (bs (l ++ 128 :: List.replicate (z + 1) 0))) := Lib.hid (by
        rw [show l ++ 128 :: List.replicate (z + 1) 0 = (l ++ 128 :: List.replicate z 0) ++ [0] by rw [List.replicate_succ']; simp, bs_snoc]; exact hown)
      have HF3 : Hid (Fr Non w w3) := Lib.hid (HF.out.new hfr (fun i h => (HO.out.lt i h).1))
      clear hown hfr hmv
      go_wp2
      go_roundw
      case rel => exact ⟨z + 1, by omega, HO3.out, HF3.out⟩
      case measure =>
        rw [HO3.out.vlen, HVL.out, bs_length]
        simp
        omega
    · have hb : (((m : Int) % 64) != 56) = false := by
        have h1 := HMM.out
        have h2 := HZ.out
        simp
        omega
      have hze : z = shaZeros l.length := by omega
      subst hze
      clear hlt hz
      go_wp2
      rw [show (l.length : Int) * 8 = ((l.length * 8 : Nat) : Int) from by omega]
      have HP : Hid (l ++ shaPad l.length = l ++ 128 :: List.replicate (shaZeros l.length) 0 ++ beTop (l.length * 8) 8) := Lib.hid (by rw [beTop_8, shaPad]; simp)
      have hN : l.length * 8 ≤ 1125899906840000 := by omega
      have hB : (l ++ 128 :: List.replicate (shaZeros l.length) 0).length ≤ 140737488355000 + 65 := by simp; omega
      have HO5 := HO.out
      generalize l ++ 128 :: List.replicate (shaZeros l.length) 0 = L at HP hB HO5
      generalize l.length * 8 = N at HP hN ⊢
      have HO6 := Lib.hid HO5
      clear HO5 HO HM hb HZ HMM HVL
      go_loopw [3, 5] (fun v' i wr => ∃ (z : Int) (k : Nat), i = .int .i64 z ∧ z = 7 - (k : Int) ∧ k ≤ 8 ∧ Own wr w.heap.size 5 v' (bs (L ++ beTop N k)) ∧ Fr Non w wr) (fun _ i _ => ((intOf i) + 1).toNat)
      case atStart => exact ⟨7, 0, rfl, rfl, by omega, by rw [show beTop N 0 = [] from rfl, List.append_nil]; exact HO6.out, HF.out⟩
      case round =>
        obtain ⟨z, k, rfl, hzk, hk, hown, hfr⟩ := hrel
        have HO := Lib.hid hown
        have HF := Lib.hid hfr
        have hbl : (beTop N k).length = k := beTop_length N k
        have HBL := Lib.hid hbl
        clear hown hfr hbl
        by_cases hlt : k < 8
        · obtain ⟨j, hj⟩ : ∃ j : Nat, z = (j : Int) := ⟨7 - k, by omega⟩
          subst hj
          have hj7 : j ≤ 7 := by omega
          have HZK := Lib.hid hzk
          have hs : (8 * (j : Int)).toNat = 8 * j := by omega
          clear hzk
          go_wp2_with (at_builtin; refine wpList_push _ rfl (.tmp 27) (.tmp 33) 22 rfl w.heap.size 5 i0 (.int .u8 0) 1 Tryd.underlying22 HI.out rfl _ _ rfl HO.out _ _ rfl rfl ?c12 ?c13 ?_)
          case c12 => rw [bs_length, List.length_append, HBL.out]; omega
          case c13 => exact HF.out.size
          intro v3 w3 hown hfr hmv
          have HO3 : Hid (Own w3 w.heap.size 5 v3 (bs (L ++ beTop N (k + 1)))) := Lib.hid (by
            have e : 7 - k = j := by have := HZK.out; omega
            rw [beTop, e, ← List.append_assoc, bs_snoc, ofNat_toNat _ (Nat.mod_lt _ (by omega)), Int.natCast_emod, Int.natCast_ediv, Int.natCast_pow]
            exact hown)
          have HF3 : Hid (Fr Non w w3) := Lib.hid (HF.out.new hfr (fun i h => (HO.out.lt i h).1))
          clear hown hfr hmv
          go_wp2
          go_roundw
          case rel => exact ⟨(j : Int) - 1, k + 1, rfl, by have := HZK.out; omega, by omega, HO3.out, HF3.out⟩
          case measure => simp [intOf]
        · have hk8 : k = 8 := by omega
          have hz : z = -1 := by omega
          subst hz
          have HO3 : Hid (Own wr w.heap.size 5 u3 (bs (l ++ shaPad l.length))) := Lib.hid (by rw [HP.out, ← hk8]; exact HO.out)
          clear hk8 hzk hk hlt
          go_wp2
          go_ret
          exact ⟨_, rfl, HO3.out, HF.out⟩
end Go.Proofs.YtajknmapggkmnaaDoor
