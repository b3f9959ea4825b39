/- what was laid is taken again, to the end -/
import Derived.Test.YtemmabjndbdhlaaLaw01A
import Derived.Test.YtemmabjndbdhlaaCodecMath
import Derived.Deep.RegionHeld3
import Derived.Deep.DeepCutAuto
import Derived.Deep.CutBlock
namespace Go.Proofs.Ytemmabjndbdhlaa
open Go.ChangeShapes Go.WideShapes Go.ChangeAt Go.RowKit

theorem num_take (x : Nat) (rest : List UInt8) (h : x < 18446744073709551616) : takeNum (enc x ++ rest) 0 = (x, rest, 0) := by
  unfold takeNum
  rw [if_pos rfl, dec_back _ _ h]
  simp
theorem unfix_fix : ∀ k x rest, unfix ((fixF k x ++ rest).take k) = x % 256 ^ k := by
  intro k
  induction k with
  | zero => intro x rest; simp [unfix, Nat.mod_one]
  | succ k ih =>
    intro x rest
    simp only [fixF, List.cons_append, List.take_succ_cons, unfix, ih]
    rw [UInt8.toNat_ofNat', Nat.mod_eq_of_lt (Nat.mod_lt _ (by omega)), Nat.pow_succ, Nat.mul_comm (256 ^ k), Nat.mod_mul]
theorem fix_take (k x : Nat) (rest : List UInt8) (hk : k ≤ 8) : takeFix (fixF k x ++ rest) 0 k = (x % 256 ^ k, rest, 0) := by
  have e : unfixed (fixF k x ++ rest) k = (x % 256 ^ k, 0) := by
    unfold unfixed
    rw [if_neg (by omega), if_neg (by rw [List.length_append, fixF_length]; omega), Int.toNat_natCast, unfix_fix]
  unfold takeFix
  rw [if_pos rfl, e]
  simp only [if_true, Int.toNat_natCast]
  rw [List.drop_append_of_le_length (by rw [fixF_length]; omega), List.drop_of_length_le (by rw [fixF_length]; omega), List.nil_append]
theorem str_take (s : List UInt8) (rest : List UInt8) (h : s.length < 18446744073709551616) : takeStr (encStr s ++ rest) 0 s.length = (s, rest, 0) := by
  have hd : dist (encStr s ++ rest) s.length = (s, (enc s.length).length + s.length, 0) := by
    unfold encStr dist
    rw [List.append_assoc, dec_back _ _ h]
    simp only []
    rw [if_neg (by simp), if_neg (by omega), if_neg (by simp)]
    simp
  unfold takeStr
  rw [if_pos rfl, hd]
  simp only [if_true]
  unfold encStr
  rw [List.append_assoc, ← List.drop_drop, List.drop_left, List.drop_left]

/-- the bytes of numbers, each as a number and as eight bytes -/
def flatN : List Nat → List UInt8
  | [] => []
  | x :: r => enc x ++ fixF 8 x ++ flatN r
def flatS : List ByteArray → List UInt8
  | [] => []
  | s :: r => encStr s.data.toList ++ flatS r
theorem flatN_snoc (l : List Nat) (x : Nat) : flatN (l ++ [x]) = flatN l ++ enc x ++ fixF 8 x := by
  induction l with
  | nil => simp [flatN]
  | cons y r ih => simp [flatN, ih]
theorem flatS_snoc (l : List ByteArray) (x : ByteArray) : flatS (l ++ [x]) = flatS l ++ encStr x.data.toList := by
  induction l with
  | nil => simp [flatS]
  | cons y r ih => simp [flatS, ih]
theorem flatN_length (l : List Nat) : (flatN l).length ≤ l.length * 18 := by
  induction l with
  | nil => simp [flatN]
  | cons y r ih => have := enc_length y; simp only [flatN, List.length_append, fixF_length, List.length_cons]; omega
theorem flatS_length (l : List ByteArray) (h : ∀ s ∈ l, s.size ≤ 10000) : (flatS l).length ≤ l.length * 10010 := by
  induction l with
  | nil => simp [flatS]
  | cons y r ih =>
    have h1 := h y (by simp)
    have h2 := ih (fun s hs => h s (by simp [hs]))
    have e : y.data.toList.length = y.size := rfl
    have := enc_length y.data.toList.length
    simp only [flatS, encStr, List.length_append, List.length_cons]
    omega
theorem take_snoc' {α : Type} [Inhabited α] (l : List α) (k : Nat) (h : k < l.length) : l.take (k + 1) = l.take k ++ [l[k]!] := by
  rw [List.take_succ_eq_append_getElem h, getElem!_pos l k h]
theorem drop_cons' {α : Type} [Inhabited α] (l : List α) (k : Nat) (h : k < l.length) : l.drop k = l[k]! :: l.drop (k + 1) := by
  rw [List.drop_eq_getElem_cons h, getElem!_pos l k h]

theorem rNum_enc (O : Nat → Prop) (b x : Nat) (w : World) (rest : List UInt8) (h : Rd O w b (enc x ++ rest) 0) (hx : x < 18446744073709551616) :
    Calls Try.prog 17 #[.pointer (some ⟨b, 0, none⟩)] w fun e w' => e = .returned (.int .u64 x) ∧ Rd O w' b rest 0 ∧ Fr (One b) w w' := by
  refine (rNum_any O b 0 w _ h).mono ?_
  rw [num_take x rest hx]
  exact fun _ _ h => h
theorem rFix_fix (O : Nat → Prop) (b x : Nat) (w : World) (rest : List UInt8) (h : Rd O w b (fixF 8 x ++ rest) 0) (hx : x < 18446744073709551616) :
    Calls Try.prog 21 #[.pointer (some ⟨b, 0, none⟩), .int .i64 8] w fun e w' => e = .returned (.int .u64 x) ∧ Rd O w' b rest 0 ∧ Fr (One b) w w' := by
  refine (rFix_any O b 0 w _ 8 h).mono ?_
  have e := fix_take 8 x rest (by omega)
  rw [Nat.mod_eq_of_lt (by omega)] at e
  have e' : takeFix (fixF 8 x ++ rest) 0 8 = (x, rest, 0) := e
  rw [e']
  exact fun _ _ h => h
theorem rStr_enc (O : Nat → Prop) (b : Nat) (s : ByteArray) (w : World) (rest : List UInt8) (h : Rd O w b (encStr s.data.toList ++ rest) 0) (hs : s.size ≤ 10000) :
    Calls Try.prog 19 #[.pointer (some ⟨b, 0, none⟩), .int .i64 s.size] w fun e w' => e = .returned (.string s) ∧ Rd O w' b rest 0 ∧ Fr (One b) w w' := by
  have e0 : s.data.toList.length = s.size := rfl
  refine (rStr_any O b 0 w _ s.size h (by omega)).mono ?_
  have e := str_take s.data.toList rest (by omega)
  rw [e0] at e
  rw [e]
  exact fun _ _ h => h

set_option maxRecDepth 100000 in
set_option maxHeartbeats 8000000 in
theorem backw0 (w : World) (v0 : Value) (ns : List Nat) (v1 : Value) (ss : List ByteArray) (many : Nat) (hv0 : Row w v0 (ns.map fun (n : Nat) => Value.int .u64 (n : Int))) (hns : ∀ n ∈ ns, n < 18446744073709551616) (hv1 : Row w v1 (ss.map Value.string)) (hmany : many ≤ 255)
    (hl0 : ns.length ≤ 140737488351232) (hl1 : ss.length ≤ 140737488351232) :
    Calls Try.prog 5 #[v0, v1, .int .u8 many] w fun e w' => e = .returned (.bool true) ∧ Fr Non w w' := by
  obtain ⟨a0, c0, rfl, -⟩ := id hv0
  obtain ⟨a1, c1, rfl, -⟩ := id hv1
  rw [List.length_map] at *
  have A0 := Lib.hid hv0
  have A1 := Lib.hid hv1
  have HNS := Lib.hid hns
  clear hv0 hv1 hns
  go_enter Try.func5, Try.ntmps5
  go_wp2_with fail
  refine (shown_any w).mono ?_
  rintro e w1 ⟨rfl, hf1⟩
  go_upto_block 0 with fail
  go_cut [8] (fun b wx => Own wx w1.heap.size 5 b (bs (flatN (ns.take 201))) ∧ Fr Non w1 wx)
  case first =>
   go_wp2_with fail
   go_loopw [8, 17] (fun b i wr => ∃ k : Nat, k ≤ ns.length ∧ k ≤ 200 ∧ i = .int .i64 k ∧ Own wr w1.heap.size 5 b (bs (flatN (ns.take k))) ∧ Fr Non w1 wr) (fun _ i _ => 201 - (intOf i).toNat)
   case atStart => exact ⟨0, by omega, by omega, rfl, Own.nil _ _ _, Fr.refl _ _⟩
   case round =>
     obtain ⟨k, hk, hk2, rfl, hown, hfr⟩ := hrel
     by_cases hlt : k < ns.length
     · have hx : ns[k]! < 18446744073709551616 := HNS.out _ (by rw [getElem!_pos ns k hlt]; exact List.getElem_mem hlt)
       obtain ⟨bb, off, n', c', e0, -, hcell⟩ := run_at ((A0.out.non hf1).non hfr) k (.int .u64 ((ns[k]! : Nat) : Int)) (by simp [hlt])
       obtain ⟨x, hxe⟩ : ∃ x, x = ns[k]! := ⟨_, rfl⟩
       rw [← hxe] at hx hcell
       injection e0 with e1 e2 e3
       subst e1
       clear e2 e3
       have HXE := Lib.hid hxe
       have HX := Lib.hid hx
       have HO := Lib.hid hown
       have HF := Lib.hid hfr
       have hlen := flatN_length (ns.take k)
       have hlen2 : (flatN (ns.take k)).length ≤ 4000 := by rw [List.length_take] at hlen; omega
       clear hxe hx hown hfr hlen
       have hk0 : (0 : Int) ≤ (k : Int) := by omega
       have hk1 : (k : Int) < (ns.length : Int) := by omega
       go_wp2_with fail
       go_region_held (fun w' => w'.cell? ⟨bb, off + k, none⟩ = some (.int .u64 (x : Int))) (first | exact hcell | exact (hf6.cell hcell (fun h => h)) | exact ((hf6.non hf7).cell hcell (fun h => h))) (first
         | (go_at_call 10; refine (Num_any _ _ x _ (HO.out.row.non (Fr.drew _)) HX.out (by omega)).mono ?_; rintro e w6 ⟨v6, rfl, ho6, hf6⟩)
         | (go_at_call 12; refine (Fix_any _ _ x 8 _ ho6.row HX.out (by rw [List.length_append]; have := enc_length x; omega)).mono ?_; rintro e w7 ⟨v7, rfl, ho7, hf7⟩))
       go_wp2
       · -- the two hundredth and first is the last
         go_meet
         obtain rfl : k = 200 := by omega
         refine ⟨?_, (HF.out.non (Fr.drew _)).non (hf6.non hf7)⟩
         rw [show 201 = 200 + 1 from rfl, take_snoc' ns 200 hlt, flatN_snoc, ← HXE.out]
         exact ho7.mono (by have h1 := HF.out.size; have h2 := hf6.size; simp at h2; omega)
       · go_roundw
         case rel =>
           refine ⟨k + 1, by omega, by omega, by go_num, ?_, (HF.out.non (Fr.drew _)).non (hf6.non hf7)⟩
           rw [take_snoc' ns k hlt, flatN_snoc, ← HXE.out]
           exact ho7.mono (by have h1 := HF.out.size; have h2 := hf6.size; simp at h2; omega)
         case measure => simp [intOf]; omega
     · go_wp2_with fail
       go_meet
       refine ⟨?_, hfr⟩
       rw [List.take_of_length_le (by omega)] at hown ⊢
       exact hown
  case rest =>
    obtain ⟨hown1, hfr1⟩ := hcut
    have hlenN := flatN_length (ns.take 201)
    have hlenN2 : (flatN (ns.take 201)).length ≤ 4000 := by rw [List.length_take] at hlenN; omega
    obtain ⟨FN, hFN⟩ : ∃ FN, FN = flatN (ns.take 201) := ⟨_, rfl⟩
    rw [← hFN] at hown1 hlenN2
    have HFN := Lib.hid hFN
    clear hFN hlenN
    go_wp2_with fail
    go_loopw [8, 36] (fun b i wr => ∃ k : Nat, k ≤ ss.length ∧ k ≤ 200 ∧ i = .int .i64 k ∧ Own wr w1.heap.size 5 b (bs (FN ++ flatS (ss.take k))) ∧ Fr Non w1 wr ∧ ∀ s ∈ ss.take k, s.size ≤ 10000) (fun _ i _ => 200 - (intOf i).toNat)
    case atStart => exact ⟨0, by omega, by omega, rfl, by simpa [flatS] using hown1, hfr1, by simp⟩
    case round =>
      obtain ⟨k, hk, hk2, rfl, hown, hfr, hsm⟩ := hrel
      have HO := Lib.hid hown
      have HF := Lib.hid hfr
      have HS := Lib.hid hsm
      have hlen := flatS_length (ss.take k) hsm
      have hlen2 : (flatS (ss.take k)).length ≤ 2010000 := by rw [List.length_take] at hlen; omega
      clear hown hfr hsm hlen hown1 hfr1
      by_cases hlt : k < ss.length
      · obtain ⟨bb, off, n', c', e0, -, hcell⟩ := run_at ((A1.out.non hf1).non HF.out) k (.string ss[k]!) (by simp [hlt])
        obtain ⟨x, hxe⟩ : ∃ x, x = ss[k]! := ⟨_, rfl⟩
        rw [← hxe] at hcell
        injection e0 with e1 e2 e3
        subst e1
        clear e2 e3
        have HXE := Lib.hid hxe
        clear hxe
        by_cases h200 : k < 200
        · by_cases hx : x.size ≤ 10000
          · go_wp2_with fail
            refine (Str_any _ _ x wr HO.out.row (by rw [List.length_append]; omega)).mono ?_
            rintro e w6 ⟨v6, rfl, ho6, hf6⟩
            go_wp2_with fail
            go_roundw
            case rel =>
              refine ⟨k + 1, by omega, by omega, by go_num, ?_, HF.out.non hf6, fun s hs => ?_⟩
              · rw [take_snoc' ss k hlt, flatS_snoc, ← HXE.out, ← List.append_assoc]
                exact ho6.mono HF.out.size
              · rw [take_snoc' ss k hlt, List.mem_append] at hs
                rcases hs with hs | hs
                · exact HS.out s hs
                · rw [List.mem_singleton.1 hs, ← HXE.out]; exact hx
            case measure => simp [intOf]; omega
          · go_wp2_with fail
            go_ret
            exact ⟨rfl, hf1.non HF.out⟩
        · go_wp2_with fail
          go_ret
          exact ⟨rfl, hf1.non HF.out⟩
      · have hkl : k = ss.length := by omega
        rw [List.take_of_length_le (by omega)] at hlen2
        have ho3 : Own wr w1.heap.size 5 u8 (bs (FN ++ flatS ss)) := by have := HO.out; rwa [List.take_of_length_le (by omega)] at this
        have hsm : ∀ s ∈ ss, s.size ≤ 10000 := by have := HS.out; rwa [List.take_of_length_le (by omega)] at this
        have HSM := Lib.hid hsm
        clear hsm hkl
        go_wp2_with fail
        have hmod : (many : Int) % 9 = ((many % 9 : Nat) : Int) := by omega
        have hq8 : many % 9 ≤ 8 := by omega
        obtain ⟨q, hq⟩ : ∃ q, q = many % 9 := ⟨_, rfl⟩
        rw [← hq] at hmod hq8
        clear hq
        rw [hmod]
        refine (Fix_any _ _ 9223372036854775808 q wr ho3.row (by omega) (by rw [List.length_append]; omega)).mono ?_
        rintro e w6 ⟨v6, rfl, ho6, hf6⟩
        have hcl : clamp8 (q : Int) = q := by unfold clamp8; rw [if_neg (by omega), if_neg (by omega), Int.toNat_natCast]
        rw [hcl] at ho6
        clear hcl ho3
        go_wp2_with fail
        refine (New_any _ _ w6 ho6.row (by rw [List.length_append, List.length_append, fixF_length]; omega)).mono ?_
        rintro e w7 ⟨b, rfl, hb, hr7, hf7⟩
        have hb1 : w1.heap.size ≤ b := Nat.le_trans (HF.out.non hf6).size hb
        have hf17 : Fr Non w1 w7 := (HF.out.non hf6).non hf7
        rw [List.append_assoc] at hr7
        obtain ⟨T, hT⟩ : ∃ T, T = flatS ss ++ fixF q 9223372036854775808 := ⟨_, rfl⟩
        rw [← hT, HFN.out] at hr7
        have HT := Lib.hid hT
        obtain ⟨O, hO⟩ : ∃ O, O = Rng w6.heap.size w7.heap.size := ⟨_, rfl⟩
        rw [← hO] at hr7
        clear hT ho6 hb hf6 hf7 hO HO HS HF
        go_upto_block 4 with fail
        go_cut [11] (fun r wx => r = .pointer (some ⟨b, 0, none⟩) ∧ Rd O wx b T 0 ∧ Fr Non w1 wx)
        case first =>
          go_wp2_with fail
          go_loopw [68] (fun i wr => ∃ k : Nat, k ≤ ns.length ∧ k ≤ 200 ∧ i = .int .i64 k ∧ Rd O wr b (flatN ((ns.take 201).drop k) ++ T) 0 ∧ Fr Non w1 wr) (fun i _ => 201 - (intOf i).toNat)
          case atStart => exact ⟨0, by omega, by omega, rfl, hr7, hf17⟩
          case round =>
            obtain ⟨k, hk, hk2, rfl, hrd, hfr⟩ := hrel
            by_cases hlt : k < ns.length
            · have hx : ns[k]! < 18446744073709551616 := HNS.out _ (by rw [getElem!_pos ns k hlt]; exact List.getElem_mem hlt)
              obtain ⟨bb, off, n', c', e0, -, hcell⟩ := run_at ((A0.out.non hf1).non hfr) k (.int .u64 ((ns[k]! : Nat) : Int)) (by simp [hlt])
              have hcell0 : w.cell? ⟨bb, off + k, none⟩ = some (.int .u64 ((ns[k]! : Nat) : Int)) := by
                obtain ⟨bb', off', n2, c2, e2, -, h2⟩ := run_at A0.out k (.int .u64 ((ns[k]! : Nat) : Int)) (by simp [hlt])
                rw [e0] at e2
                injection e2 with e3 _ _
                injection e3 with e3
                injection e3 with e4 e5 _
                subst e4 e5
                exact h2
              have hbb : bb ≠ b := fun h => by have h1 := World.block_lt_of_cell? w _ hcell0; have h2 := hf1.size; simp only [] at h1; omega
              have hdr : (ns.take 201).drop k = ns[k]! :: (ns.take 201).drop (k + 1) := by
                rw [drop_cons' (ns.take 201) k (by rw [List.length_take]; omega), getElem!_pos (ns.take 201) k (by rw [List.length_take]; omega), List.getElem_take, getElem!_pos ns k hlt]
              rw [hdr] at hrd
              clear hdr hcell0
              obtain ⟨x, hxe⟩ : ∃ x, x = ns[k]! := ⟨_, rfl⟩
              rw [← hxe] at hx hcell hrd
              injection e0 with e1 e2 e3
              subst e1
              clear e2 e3
              obtain ⟨R, hR⟩ : ∃ R, R = flatN ((ns.take 201).drop (k + 1)) ++ T := ⟨_, rfl⟩
              have hrd' : Rd O wr b (enc x ++ (fixF 8 x ++ R)) 0 := by rw [hR]; simpa [flatN, List.append_assoc] using hrd
              have HX := Lib.hid hx
              have HR := Lib.hid hR
              have HD := Lib.hid hrd'
              have HF := Lib.hid hfr
              clear hxe hx hrd hrd' hR hfr
              have hk0 : (0 : Int) ≤ (k : Int) := by omega
              have hk1 : (k : Int) < (ns.length : Int) := by omega
              go_wp2_with fail
              go_region_held (fun w' => w'.cell? ⟨bb, off + k, none⟩ = some (.int .u64 (x : Int))) (first | exact hcell | exact (hf6.cell hcell hbb) | exact hf7.cell (hf6.cell hcell hbb) hbb) (first
                | (go_at_call 17; refine (rNum_enc O b x _ _ (HD.out.non (Fr.drew _)) HX.out).mono ?_; rintro e w6 ⟨rfl, hr6, hf6⟩)
                | (go_at_call 21; refine (rFix_fix O b x _ _ hr6 HX.out).mono ?_; rintro e w7 ⟨rfl, hr7', hf7⟩))
              have hfr7 : Fr Non w1 w7 := ((HF.out.non (Fr.drew _)).new hf6 (fun i h => by have h1 : i = b := h; omega)).new hf7 (fun i h => by have h1 : i = b := h; omega)
              go_wp2
              · go_meet
                obtain rfl : k = 200 := by omega
                refine ⟨rfl, ?_, hfr7⟩
                have e : (ns.take 201).drop (200 + 1) = [] := List.drop_of_length_le (by rw [List.length_take]; omega)
                have := HR.out
                rw [e] at this
                have e2 : R = T := by rw [this]; rfl
                rw [← e2]
                exact hr7'
              · go_roundw
                case rel =>
                  refine ⟨k + 1, by omega, by omega, by go_num, ?_, hfr7⟩
                  rw [← HR.out]
                  exact hr7'
                case measure => simp [intOf]; omega
            · go_wp2_with fail
              go_meet
              refine ⟨rfl, ?_, hfr⟩
              have e : (ns.take 201).drop k = [] := List.drop_of_length_le (by rw [List.length_take]; omega)
              rw [e] at hrd
              exact hrd
        case rest =>
          obtain ⟨rfl, hrT, hfT⟩ := hcut
          rw [HT.out] at hrT
          clear hr7 hf17
          go_wp2_with fail
          go_loopw [92] (fun i wr => ∃ k : Nat, k ≤ ss.length ∧ i = .int .i64 k ∧ Rd O wr b (flatS (ss.drop k) ++ fixF q 9223372036854775808) 0 ∧ Fr Non w1 wr) (fun i _ => ss.length - (intOf i).toNat)
          case atStart => exact ⟨0, by omega, rfl, hrT, hfT⟩
          case round =>
            obtain ⟨k, hk, rfl, hrd, hfr⟩ := hrel
            by_cases hlt : k < ss.length
            · have hx : ss[k]!.size ≤ 10000 := HSM.out _ (by rw [getElem!_pos ss k hlt]; exact List.getElem_mem hlt)
              obtain ⟨bb, off, n', c', e0, -, hcell⟩ := run_at ((A1.out.non hf1).non hfr) k (.string ss[k]!) (by simp [hlt])
              have hcell0 : w.cell? ⟨bb, off + k, none⟩ = some (.string ss[k]!) := by
                obtain ⟨bb', off', n2, c2, e2, -, h2⟩ := run_at A1.out k (.string ss[k]!) (by simp [hlt])
                rw [e0] at e2
                injection e2 with e3 _ _
                injection e3 with e3
                injection e3 with e4 e5 _
                subst e4 e5
                exact h2
              have hbb : bb ≠ b := fun h => by have h1 := World.block_lt_of_cell? w _ hcell0; have h2 := hf1.size; simp only [] at h1; omega
              rw [drop_cons' ss k hlt] at hrd
              clear hcell0
              obtain ⟨x, hxe⟩ : ∃ x, x = ss[k]! := ⟨_, rfl⟩
              rw [← hxe] at hx hcell hrd
              injection e0 with e1 e2 e3
              subst e1
              clear e2 e3
              obtain ⟨R, hR⟩ : ∃ R, R = flatS (ss.drop (k + 1)) ++ fixF q 9223372036854775808 := ⟨_, rfl⟩
              have hrd' : Rd O wr b (encStr x.data.toList ++ R) 0 := by rw [hR]; simpa [flatS, List.append_assoc] using hrd
              have HX := Lib.hid hx
              have HR := Lib.hid hR
              have HD := Lib.hid hrd'
              have HF := Lib.hid hfr
              clear hxe hx hrd hrd' hR hfr hrT
              have hk0 : (0 : Int) ≤ (k : Int) := by omega
              have hk1 : (k : Int) < (ss.length : Int) := by omega
              go_wp2_with fail
              go_region_held (fun w' => w'.cell? ⟨bb, off + k, none⟩ = some (.string x)) (first | exact hcell | exact (hf6.cell hcell hbb)) (first
                | (go_at_call 19; refine (rStr_enc O b x _ _ (HD.out.non (Fr.drew _)) HX.out).mono ?_; rintro e w6 ⟨rfl, hr6, hf6⟩)
                | fail)
              go_wp2
              go_roundw
              case rel =>
                refine ⟨k + 1, by omega, by go_num, ?_, (HF.out.non (Fr.drew _)).new hf6 (fun i h => by have h1 : i = b := h; omega)⟩
                rw [← HR.out]
                exact hr6
              case measure => simp [intOf]; omega
            · have e : ss.drop k = [] := List.drop_of_length_le (by omega)
              rw [e] at hrd
              have hrd' : Rd O wr b (fixF q 9223372036854775808 ++ []) 0 := by rw [List.append_nil]; exact hrd
              clear hrd e
              go_wp2_with fail
              refine (rFix_any O b 0 wr _ q hrd').mono ?_
              rintro e w8 ⟨rfl, hr8, hf8⟩
              rw [fix_take q _ [] hq8] at hr8
              have H8 := Lib.hid hr8
              clear hr8
              go_wp2_with (go_at_call 25; refine (End_any O b _ w8 _ H8.out).mono ?_; rintro e w' ⟨rfl, rfl⟩)
              go_ret
              exact ⟨rfl, hf1.non (hfr.new hf8 (fun i h => by have h1 : i = b := h; omega))⟩

theorem nats_of_wf {k : IntKind} (hk : k.min = 0) (zs : List Int) (h : ∀ z ∈ zs, (Lit.int k z).wf = true) : ∃ ns : List Nat, zs.map (Value.int k) = ns.map (fun (n : Nat) => Value.int k (n : Int)) ∧ (∀ n ∈ ns, (n : Int) ≤ k.max) ∧ ns.length = zs.length := by
  refine ⟨zs.map Int.toNat, ?_, ?_, by simp⟩
  · rw [List.map_map]
    refine List.map_congr_left fun z hz => ?_
    have hw := h z hz
    simp only [Lit.wf, Bool.and_eq_true, decide_eq_true_eq, hk] at hw
    show Value.int k z = Value.int k ((z.toNat : Nat) : Int)
    congr 1
    omega
  · intro n hn
    obtain ⟨z, hz, rfl⟩ := List.mem_map.1 hn
    have hw := h z hz
    simp only [Lit.wf, Bool.and_eq_true, decide_eq_true_eq, hk] at hw
    omega

theorem backw (w : World) (v0 : Value) (zs : List Int) (v1 : Value) (ss : List ByteArray) (many : Nat) (hv0 : Row w v0 (zs.map (Value.int .u64))) (hz : ∀ z ∈ zs, (Lit.int .u64 z).wf = true) (hl0 : zs.length ≤ 140737488351232)
    (hv1 : Row w v1 (ss.map Value.string)) (_ : ∀ s ∈ ss, s.size ≤ maxLen) (hl1 : ss.length ≤ 140737488351232) (hmany : (many : Int) ≤ IntKind.u8.max) :
    Calls Try.prog 5 #[v0, v1, .int .u8 many] w fun e w' => e = .returned (.bool true) ∧ Fr Non w w' := by
  obtain ⟨ns, h1, h2, h3⟩ := nats_of_wf (by decide) zs hz
  rw [h1] at hv0
  have hmx : IntKind.u64.max = 18446744073709551615 := by decide
  have hm8 : IntKind.u8.max = 255 := by decide
  exact backw0 w v0 ns v1 ss many hv0 (fun n hn => by have := h2 n hn; omega) hv1 (by omega) (by omega) hl1
end Go.Proofs.Ytemmabjndbdhlaa
