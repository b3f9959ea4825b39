/- what is cut is told to be too short -/
import Derived.Test.YtemmabjndbdhlaaLaw01A
import Derived.Test.YtemmabjndbdhlaaCodecMath
namespace Go.Proofs.Ytemmabjndbdhlaa
open Go.ChangeShapes Go.WideShapes Go.ChangeAt Go.RowKit

theorem Row.hi {w : World} {a : Option Addr} {n c : Nat} {xs : List Value} (h : Row w (.slice a n c) xs) (k : Nat) (hk : k ≤ xs.length) : Row w (.slice a k c) (xs.take k) := by
  obtain ⟨a', c', e, q1, q2, q3, q4⟩ := h
  injection e with e1 e2 e3
  subst e1 e2 e3
  have hlen : (xs.take k).length = k := by simp; omega
  refine ⟨a, c, by rw [hlen], by rw [hlen]; omega, q2, q3, fun j hj => ?_⟩
  rw [hlen] at hj
  obtain ⟨b, off, rfl, hc⟩ := q4 j (by omega)
  refine ⟨b, off, rfl, fun i u hi => hc i u ?_⟩
  have hil := (List.getElem?_eq_some_iff.1 hi).1
  rw [hlen] at hil
  rwa [List.getElem?_take_of_lt hil] at hi

theorem rNum_stuck (O : Nat → Prop) (b : Nat) (f : Nat) (w : World) (l : List UInt8) (h : Rd O w b l f) (hf : f ≠ 0) :
    Calls Try.prog 17 #[.pointer (some ⟨b, 0, none⟩)] w fun e w' => e = .returned (.int .u64 0) ∧ w = w' := by
  have H := Lib.hid h
  clear h
  have hf0 : ((f : Int) != 0) = true := by simp; omega
  clear hf
  go_enter Try.func17, Try.ntmps17
  go_wp2_with (go_at_call 30; refine (stuck_any O _ _ _ _ H.out).mono ?_; rintro e w' ⟨rfl, rfl⟩)
  go_ret
  exact ⟨rfl, rfl⟩
theorem rStr_stuck (O : Nat → Prop) (b : Nat) (f : Nat) (w : World) (l : List UInt8) (most : Int) (h : Rd O w b l f) (hf : f ≠ 0) :
    Calls Try.prog 19 #[.pointer (some ⟨b, 0, none⟩), .int .i64 most] w fun e w' => e = .returned (.string ⟨#[]⟩) ∧ w = w' := by
  have H := Lib.hid h
  clear h
  have hf0 : ((f : Int) != 0) = true := by simp; omega
  clear hf
  go_enter Try.func19, Try.ntmps19
  go_wp2_with (go_at_call 30; refine (stuck_any O _ _ _ _ H.out).mono ?_; rintro e w' ⟨rfl, rfl⟩)
  go_ret
  exact ⟨rfl, rfl⟩
theorem rFix_stuck (O : Nat → Prop) (b : Nat) (f : Nat) (w : World) (l : List UInt8) (many : Int) (h : Rd O w b l f) (hf : f ≠ 0) :
    Calls Try.prog 21 #[.pointer (some ⟨b, 0, none⟩), .int .i64 many] w fun e w' => e = .returned (.int .u64 0) ∧ w = w' := by
  have H := Lib.hid h
  clear h
  have hf0 : ((f : Int) != 0) = true := by simp; omega
  clear hf
  go_enter Try.func21, Try.ntmps21
  go_wp2_with (go_at_call 30; refine (stuck_any O _ _ _ _ H.out).mono ?_; rintro e w' ⟨rfl, rfl⟩)
  go_ret
  exact ⟨rfl, rfl⟩

theorem dist_short (s : List UInt8) (at' : Nat) (hs : s.length < 18446744073709551616) (h : at' < (encStr s).length) : takeStr ((encStr s).take at') 0 s.length = ([], (encStr s).take at', 10) := by
  have hd : dist ((encStr s).take at') s.length = ([], 0, 10) := by
    unfold encStr at *
    rw [List.length_append] at h
    unfold dist
    by_cases h1 : at' < (enc s.length).length
    · rw [List.take_append_of_le_length (by omega), dec_short _ _ h1]
      rfl
    · rw [List.take_append, List.take_of_length_le (by omega), dec_back _ _ hs]
      simp only []
      rw [if_neg (by simp), if_neg (by omega), if_pos]
      simp
      omega
  unfold takeStr
  rw [if_pos rfl, hd]
  rfl
theorem num_short (n at' : Nat) (h : at' < (enc n).length) : takeNum ((enc n).take at') 0 = (0, (enc n).take at', 10) := by
  unfold takeNum
  rw [if_pos rfl, dec_short _ _ h]
  rfl
theorem fix_short (n at' : Nat) (h : at' < (fixF 8 n).length) : takeFix ((fixF 8 n).take at') 0 8 = (0, (fixF 8 n).take at', 10) := by
  have hl := fixF_length 8 n
  have e : unfixed ((fixF 8 n).take at') 8 = (0, 10) := by
    unfold unfixed
    rw [if_neg (by omega), if_pos (by rw [List.length_take]; omega)]
  unfold takeFix
  rw [if_pos rfl, e]
  rfl
theorem enc_pos (n : Nat) : 0 < (enc n).length := by
  unfold enc
  simp only [encF]
  split <;> simp

set_option maxRecDepth 100000 in
set_option maxHeartbeats 4000000 in
theorem shortw (w : World) (n : Nat) (s : ByteArray) (cut : Nat) (hn : (n : Int) ≤ IntKind.u64.max) (hs : s.size ≤ 140737488351232) (hc : (cut : Int) ≤ IntKind.u16.max) :
    Calls Try.prog 7 #[.int .u64 n, .string s, .int .u16 cut] w fun e w' => e = .returned (.bool true) ∧ Fr Non w w' := by
  have hmx : IntKind.u64.max = 18446744073709551615 := by decide
  have hmx2 : IntKind.u16.max = 65535 := by decide
  have hn' : n < 18446744073709551616 := by omega
  have hcut : cut ≤ 65535 := by omega
  have HN := Lib.hid hn'
  clear hmx hmx2 hn' hn hc
  by_cases hbig : 100000 < s.size
  · go_enter Try.func7, Try.ntmps7
    go_wp2_with (go_at_call 9; refine (shown_any w).mono ?_; rintro e w1 ⟨rfl, hf1⟩)
    go_ret
    exact ⟨rfl, hf1⟩
  · go_enter Try.func7, Try.ntmps7
    go_wp2_with fail
    refine (shown_any w).mono ?_
    rintro e w1 ⟨rfl, hf1⟩
    go_wp2_with fail
    refine (Num_any _ [] n w1 (Row.nil _) HN.out (by simp)).mono ?_
    rintro e w2 ⟨v2, rfl, ho2, hf2⟩
    go_wp2_with fail
    refine (Str_any _ [] s w2 (Row.nil _) (by simp; omega)).mono ?_
    rintro e w3 ⟨v3, rfl, ho3, hf3⟩
    go_wp2_with fail
    refine (Fix_any _ [] n 8 w3 (Row.nil _) HN.out (by simp)).mono ?_
    rintro e w4 ⟨v4, rfl, ho4, hf4⟩
    rw [List.nil_append] at ho2 ho3 ho4
    have r2 := ((ho2.row).non hf3).non hf4
    have r3 := (ho3.row).non hf4
    have r4 : Row w4 v4 (bs (fixF 8 n)) := ho4.row
    obtain ⟨a2, c2, rfl, -⟩ := id r2
    obtain ⟨a3, c3, rfl, -⟩ := id r3
    obtain ⟨a4, c4, rfl, -⟩ := id r4
    simp only [bs_length] at r2 r3 r4 ⊢
    have R2 := Lib.hid r2
    have R3 := Lib.hid r3
    have R4 := Lib.hid r4
    have hf14 : Fr Non w w4 := ((hf1.non hf2).non hf3).non hf4
    clear r2 r3 r4 ho2 ho3 ho4 hf1 hf2 hf3 hf4
    go_wp2_with fail
    go_loopw [26] (fun i wr => ∃ k : Nat, k ≤ 3 ∧ i = .int .i64 k ∧ Fr Non (w4.alloc (.cells #[.slice a2 (enc n).length c2, .slice a3 (encStr s.data.toList).length c3, .slice a4 (fixF 8 n).length c4] 22)) wr)
      (fun i _ => 3 - (intOf i).toNat)
    case atStart => exact ⟨0, by omega, rfl, Fr.refl _ _⟩
    case round =>
      obtain ⟨k, hk, rfl, hfr⟩ := hrel
      have hcells : wr.heap[w4.heap.size]? = some (.cells #[.slice a2 (enc n).length c2, .slice a3 (encStr s.data.toList).length c3, .slice a4 (fixF 8 n).length c4] 22 (0, 0)) := hfr.heap (heap_alloc_new w4 _) (fun h => h)
      rcases (show k = 0 ∨ k = 1 ∨ k = 2 ∨ k = 3 by omega) with rfl | rfl | rfl | rfl
      · -- round 0
        have hL : 0 < (enc n).length := enc_pos n
        have hLm : (enc n).length ≤ 200000 := by have := enc_length n; omega
        have hrow : Row wr (.slice a2 (enc n).length c2) (bs (enc n)) := (R2.out.non (Fr.alloc _ _)).non hfr
        have hsz : s.data.toList.length = s.size := rfl
        obtain ⟨L, hLe⟩ : ∃ L, L = enc n := ⟨_, rfl⟩
        rw [← hLe] at hL hLm hrow hcells
        obtain ⟨len, hlen⟩ : ∃ len, len = L.length := ⟨_, rfl⟩
        rw [← hlen] at hL hLm hrow hcells
        have HL := Lib.hid hLe
        have HN2 := Lib.hid hlen
        have c0 := (block_cells hcells 0).1
        have c0' : wr.cell? ⟨w4.heap.size, 0, none⟩ = some (.slice a2 len c2) := c0
        have HR := Lib.hid hrow
        have HF := Lib.hid hfr
        have HZ := Lib.hid hsz
        have hl0 : ((len : Int) == 0) = false := by simp; omega
        have hmod : (cut : Int) % (len : Int) = ((cut % len : Nat) : Int) := by omega
        have hat : cut % len < len := Nat.mod_lt _ hL
        obtain ⟨q, hq⟩ : ∃ q, q = cut % len := ⟨_, rfl⟩
        rw [← hq] at hmod hat
        have hcap : len ≤ c2 := by obtain ⟨a', c', e, q1, q2, -, -⟩ := hrow; injection e with e1 e2 e3; omega
        clear c0 hLe hlen hrow hfr hcells hq hsz
        go_wp2_with fail
        have hrq : Row wr (.slice a2 q c2) (bs (L.take q)) := by
          have := HR.out.hi q (by rw [bs_length]; have := HN2.out; omega)
          rwa [show (bs L).take q = bs (L.take q) by simp [bs, List.map_take]] at this
        refine (New_any _ _ _ hrq (by rw [List.length_take]; omega)).mono ?_
        rintro e w5 ⟨b, rfl, hb, hr5, hf5⟩
        clear hrq
        go_wp2_with fail
        refine (rNum_any _ b 0 w5 _ hr5).mono ?_
        rintro e w6 ⟨rfl, hr6, hf6⟩
        have E : takeNum (L.take q) 0 = (0, L.take q, 10) := by
          have h1 := HL.out
          have h2 := HN2.out
          subst h1
          exact num_short n q (by omega)
        rw [E] at hr6 ⊢
        have elq : (L.take q).length = q := by rw [List.length_take]; have := HN2.out; omega
        have eend : endOf (L.take q) 10 = 10 := rfl
        have HB : Hid (w4.heap.size + 1 ≤ b) := by have h1 := HF.out.size; simp at h1; show w4.heap.size + 1 ≤ b; omega
        have H6 := Lib.hid hr6
        clear E hr5 hr6
        go_wp2_with (first
          | (go_at_call 24; refine (Fault_any _ b _ w6 _ H6.out).mono ?_; rintro e w' ⟨rfl, rfl⟩)
          | (go_at_call 23; refine (Left_any _ b _ w6 _ H6.out).mono ?_; rintro e w' ⟨rfl, rfl⟩; rw [elq])
          | (go_at_call 25; refine (End_any _ b _ w6 _ H6.out).mono ?_; rintro e w' ⟨rfl, rfl⟩; rw [eend])
          | (go_at_call 17; refine (rNum_stuck _ b _ w6 _ H6.out (by decide)).mono ?_; rintro e w' ⟨rfl, rfl⟩)
          | (go_at_call 19; refine (rStr_stuck _ b _ w6 _ _ H6.out (by decide)).mono ?_; rintro e w' ⟨rfl, rfl⟩)
          | (go_at_call 21; refine (rFix_stuck _ b _ w6 _ _ H6.out (by decide)).mono ?_; rintro e w' ⟨rfl, rfl⟩))
        go_roundw
        case rel => exact ⟨0+1, by omega, rfl, (HF.out.non hf5).new hf6 (fun i h => by have h1 : i = b := h; have := HB.out; simp; omega)⟩
        case measure => simp [intOf]
      · -- round 1
        have hL : 0 < (encStr s.data.toList).length := by unfold encStr; have := enc_pos s.data.toList.length; rw [List.length_append]; omega
        have hLm : (encStr s.data.toList).length ≤ 200000 := by unfold encStr; rw [List.length_append]; have := enc_length s.data.toList.length; have e : s.data.toList.length = s.size := rfl; omega
        have hrow : Row wr (.slice a3 (encStr s.data.toList).length c3) (bs (encStr s.data.toList)) := (R3.out.non (Fr.alloc _ _)).non hfr
        have hsz : s.data.toList.length = s.size := rfl
        obtain ⟨L, hLe⟩ : ∃ L, L = encStr s.data.toList := ⟨_, rfl⟩
        rw [← hLe] at hL hLm hrow hcells
        obtain ⟨len, hlen⟩ : ∃ len, len = L.length := ⟨_, rfl⟩
        rw [← hlen] at hL hLm hrow hcells
        have HL := Lib.hid hLe
        have HN2 := Lib.hid hlen
        have c0 := (block_cells hcells 1).1
        have c0' : wr.cell? ⟨w4.heap.size, 1, none⟩ = some (.slice a3 len c3) := c0
        have HR := Lib.hid hrow
        have HF := Lib.hid hfr
        have HZ := Lib.hid hsz
        have hl0 : ((len : Int) == 0) = false := by simp; omega
        have hmod : (cut : Int) % (len : Int) = ((cut % len : Nat) : Int) := by omega
        have hat : cut % len < len := Nat.mod_lt _ hL
        obtain ⟨q, hq⟩ : ∃ q, q = cut % len := ⟨_, rfl⟩
        rw [← hq] at hmod hat
        have hcap : len ≤ c3 := by obtain ⟨a', c', e, q1, q2, -, -⟩ := hrow; injection e with e1 e2 e3; omega
        clear c0 hLe hlen hrow hfr hcells hq hsz
        go_wp2_with fail
        have hrq : Row wr (.slice a3 q c3) (bs (L.take q)) := by
          have := HR.out.hi q (by rw [bs_length]; have := HN2.out; omega)
          rwa [show (bs L).take q = bs (L.take q) by simp [bs, List.map_take]] at this
        refine (New_any _ _ _ hrq (by rw [List.length_take]; omega)).mono ?_
        rintro e w5 ⟨b, rfl, hb, hr5, hf5⟩
        clear hrq
        go_wp2_with fail
        refine (rStr_any _ b 0 w5 _ s.size hr5 (by omega)).mono ?_
        rintro e w6 ⟨rfl, hr6, hf6⟩
        have E : takeStr (L.take q) 0 s.size = ([], L.take q, 10) := by
          have h1 := HL.out
          have h2 := HN2.out
          subst h1
          rw [← HZ.out]; exact dist_short _ q (by rw [HZ.out]; omega) (by omega)
        rw [E] at hr6 ⊢
        have elq : (L.take q).length = q := by rw [List.length_take]; have := HN2.out; omega
        have eend : endOf (L.take q) 10 = 10 := rfl
        have HB : Hid (w4.heap.size + 1 ≤ b) := by have h1 := HF.out.size; simp at h1; show w4.heap.size + 1 ≤ b; omega
        have H6 := Lib.hid hr6
        clear E hr5 hr6
        go_wp2_with (first
          | (go_at_call 24; refine (Fault_any _ b _ w6 _ H6.out).mono ?_; rintro e w' ⟨rfl, rfl⟩)
          | (go_at_call 23; refine (Left_any _ b _ w6 _ H6.out).mono ?_; rintro e w' ⟨rfl, rfl⟩; rw [elq])
          | (go_at_call 25; refine (End_any _ b _ w6 _ H6.out).mono ?_; rintro e w' ⟨rfl, rfl⟩; rw [eend])
          | (go_at_call 17; refine (rNum_stuck _ b _ w6 _ H6.out (by decide)).mono ?_; rintro e w' ⟨rfl, rfl⟩)
          | (go_at_call 19; refine (rStr_stuck _ b _ w6 _ _ H6.out (by decide)).mono ?_; rintro e w' ⟨rfl, rfl⟩)
          | (go_at_call 21; refine (rFix_stuck _ b _ w6 _ _ H6.out (by decide)).mono ?_; rintro e w' ⟨rfl, rfl⟩))
        go_roundw
        case rel => exact ⟨1+1, by omega, rfl, (HF.out.non hf5).new hf6 (fun i h => by have h1 : i = b := h; have := HB.out; simp; omega)⟩
        case measure => simp [intOf]
      · -- round 2
        have hL : 0 < (fixF 8 n).length := by rw [fixF_length]; omega
        have hLm : (fixF 8 n).length ≤ 200000 := by rw [fixF_length]; omega
        have hrow : Row wr (.slice a4 (fixF 8 n).length c4) (bs (fixF 8 n)) := (R4.out.non (Fr.alloc _ _)).non hfr
        have hsz : s.data.toList.length = s.size := rfl
        obtain ⟨L, hLe⟩ : ∃ L, L = fixF 8 n := ⟨_, rfl⟩
        rw [← hLe] at hL hLm hrow hcells
        obtain ⟨len, hlen⟩ : ∃ len, len = L.length := ⟨_, rfl⟩
        rw [← hlen] at hL hLm hrow hcells
        have HL := Lib.hid hLe
        have HN2 := Lib.hid hlen
        have c0 := (block_cells hcells 2).1
        have c0' : wr.cell? ⟨w4.heap.size, 2, none⟩ = some (.slice a4 len c4) := c0
        have HR := Lib.hid hrow
        have HF := Lib.hid hfr
        have HZ := Lib.hid hsz
        have hl0 : ((len : Int) == 0) = false := by simp; omega
        have hmod : (cut : Int) % (len : Int) = ((cut % len : Nat) : Int) := by omega
        have hat : cut % len < len := Nat.mod_lt _ hL
        obtain ⟨q, hq⟩ : ∃ q, q = cut % len := ⟨_, rfl⟩
        rw [← hq] at hmod hat
        have hcap : len ≤ c4 := by obtain ⟨a', c', e, q1, q2, -, -⟩ := hrow; injection e with e1 e2 e3; omega
        clear c0 hLe hlen hrow hfr hcells hq hsz
        go_wp2_with fail
        have hrq : Row wr (.slice a4 q c4) (bs (L.take q)) := by
          have := HR.out.hi q (by rw [bs_length]; have := HN2.out; omega)
          rwa [show (bs L).take q = bs (L.take q) by simp [bs, List.map_take]] at this
        refine (New_any _ _ _ hrq (by rw [List.length_take]; omega)).mono ?_
        rintro e w5 ⟨b, rfl, hb, hr5, hf5⟩
        clear hrq
        go_wp2_with fail
        refine (rFix_any _ b 0 w5 _ 8 hr5).mono ?_
        rintro e w6 ⟨rfl, hr6, hf6⟩
        have E : takeFix (L.take q) 0 8 = (0, L.take q, 10) := by
          have h1 := HL.out
          have h2 := HN2.out
          subst h1
          exact fix_short n q (by omega)
        rw [E] at hr6 ⊢
        have elq : (L.take q).length = q := by rw [List.length_take]; have := HN2.out; omega
        have eend : endOf (L.take q) 10 = 10 := rfl
        have HB : Hid (w4.heap.size + 1 ≤ b) := by have h1 := HF.out.size; simp at h1; show w4.heap.size + 1 ≤ b; omega
        have H6 := Lib.hid hr6
        clear E hr5 hr6
        go_wp2_with (first
          | (go_at_call 24; refine (Fault_any _ b _ w6 _ H6.out).mono ?_; rintro e w' ⟨rfl, rfl⟩)
          | (go_at_call 23; refine (Left_any _ b _ w6 _ H6.out).mono ?_; rintro e w' ⟨rfl, rfl⟩; rw [elq])
          | (go_at_call 25; refine (End_any _ b _ w6 _ H6.out).mono ?_; rintro e w' ⟨rfl, rfl⟩; rw [eend])
          | (go_at_call 17; refine (rNum_stuck _ b _ w6 _ H6.out (by decide)).mono ?_; rintro e w' ⟨rfl, rfl⟩)
          | (go_at_call 19; refine (rStr_stuck _ b _ w6 _ _ H6.out (by decide)).mono ?_; rintro e w' ⟨rfl, rfl⟩)
          | (go_at_call 21; refine (rFix_stuck _ b _ w6 _ _ H6.out (by decide)).mono ?_; rintro e w' ⟨rfl, rfl⟩))
        go_roundw
        case rel => exact ⟨2+1, by omega, rfl, (HF.out.non hf5).new hf6 (fun i h => by have h1 : i = b := h; have := HB.out; simp; omega)⟩
        case measure => simp [intOf]
      · have HF := Lib.hid hfr
        clear hfr hcells
        go_wp2
        go_ret
        exact ⟨rfl, (hf14.non (Fr.alloc _ _)).non HF.out⟩
end Go.Proofs.Ytemmabjndbdhlaa
