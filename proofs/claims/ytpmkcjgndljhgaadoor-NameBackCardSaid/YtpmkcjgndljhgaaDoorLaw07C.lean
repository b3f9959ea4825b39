/- layer 7: a name leads back -/
import Derived.Test.YtpmkcjgndljhgaaDoorLaw07A
import Derived.Test.YtpmkcjgndljhgaaDoorShell
namespace Go.Proofs.YtpmkcjgndljhgaaDoor
open Go.ChangeShapes Go.WideShapes Go.ChangeAt Go.RowKit

theorem ba_eq {l m : List UInt8} : (⟨l.toArray⟩ : ByteArray) = ⟨m.toArray⟩ ↔ l = m := by
  constructor
  · intro h
    injection h with h
    injection h
  · rintro rfl; rfl
set_option maxHeartbeats 2000000 in
/-- P7.5 -/
theorem back7_any {T : World → Prop} (C : NameC T) (W : World) (zs : List Int) (m n : Nat) (hT : T W) (hl : zs.length = 2) (hw : ∀ z ∈ zs, (Lit.int .u8 z).wf = true) (hm : (m : Int) ≤ 18446744073709551615) (hn : (n : Int) ≤ 18446744073709551615) :
    Calls Tryd.prog 5 #[.agg (zs.map (Value.int .u8)).toArray, .int .u64 m, .int .u64 n] W fun e W' => e = .returned (.bool true) ∧ Fr Non W W' := by
  match zs, hl with
  | [z0, z1], _ =>
  obtain ⟨p, rfl, hp⟩ := nat_of_wf (hw z0 (by simp)) (by decide)
  obtain ⟨q, rfl, hq⟩ := nat_of_wf (hw z1 (by simp)) (by decide)
  have hp : (p : Int) ≤ 255 := hp
  have hq : (q : Int) ≤ 255 := hq
  clear hw
  have HN := Lib.hid (nmName_once (a := p % 3 + 1) (b := q % 3 + 1) (m := m) (n := n) (by omega) (by omega) (by omega) (by omega))
  have HI := Lib.hid (nmName_is (a := p % 3 + 1) (m := m) (by omega) (by omega))
  have HB := Lib.hid (And.intro (And.intro hp hq) (And.intro hm hn))
  have hlen : (nmName (p % 3 + 1) m).length ≤ 29 := by
    have h1 := digs_length_le 6 20 m (by omega) (by omega)
    have h2 : p % 3 + 1 = 1 ∨ p % 3 + 1 = 2 ∨ p % 3 + 1 = 3 := by omega
    rcases h2 with h | h | h <;> rw [h] <;> simp [nmName, nmLog, nmTab, nmMan] <;> omega
  have HLN := Lib.hid hlen
  have HT := Lib.hid hT
  clear hT hp hq hm hn hlen
  rw [show (List.map (Value.int .u8) [(p : Int), (q : Int)]).toArray = #[.int .u8 p, .int .u8 q] from rfl]
  go_enter Tryd.func5, Tryd.ntmps5
  go_wp2_with fail
  have hb := Blk.new W 29 [.int .u8 (p : Int), .int .u8 (q : Int)]
  have hf0 := Fr.alloc W (.cells #[.int .u8 (p : Int), .int .u8 (q : Int)] 29)
  change Calls _ _ _ (W.alloc (.cells #[.int .u8 (p : Int), .int .u8 (q : Int)] 29)) _
  change Blk (W.alloc (.cells #[.int .u8 (p : Int), .int .u8 (q : Int)] 29)) _ _ _ at hb
  generalize W.alloc (.cells #[.int .u8 (p : Int), .int .u8 (q : Int)] 29) = w0 at hb hf0 ⊢
  refine (shown7_any C _ (C.tf HT.out hf0)).mono ?_
  rintro e w1 ⟨rfl, hf1⟩
  have F1 := Lib.hid (hf0.non hf1)
  have hc0 := ((hb.non hf1).at 0 _ rfl).1
  have hc1 := ((hb.non hf1).at 1 _ rfl).1
  clear hf1 hf0 hb
  go_upto_region 2 with (fail)
  go_region
  rw [show ((p : Int) % 3 + 1) = ((p % 3 + 1 : Nat) : Int) by omega, show ((q : Int) % 3 + 1) = ((q % 3 + 1 : Nat) : Int) by omega]
  have ha : p % 3 + 1 ≤ 3 := by omega
  have hb : q % 3 + 1 ≤ 3 := by omega
  clear hc0 hc1
  generalize p % 3 + 1 = a at HN HI HLN ha ⊢
  generalize q % 3 + 1 = b at HN hb ⊢
  have F2 := Lib.hid (F1.out.non (Fr.drew _))
  generalize w1.drew = w2 at F2 ⊢
  clear F1
  go_wp2_with fail
  refine (C.name a m _ (by omega) (by have := HB.out.2.1; omega) (C.tf HT.out F2.out)).mono ?_
  rintro e w3 ⟨rfl, hf3⟩
  have F3 := Lib.hid (F2.out.non hf3)
  clear hf3 F2
  have HD : Hid (∀ l, (⟨(nmName a m).toArray⟩ : ByteArray) = ⟨l.toArray⟩ ↔ nmName a m = l) := Lib.hid (fun l => ba_eq)
  have HDl : Hid ((⟨(nmName a m).toArray⟩ : ByteArray).data.toList = nmName a m) := Lib.hid rfl
  have hDs : (⟨(nmName a m).toArray⟩ : ByteArray).size ≤ 140737488355328 := by have h1 := HLN.out; have h2 : (⟨(nmName a m).toArray⟩ : ByteArray).size = (nmName a m).length := rfl; omega
  generalize (⟨(nmName a m).toArray⟩ : ByteArray) = D at HD HDl hDs ⊢
  go_wp2_with fail
  refine (C.name b n _ (by omega) (by have := HB.out.2.2; omega) (C.tf HT.out F3.out)).mono ?_
  rintro e w4 ⟨rfl, hf4⟩
  have F4 := Lib.hid (F3.out.non hf4)
  clear hf4 F3
  have HE : Hid (D = ⟨(nmName b n).toArray⟩ ↔ a = b ∧ m = n) := Lib.hid ((HD.out _).trans HN.out)
  generalize (⟨(nmName b n).toArray⟩ : ByteArray) = E at HE ⊢
  go_wp2_with fail
  refine (C.parse D _ hDs (C.tf HT.out F4.out)).mono ?_
  rintro e w5 ⟨⟨k5, n5, b5, rfl, hp5⟩, hf5⟩
  rw [HDl.out] at hp5
  obtain ⟨rfl, rfl, rfl⟩ := hp5.once (.inl ⟨rfl, HI.out⟩)
  have F5 := Lib.hid (F4.out.non hf5)
  clear hf5 F4 hp5 HI HLN HD HDl HN
  by_cases hab : k5 = b
  · by_cases hmn : n5 = n
    · have hDE := HE.out.mpr ⟨hab, hmn⟩
      clear HE
      subst hab hmn hDE
      go_wp2_with fail
      go_ret
      exact ⟨rfl, F5.out⟩
    · have hDE := beq_toList_ne (fun h => hmn (HE.out.mp h).2)
      have hi : ((n5 : Int) == (n : Int)) = false := by simp; omega
      subst hab
      clear HE hmn
      go_wp2_with fail
      go_ret
      exact ⟨rfl, F5.out⟩
  · have hDE := beq_toList_ne (fun h => hab (HE.out.mp h).1)
    have hi : ((k5 : Int) == (b : Int)) = false := by simp; omega
    clear HE hab
    go_wp2_with fail
    go_ret
    exact ⟨rfl, F5.out⟩
end Go.Proofs.YtpmkcjgndljhgaaDoor
