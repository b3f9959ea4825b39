/- the document's examples (the head of all statements of layer 1), and a nil reader -/
import Derived.Test.YtemmabjndbdhlaaCodecRead
namespace Go.Proofs.Ytemmabjndbdhlaa
open Go.ChangeShapes Go.WideShapes Go.ChangeAt Go.RowKit

theorem Row.nil (w : World) : Row w (.slice none 0 0) [] := ⟨none, 0, rfl, Nat.le_refl _, Nat.zero_le _, fun _ => rfl, fun j hj => absurd hj (by simp)⟩

theorem Row.built (w : World) (us : List Value) (e n : Nat) (hn : us.length = n) (hm : n ≤ maxLen) : Row (w.alloc (.cells us.toArray e)) (.slice (some ⟨w.heap.size, 0, none⟩) n n) us := by
  subst hn
  refine ⟨_, us.length, rfl, Nat.le_refl _, hm, (by intro h; cases h), fun j hj => ⟨w.heap.size, 0, rfl, fun i u hi => ?_⟩⟩
  have hb : (w.alloc (.cells us.toArray e)).heap[w.heap.size]? = some (.cells us.toArray e) := heap_alloc_new w _
  rw [(block_cells hb _).1]
  simpa using hi
theorem Off.own {S : Nat → Prop} {v : Value} (h : ∀ k, v.ownBlock = some k → ¬ S k) : Off S v := by
  intro b off n c e
  subst e
  exact h b rfl

set_option maxRecDepth 100000 in
theorem shown_any (w : World) : Calls Try.prog 9 #[] w fun e w' => e = .returned (.bool true) ∧ Fr Non w w' := by
  go_enter Try.func9, Try.ntmps9
  go_wp2_with fail
  refine (Num_any (.slice none 0 0) [] 300 w (Row.nil w) (by omega) (by simp)).mono ?_
  rintro e w1 ⟨v1, rfl, ho1, hf1⟩
  go_wp2_with fail
  refine (Str_any v1 _ _ w1 ho1.row (by decide +kernel)).mono ?_
  rintro e w2 ⟨v2, rfl, ho2, hf2⟩
  go_wp2_with fail
  refine (Fix_any v2 _ 258 3 w2 ho2.row (by omega) (by decide +kernel)).mono ?_
  rintro e w3 ⟨v3, rfl, ho3, hf3⟩
  go_wp2_with fail
  refine (New_any v3 _ w3 ho3.row (by decide +kernel)).mono ?_
  rintro e w4 ⟨b4, rfl, hb4, hr4, hf4⟩
  go_wp2_with fail
  have hL : ([] ++ enc 300 ++ encStr (⟨#[97, 98]⟩ : ByteArray).data.toList ++ fixF (clamp8 3) 258) = [172, 2, 2, 97, 98, 2, 1, 0] := by decide +kernel
  have hL' : ([] ++ enc 300 ++ encStr [97, 98] ++ fixF (clamp8 3) 258) = [172, 2, 2, 97, 98, 2, 1, 0] := hL
  rw [hL'] at hr4 ho3
  clear hL hL' ho1 ho2
  have hz3 := Own.lt ho3
  have hrow3 := ho3.row
  clear ho3
  have hrowB := Row.built w4 (bs [128, 0]) 5 2 rfl (by unfold maxLen; omega)
  refine (New_any _ [128, 0] _ hrowB (by decide +kernel)).mono ?_
  rintro e w5 ⟨b5, rfl, hb5, hr5, hf5⟩
  have hf45 : Fr Non w4 w5 := (Fr.alloc w4 _).non hf5
  clear hrowB
  have hr45 := hr4.non hf45
  have hb4lt : b4 < w4.heap.size := hr4.2.1
  have hb5' : w4.heap.size < b5 := by have := hb5; simp at this; omega
  clear hr4 hb5
  go_wp2_with fail
  refine (rNum_any _ b4 0 w5 _ hr45).mono ?_
  rintro e w6 ⟨rfl, hr6, hf6⟩
  have e6 : takeNum [172, 2, 2, 97, 98, 2, 1, 0] 0 = (300, [2, 97, 98, 2, 1, 0], 0) := by decide +kernel
  rw [e6] at hr6 ⊢
  clear e6 hr45
  go_wp2_with fail
  refine (rStr_any _ b4 0 w6 _ 2 hr6 (by omega)).mono ?_
  rintro e w7 ⟨rfl, hr7, hf7⟩
  have e7 : takeStr [2, 97, 98, 2, 1, 0] 0 2 = ([97, 98], [2, 1, 0], 0) := by decide +kernel
  rw [e7] at hr7 ⊢
  clear e7 hr6
  go_wp2_with fail
  refine (rFix_any _ b4 0 w7 _ 3 hr7).mono ?_
  rintro e w8 ⟨rfl, hr8, hf8⟩
  have e8 : takeFix [2, 1, 0] 0 3 = (258, [], 0) := by decide +kernel
  rw [e8] at hr8 ⊢
  clear e8 hr7
  have hf58 : Fr (One b4) w5 w8 := (hf6.trans hf7 (fun _ h => h) (fun _ h => .inl h)).trans hf8 (fun _ h => h) (fun _ h => .inl h)
  have hoff3 : Off (One b4) v3 := Off.own (fun k hk h => by have := hz3 k hk; have : k = b4 := h; omega)
  have hrow8 : Row w8 v3 (bs [172, 2, 2, 97, 98, 2, 1, 0]) := ((hrow3.non hf4).non hf45).frame hf58 hoff3
  have hstr := run_str (P := Try.prog) w8 22 9 5 v3 _ hrow8 Try.underlying22 Try.underlying5 Try.underlying9
  have hr58 := hr5.frame hf58 (fun k hk h => by have h1 : k = b4 := h; have := hk.1; simp at this; omega)
  clear hrow8 hrow3 hoff3 hz3 hr5
  have H8 := Lib.hid hr8
  have HS := Lib.hid hr58
  clear hr8 hr58
  go_wp2_with (go_at_call 25; refine (End_any _ b4 _ w8 _ H8.out).mono ?_; rintro e w' ⟨rfl, rfl⟩)
  refine (rNum_any _ b5 0 w8 _ HS.out).mono ?_
  rintro e w9 ⟨rfl, hr9, hf9⟩
  have e9 : takeNum [128, 0] 0 = (0, [128, 0], 11) := by decide +kernel
  rw [e9] at hr9 ⊢
  clear e9
  have H9 := Lib.hid hr9
  clear hr9
  go_wp2_with (go_at_call 24; refine (Fault_any _ b5 _ w9 _ H9.out).mono ?_; rintro e w' ⟨rfl, rfl⟩)
  go_ret
  refine ⟨rfl, ?_⟩
  have hsz : w.heap.size ≤ w3.heap.size := ((hf1.non hf2).non hf3).size
  have hw5 : Fr Non w w5 := (((hf1.non hf2).non hf3).non hf4).non hf45
  exact (hw5.new hf58 (fun i h => by have : i = b4 := h; omega)).new hf9 (fun i h => by have h1 : i = b5 := h; have h2 := hf4.size; omega)

/-- a nil reader has nothing -/
theorem nilw (w : World) (m : Int) (_ : IntKind.i64.min ≤ m ∧ m ≤ IntKind.i64.max) : Calls Try.prog 8 #[.int .i64 m] w fun e w' => e = .returned (.bool true) ∧ Fr Non w w' := by
  go_enter Try.func8, Try.ntmps8
  go_wp2_with fail
  refine (shown_any w).mono ?_
  rintro e w1 ⟨rfl, hf⟩
  go_wp2_with (first
    | (go_at_call 17; refine (rNum_nil _).mono ?_; rintro e w' ⟨rfl, rfl⟩)
    | (go_at_call 19; refine (rStr_nil _ _).mono ?_; rintro e w' ⟨rfl, rfl⟩)
    | (go_at_call 21; refine (rFix_nil _ _).mono ?_; rintro e w' ⟨rfl, rfl⟩)
    | (go_at_call 23; refine (Left_nil _).mono ?_; rintro e w' ⟨rfl, rfl⟩)
    | (go_at_call 24; refine (Fault_nil _).mono ?_; rintro e w' ⟨rfl, rfl⟩)
    | (go_at_call 25; refine (End_nil _).mono ?_; rintro e w' ⟨rfl, rfl⟩))
  go_ret
  exact ⟨rfl, hf⟩
end Go.Proofs.Ytemmabjndbdhlaa
