/- the document's digest: a block -/
import Derived.Test.YtajknmapggkmnaaDoorShaRefA
namespace Go.Proofs.YtajknmapggkmnaaDoor
open Go.ChangeShapes Go.WideShapes Go.ChangeAt Go.RowKit

def KAt (w : World) (g : Nat) : Prop := ∀ i, i < 64 → w.cell? ⟨g, i, none⟩ = some (.int .u32 (shaK[i]! : Int))
theorem KAt.frame {w w' : World} {g : Nat} (h : KAt w g) {S : Nat → Prop} (f : Fr S w w') (hn : ¬ S g) : KAt w' g := fun i hi => f.cell (h i hi) hn
def St8.val (s : St8) : Value := .agg #[.int .u32 s.a, .int .u32 s.b, .int .u32 s.c, .int .u32 s.d, .int .u32 s.e, .int .u32 s.f, .int .u32 s.g, .int .u32 s.h]

/-- a block that holds a state -/
def SB (w : World) (B : Nat) (s : St8) : Prop := w.heap[B]? = some (.cells #[.int .u32 s.a, .int .u32 s.b, .int .u32 s.c, .int .u32 s.d, .int .u32 s.e, .int .u32 s.f, .int .u32 s.g, .int .u32 s.h] 55 (0, 0))
theorem SB.frame {w w' : World} {B : Nat} {s : St8} (h : SB w B s) {S : Nat → Prop} (f : Fr S w w') (hn : ¬ S B) : SB w' B s := f.heap h hn
theorem SB.cells {w : World} {B : Nat} {s : St8} (h : SB w B s) :
    (w.cell? ⟨B, 0, none⟩ = some (.int .u32 s.a) ∧ w.cell? ⟨B, 1, none⟩ = some (.int .u32 s.b) ∧ w.cell? ⟨B, 2, none⟩ = some (.int .u32 s.c) ∧ w.cell? ⟨B, 3, none⟩ = some (.int .u32 s.d) ∧
      w.cell? ⟨B, 4, none⟩ = some (.int .u32 s.e) ∧ w.cell? ⟨B, 5, none⟩ = some (.int .u32 s.f) ∧ w.cell? ⟨B, 6, none⟩ = some (.int .u32 s.g) ∧ w.cell? ⟨B, 7, none⟩ = some (.int .u32 s.h)) := by
  have h1 := fun j => (block_cells h j).1
  exact ⟨h1 0, h1 1, h1 2, h1 3, h1 4, h1 5, h1 6, h1 7⟩
theorem SB.frozen {w : World} {B : Nat} {s : St8} (h : SB w B s) (j : Nat) : w.frozen? ⟨B, j, none⟩ = false := (block_cells h j).2

theorem SB.store {w : World} {X : Nat} {s : St8} (h : SB w X s) (y0 y1 y2 y3 y4 y5 y6 y7 : Nat) :
    SB ((((((((w.setCell ⟨X, 0, none⟩ (.int .u32 y0)).setCell ⟨X, 1, none⟩ (.int .u32 y1)).setCell ⟨X, 2, none⟩ (.int .u32 y2)).setCell ⟨X, 3, none⟩ (.int .u32 y3)).setCell ⟨X, 4, none⟩ (.int .u32 y4)).setCell ⟨X, 5, none⟩ (.int .u32 y5)).setCell ⟨X, 6, none⟩ (.int .u32 y6)).setCell ⟨X, 7, none⟩ (.int .u32 y7)) X ⟨y0, y1, y2, y3, y4, y5, y6, y7⟩ ∧
    Fr (One X) w ((((((((w.setCell ⟨X, 0, none⟩ (.int .u32 y0)).setCell ⟨X, 1, none⟩ (.int .u32 y1)).setCell ⟨X, 2, none⟩ (.int .u32 y2)).setCell ⟨X, 3, none⟩ (.int .u32 y3)).setCell ⟨X, 4, none⟩ (.int .u32 y4)).setCell ⟨X, 5, none⟩ (.int .u32 y5)).setCell ⟨X, 6, none⟩ (.int .u32 y6)).setCell ⟨X, 7, none⟩ (.int .u32 y7)) := by
  constructor
  · have h0 := heap_setCell w X 0 _ _ _ (.int .u32 y0) h
    have h1 := heap_setCell _ X 1 _ _ _ (.int .u32 y1) h0
    have h2 := heap_setCell _ X 2 _ _ _ (.int .u32 y2) h1
    have h3 := heap_setCell _ X 3 _ _ _ (.int .u32 y3) h2
    have h4 := heap_setCell _ X 4 _ _ _ (.int .u32 y4) h3
    have h5 := heap_setCell _ X 5 _ _ _ (.int .u32 y5) h4
    have h6 := heap_setCell _ X 6 _ _ _ (.int .u32 y6) h5
    have h7 := heap_setCell _ X 7 _ _ _ (.int .u32 y7) h6
    simp only [List.setIfInBounds_toArray, List.set_cons_zero, List.set_cons_succ] at h7
    exact h7
  · have t : ∀ {a b : World} (_ : Fr (One X) a b) (k : Nat) (u : Value), Fr (One X) a (b.setCell ⟨X, k, none⟩ u) := fun h k u => h.trans (Fr.setCell _ ⟨X, k, none⟩ u) (fun _ h => h) (fun _ h => .inl h)
    exact t (t (t (t (t (t (t (t (Fr.refl _ _) 0 _) 1 _) 2 _) 3 _) 4 _) 5 _) 6 _) 7 _
theorem not32 (x : Nat) (hx : x < 4294967296) : bits BinOp.xor IntKind.u32 IntKind.u32.max (x : Int) = ((4294967295 - x : Nat) : Int) := by
  rw [show IntKind.u32.max = ((4294967295 : Nat) : Int) from by decide, u32_xor_nat 4294967295 x (by omega) hx]
  have h1 : (BitVec.allOnes 32 ^^^ BitVec.ofNat 32 x).toNat = 4294967295 ^^^ x := by
    rw [BitVec.toNat_xor, BitVec.toNat_ofNat, Nat.mod_eq_of_lt hx]; rfl
  have h2 : (BitVec.allOnes 32 ^^^ BitVec.ofNat 32 x).toNat = 4294967295 - x := by
    rw [BitVec.allOnes_xor, BitVec.toNat_not, BitVec.toNat_ofNat, Nat.mod_eq_of_lt hx]
  rw [← h1, h2]
/-- the sum, place by place, as far as k -/
def St8.mix (x s : St8) (k : Nat) : List Nat := (List.range 8).map fun i => if i < k then (x.list[i]! + s.list[i]!) % 4294967296 else x.list[i]!
theorem mix_0 (x s : St8) : x.mix s 0 = x.list := rfl
theorem mix_8 (x s : St8) : x.mix s 8 = (x.plus s).list := rfl
theorem mix_at (x s : St8) (k : Nat) (h : k < 8) : (x.mix s k)[k]! = x.list[k]! := by
  rcases (show k = 0 ∨ k = 1 ∨ k = 2 ∨ k = 3 ∨ k = 4 ∨ k = 5 ∨ k = 6 ∨ k = 7 by omega) with rfl | rfl | rfl | rfl | rfl | rfl | rfl | rfl <;> rfl
theorem mix_set (x s : St8) (k : Nat) (h : k < 8) : (x.mix s k).set k ((x.list[k]! + s.list[k]!) % 4294967296) = x.mix s (k + 1) := by
  rcases (show k = 0 ∨ k = 1 ∨ k = 2 ∨ k = 3 ∨ k = 4 ∨ k = 5 ∨ k = 6 ∨ k = 7 by omega) with rfl | rfl | rfl | rfl | rfl | rfl | rfl | rfl <;> rfl
theorem mix_length (x s : St8) (k : Nat) : (x.mix s k).length = 8 := by simp [St8.mix]
theorem list_lt {x : St8} (h : x.ok) : ∀ k : Nat, x.list[k]! < 4294967296 := by
  obtain ⟨h0, h1, h2, h3, h4, h5, h6, h7⟩ := h
  refine get_lt ?_
  simp only [St8.list, List.mem_cons, List.not_mem_nil, or_false, forall_eq_or_imp, forall_eq]
  exact ⟨h0, h1, h2, h3, h4, h5, h6, h7⟩
/-- a block that holds words -/
def LB (w : World) (B : Nat) (l : List Nat) : Prop := w.heap[B]? = some (.cells (us l).toArray 55 (0, 0))
theorem LB.at {w : World} {B : Nat} {l : List Nat} (h : LB w B l) (k : Nat) (hk : k < l.length) : w.cell? ⟨B, k, none⟩ = some (.int .u32 (l[k]! : Int)) ∧ w.frozen? ⟨B, k, none⟩ = false := by
  refine ⟨?_, (block_cells h k).2⟩
  rw [(block_cells h k).1]
  simpa using us_at l k hk
theorem LB.set {w : World} {B : Nat} {l : List Nat} (h : LB w B l) (k x : Nat) : LB (w.setCell ⟨B, k, none⟩ (.int .u32 (x : Int))) B (l.set k x) := by
  have := heap_setCell w B k _ _ _ (.int .u32 (x : Int)) h
  unfold LB
  rw [this]
  simp [us, List.map_set]
theorem LB.of {w : World} {B : Nat} {s : St8} (h : SB w B s) : LB w B s.list := h
theorem SB.of {w : World} {B : Nat} {s : St8} (h : LB w B s.list) : SB w B s := h
theorem tEq (x0 x1 x2 x3 x4 x5 x6 x7 r q : Nat) (o4 : x4 < 4294967296) (o5 : x5 < 4294967296) (o6 : x6 < 4294967296) :
    (((x7 : Int) + bits BinOp.xor IntKind.u32 (bits BinOp.xor IntKind.u32 ((rotr 6 x4 : Nat) : Int) ((rotr 11 x4 : Nat) : Int)) ((rotr 25 x4 : Nat) : Int) + bits BinOp.xor IntKind.u32 (bits BinOp.and IntKind.u32 (x4 : Int) (x5 : Int)) (bits BinOp.and IntKind.u32 (bits BinOp.xor IntKind.u32 IntKind.u32.max (x4 : Int)) (x6 : Int)) + (r : Int)) % 4294967296 + (q : Int)) % 4294967296
      = ((shaT ⟨x0, x1, x2, x3, x4, x5, x6, x7⟩ r q : Nat) : Int) := by
  have e1 : bits BinOp.xor IntKind.u32 (bits BinOp.and IntKind.u32 (x4 : Int) (x5 : Int)) (bits BinOp.and IntKind.u32 (bits BinOp.xor IntKind.u32 IntKind.u32.max (x4 : Int)) (x6 : Int)) = ((sha_ch x4 x5 x6 : Nat) : Int) := by
    rw [not32 x4 o4, u32_and_nat _ _ o4 o5, u32_and_nat _ _ (by omega) o6, u32_xor_nat _ _ (and_lt32 o4) (and_lt32 (by omega))]
    rfl
  rw [e1, xorSS1 x4 o4]
  unfold shaT
  dsimp only
  generalize sha_S1 x4 = A
  generalize sha_ch x4 x5 x6 = C
  omega
theorem uEq (x0 x1 x2 x3 x4 x5 x6 x7 : Nat) (o0 : x0 < 4294967296) (o1 : x1 < 4294967296) (o2 : x2 < 4294967296) :
    (bits BinOp.xor IntKind.u32 (bits BinOp.xor IntKind.u32 ((rotr 2 x0 : Nat) : Int) ((rotr 13 x0 : Nat) : Int)) ((rotr 22 x0 : Nat) : Int) + bits BinOp.xor IntKind.u32 (bits BinOp.xor IntKind.u32 (bits BinOp.and IntKind.u32 (x0 : Int) (x1 : Int)) (bits BinOp.and IntKind.u32 (x0 : Int) (x2 : Int))) (bits BinOp.and IntKind.u32 (x1 : Int) (x2 : Int))) % 4294967296
      = ((shaU ⟨x0, x1, x2, x3, x4, x5, x6, x7⟩ : Nat) : Int) := by
  have e1 : bits BinOp.xor IntKind.u32 (bits BinOp.xor IntKind.u32 (bits BinOp.and IntKind.u32 (x0 : Int) (x1 : Int)) (bits BinOp.and IntKind.u32 (x0 : Int) (x2 : Int))) (bits BinOp.and IntKind.u32 (x1 : Int) (x2 : Int)) = ((sha_mj x0 x1 x2 : Nat) : Int) := by
    rw [u32_and_nat _ _ o0 o1, u32_and_nat _ _ o0 o2, u32_and_nat _ _ o1 o2, u32_xor_nat _ _ (and_lt32 o0) (and_lt32 o0), u32_xor_nat _ _ (xor_lt32 (and_lt32 o0) (and_lt32 o0)) (and_lt32 o1)]
    rfl
  rw [e1, xorSS0 x0 o0]
  unfold shaU
  dsimp only
  generalize sha_S0 x0 = A
  generalize sha_mj x0 x1 x2 = C
  omega

set_option maxRecDepth 100000 in
set_option maxHeartbeats 4000000 in
theorem block_any (s : St8) (v : Value) (l : List UInt8) (w : World) (hs : s.ok) (hv : Row w v (bs l)) (hl : 64 ≤ l.length) (hK : KAt w 1) :
    Calls Tryd.prog 29 #[.agg #[.int .u32 s.a, .int .u32 s.b, .int .u32 s.c, .int .u32 s.d, .int .u32 s.e, .int .u32 s.f, .int .u32 s.g, .int .u32 s.h], v] w fun e w' => e = .returned (shaBlock s l).val ∧ Fr Non w w' := by
  obtain ⟨a, b, c, d, e, f, g, h⟩ := s
  have HV := Lib.hid hv
  have HK := Lib.hid hK
  have HS := Lib.hid hs
  clear hv hK hs
  go_enter Tryd.func29, Tryd.ntmps29
  go_wp2_with fail
  refine (words_any v l _ ((HV.out.non (Fr.alloc _ _)).non (Fr.alloc _ _)) hl).mono ?_
  rintro e w1 ⟨v1, rfl, ho, hf⟩
  obtain ⟨gw, cw, rfl, hg, -⟩ := ho.form (by rw [us_length, shaWords_length]; omega)
  rw [us_length, shaWords_length] at ho ⊢
  have hA : SB w1 w.heap.size ⟨a, b, c, d, e, f, g, h⟩ := by
    refine hf.heap ?_ (fun h => h)
    exact (Fr.alloc _ _).heap (heap_alloc_new w _) (fun h => h)
  have HB : Hid (SB w1 (w.heap.size + 1) ⟨0, 0, 0, 0, 0, 0, 0, 0⟩) := by
    refine hf.heap ?_ (fun h => h)
    have := heap_alloc_new (w.alloc (.cells #[.int .u32 a, .int .u32 b, .int .u32 c, .int .u32 d, .int .u32 e, .int .u32 f, .int .u32 g, .int .u32 h] 55)) (.cells #[.int .u32 0, .int .u32 0, .int .u32 0, .int .u32 0, .int .u32 0, .int .u32 0, .int .u32 0, .int .u32 0] 55)
    simpa using this
  have hsz : w.heap.size + 2 ≤ w1.heap.size := by have := hf.size; simp at this; omega
  have hf1 : Fr Non w w1 := ((Fr.alloc w _).non (Fr.alloc _ _)).non hf
  obtain ⟨a0, a1, a2, a3, a4, a5, a6, a7⟩ := hA.cells
  have HA := Lib.hid hA
  have HO := Lib.hid ho
  clear hf ho hA
  go_wp2_with fail
  have hX := heap_alloc_new w1 (.cells #[.int .u32 a, .int .u32 b, .int .u32 c, .int .u32 d, .int .u32 e, .int .u32 f, .int .u32 g, .int .u32 h] 55)
  have hf2 := Fr.alloc w1 (.cells #[.int .u32 a, .int .u32 b, .int .u32 c, .int .u32 d, .int .u32 e, .int .u32 f, .int .u32 g, .int .u32 h] 55)
  have hX2 : SB (w1.alloc (.cells #[.int .u32 a, .int .u32 b, .int .u32 c, .int .u32 d, .int .u32 e, .int .u32 f, .int .u32 g, .int .u32 h] 55)) w1.heap.size ⟨a, b, c, d, e, f, g, h⟩ := hX
  generalize w1.alloc (.cells #[.int .u32 a, .int .u32 b, .int .u32 c, .int .u32 d, .int .u32 e, .int .u32 f, .int .u32 g, .int .u32 h] 55) = w2 at hf2 hX2 ⊢
  have hgw : gw < w1.heap.size := (HO.out.lt gw rfl).2
  have hWl := shaWords_length l
  have hWt := shaWords_lt l
  have HE : Hid (shaBlock ⟨a, b, c, d, e, f, g, h⟩ l = (shaRounds ⟨a, b, c, d, e, f, g, h⟩ (shaWords l) 64).plus ⟨a, b, c, d, e, f, g, h⟩) := Lib.hid rfl
  generalize shaWords l = W at HO hWl hWt HE
  obtain ⟨X, hXe⟩ : ∃ X, X = w1.heap.size := ⟨_, rfl⟩
  rw [← hXe] at hX2 hsz hgw ⊢
  have HW := Lib.hid (And.intro hWl hWt)
  have HX := Lib.hid hXe
  have HF1 := Lib.hid hf1
  have HF2 := Lib.hid hf2
  clear hX hWl hWt hXe hf1 hf2 a0 a1 a2 a3 a4 a5 a6 a7
  go_loopw [7] (fun i wr => ∃ k : Nat, k ≤ 64 ∧ i = .int .i64 k ∧ SB wr X (shaRounds ⟨a, b, c, d, e, f, g, h⟩ W k) ∧ Fr (One X) w2 wr) (fun i _ => 64 - (intOf i).toNat)
  case atStart => exact ⟨0, by omega, rfl, hX2, Fr.refl _ _⟩
  case round =>
    obtain ⟨k, hk, rfl, hsb, hfr⟩ := hrel
    have HF := Lib.hid hfr
    clear hfr
    by_cases hlt : k < 64
    · have hkO := HO.out
      have hW := HW.out
      have hwk : wr.cell? ⟨gw, k, none⟩ = some (.int .u32 (W[k]! : Int)) := HF.out.cell (HF2.out.cell ((HO.out.cellAt k _ (us_at _ _ (by rw [hW.1]; omega))).1) (fun h => h)) (fun h => by have h1 : gw = X := h; omega)
      have hKk : wr.cell? ⟨1, k, none⟩ = some (.int .u32 (shaK[k]! : Int)) := HF.out.cell (HF2.out.cell (HF1.out.cell (HK.out k hlt) (fun h => h)) (fun h => h)) (fun h => by have h1 : 1 = X := h; omega)
      have hbw := get_lt hW.2 k
      have hbK := shaK_lt k hlt
      have hok : (shaRounds ⟨a, b, c, d, e, f, g, h⟩ W k).ok := shaRounds_ok HS.out W k
      have HR : Hid (shaRounds ⟨a, b, c, d, e, f, g, h⟩ W (k + 1) = shaRound (shaRounds ⟨a, b, c, d, e, f, g, h⟩ W k) shaK[k]! W[k]!) := Lib.hid rfl
      clear hkO hW
      generalize W[k]! = q at hwk hbw HR
      generalize shaK[k]! = r at hKk hbK HR
      generalize shaRounds ⟨a, b, c, d, e, f, g, h⟩ W k = s at hsb hok HR
      obtain ⟨x0, x1, x2, x3, x4, x5, x6, x7⟩ := s
      obtain ⟨c0, c1, c2, c3, c4, c5, c6, c7⟩ := hsb.cells
      obtain ⟨o0, o1, o2, o3, o4, o5, o6, o7⟩ := hok
      simp only at c0 c1 c2 c3 c4 c5 c6 c7 o0 o1 o2 o3 o4 o5 o6 o7
      have hsg : IntKind.u32.signed = false := by decide
      have z0 : (0 : Int) ≤ (k : Int) := by omega
      have z1 : (k : Int) < 64 := by omega
      have HSB := Lib.hid hsb
      clear hsb
      go_wp2
      go_quiet ((go_at_call 34; exact Calls.quiet_of (turn_any _ _ _ o4 (by omega) (by omega))))
      rw [tEq x0 x1 x2 x3 x4 x5 x6 x7 r q o4 o5 o6]
      have hT : shaT ⟨x0, x1, x2, x3, x4, x5, x6, x7⟩ r q < 4294967296 := Nat.mod_lt _ (by omega)
      have hR2 : shaRounds ⟨a, b, c, d, e, f, g, h⟩ W (k + 1) = ⟨(shaT ⟨x0, x1, x2, x3, x4, x5, x6, x7⟩ r q + shaU ⟨x0, x1, x2, x3, x4, x5, x6, x7⟩) % 4294967296, x0, x1, x2, (x3 + shaT ⟨x0, x1, x2, x3, x4, x5, x6, x7⟩ r q) % 4294967296, x4, x5, x6⟩ := HR.out
      generalize shaT ⟨x0, x1, x2, x3, x4, x5, x6, x7⟩ r q = T at hT hR2 ⊢
      have f2 := Fr.drewN wr nq
      generalize wr.drewN nq = w3 at f2 ⊢
      have HSB3 : Hid (SB w3 X ⟨x0, x1, x2, x3, x4, x5, x6, x7⟩) := Lib.hid (HSB.out.frame f2 (fun h => h))
      have HF3 : Hid (Fr (One X) w2 w3) := Lib.hid (HF.out.thenNon f2)
      have HR2 := Lib.hid hR2
      clear c0 c1 c2 c3 c4 c5 c6 c7 hwk hKk HR hR2 HSB HF f2
      obtain ⟨c0, c1, c2, c3, c4, c5, c6, c7⟩ := HSB3.out.cells
      simp only at c0 c1 c2 c3 c4 c5 c6 c7
      go_wp2
      go_quiet ((go_at_call 34; exact Calls.quiet_of (turn_any _ _ _ o0 (by omega) (by omega))))
      rw [uEq x0 x1 x2 x3 x4 x5 x6 x7 o0 o1 o2]
      have hU : shaU ⟨x0, x1, x2, x3, x4, x5, x6, x7⟩ < 4294967296 := Nat.mod_lt _ (by omega)
      have hR2 := HR2.out
      generalize shaU ⟨x0, x1, x2, x3, x4, x5, x6, x7⟩ = U at hU hR2 ⊢
      have f2 := Fr.drewN w3 nq
      generalize w3.drewN nq = w4 at f2 ⊢
      have HSB4 : Hid (SB w4 X ⟨x0, x1, x2, x3, x4, x5, x6, x7⟩) := Lib.hid (HSB3.out.frame f2 (fun h => h))
      have HF4 : Hid (Fr (One X) w2 w4) := Lib.hid (HF3.out.thenNon f2)
      have HR3 := Lib.hid hR2
      clear c0 c1 c2 c3 c4 c5 c6 c7 HR2 hR2 HSB3 HF3 f2
      obtain ⟨c0, c1, c2, c3, c4, c5, c6, c7⟩ := HSB4.out.cells
      simp only at c0 c1 c2 c3 c4 c5 c6 c7
      have fz := fun j => HSB4.out.frozen j
      have fz0 := fz 0
      have fz1 := fz 1
      have fz2 := fz 2
      have fz3 := fz 3
      have fz4 := fz 4
      have fz5 := fz 5
      have fz6 := fz 6
      have fz7 := fz 7
      clear fz
      go_wp2
      go_roundw
      case rel =>
        have e1 : ((T : Int) + (U : Int)) % 4294967296 = (((T + U) % 4294967296 : Nat) : Int) := by omega
        have e2 : ((x3 : Int) + (T : Int)) % 4294967296 = (((x3 + T) % 4294967296 : Nat) : Int) := by omega
        have hst := HSB4.out.store ((T + U) % 4294967296) x0 x1 x2 ((x3 + T) % 4294967296) x4 x5 x6
        refine ⟨k + 1, by omega, by go_num, ?_, ?_⟩
        · rw [HR3.out, e1, e2]; exact hst.1
        · rw [e1, e2]; exact HF4.out.trans hst.2 (fun _ h => h) (fun _ h => .inl h)
      case measure => simp [intOf]; omega
    · have e64 : k = 64 := by omega
      have hok : (shaRounds ⟨a, b, c, d, e, f, g, h⟩ W k).ok := shaRounds_ok HS.out W k
      have he := HE.out
      rw [← e64] at he
      clear e64 HE
      generalize shaRounds ⟨a, b, c, d, e, f, g, h⟩ W k = x at hsb hok he
      have HE2 := Lib.hid he
      have HOK := Lib.hid hok
      have hx0 : LB wr X (x.mix ⟨a, b, c, d, e, f, g, h⟩ 0) := by rw [mix_0]; exact LB.of hsb
      clear hsb he hok
      have HX0 := Lib.hid hx0
      clear hx0
      go_wp2
      go_loopw [10] (fun i wq => ∃ k : Nat, k ≤ 8 ∧ i = .int .i64 k ∧ LB wq X (x.mix ⟨a, b, c, d, e, f, g, h⟩ k) ∧ Fr (One X) w2 wq) (fun i _ => 8 - (intOf i).toNat)
      case atStart => exact ⟨0, by omega, rfl, HX0.out, HF.out⟩
      case round =>
        obtain ⟨k, hk, rfl, hlb, hfr⟩ := hrel
        have HFQ := Lib.hid hfr
        have HLB := Lib.hid hlb
        clear hlb hfr
        by_cases hlt : k < 8
        · obtain ⟨cx, fx⟩ := HLB.out.at k (by rw [mix_length]; exact hlt)
          rw [mix_at _ _ _ hlt] at cx
          have hsA : LB _ w.heap.size (St8.list ⟨a, b, c, d, e, f, g, h⟩) := LB.of ((HA.out.frame HF2.out (fun h => h)).frame HFQ.out (fun h => by have h1 : w.heap.size = X := h; omega))
          obtain ⟨ca, -⟩ := hsA.at k (by simpa [St8.list] using hlt)
          have HM := Lib.hid (mix_set x ⟨a, b, c, d, e, f, g, h⟩ k hlt)
          have bx := list_lt HOK.out k
          have ba := list_lt HS.out k
          generalize (St8.list ⟨a, b, c, d, e, f, g, h⟩)[k]! = ya at ca ba HM
          generalize x.list[k]! = yx at cx bx HM
          have z0 : (0 : Int) ≤ (k : Int) := by omega
          have z1 : (k : Int) < 8 := by omega
          have hne : ¬ w.heap.size = X := by omega
          clear hsA
          go_wp2
          go_region
          all_goals go_wp2
          go_roundw
          case rel =>
            have e : ((yx : Int) + (ya : Int)) % 4294967296 = (((yx + ya) % 4294967296 : Nat) : Int) := by omega
            refine ⟨k + 1, by omega, by go_num, ?_, ?_⟩
            · rw [e]
              show LB (wr.setCell ⟨X, k, none⟩ _) X _
              rw [← HM.out]
              exact HLB.out.set k _
            · exact (HFQ.out.trans (Fr.setCell wr ⟨X, k, none⟩ _) (fun _ h => h) (fun _ h => .inl h)).thenNon (Fr.drew _)
          case measure => simp [intOf]; omega
        · have e8 : k = 8 := by omega
          have hlb := HLB.out
          rw [e8, mix_8] at hlb
          have hsb := SB.of hlb
          have he2 := HE2.out
          clear hlb HLB e8 HE2
          generalize x.plus ⟨a, b, c, d, e, f, g, h⟩ = y at hsb he2
          have HE3 := Lib.hid he2
          clear he2
          have hyb : SB wr (w.heap.size + 1) ⟨0, 0, 0, 0, 0, 0, 0, 0⟩ := (HB.out.frame HF2.out (fun h => h)).frame HFQ.out (fun h => by have h1 : w.heap.size + 1 = X := h; omega)
          obtain ⟨c0, c1, c2, c3, c4, c5, c6, c7⟩ := hsb.cells
          obtain ⟨d0, d1, d2, d3, d4, d5, d6, d7⟩ := hyb.cells
          have f0 := hyb.frozen 0
          have f1 := hyb.frozen 1
          have f2 := hyb.frozen 2
          have f3 := hyb.frozen 3
          have f4 := hyb.frozen 4
          have f5 := hyb.frozen 5
          have f6 := hyb.frozen 6
          have f7 := hyb.frozen 7
          have HYB := Lib.hid hyb
          clear hsb hyb
          obtain ⟨y0, y1, y2, y3, y4, y5, y6, y7⟩ := y
          simp only at c0 c1 c2 c3 c4 c5 c6 c7 d0 d1 d2 d3 d4 d5 d6 d7
          go_wp2
          have hst := HYB.out.store y0 y1 y2 y3 y4 y5 y6 y7
          clear c0 c1 c2 c3 c4 c5 c6 c7 d0 d1 d2 d3 d4 d5 d6 d7 f0 f1 f2 f3 f4 f5 f6 f7
          generalize ((((((((wr.setCell ⟨w.heap.size + 1, 0, none⟩ (.int .u32 y0)).setCell ⟨w.heap.size + 1, 1, none⟩ (.int .u32 y1)).setCell ⟨w.heap.size + 1, 2, none⟩ (.int .u32 y2)).setCell ⟨w.heap.size + 1, 3, none⟩ (.int .u32 y3)).setCell ⟨w.heap.size + 1, 4, none⟩ (.int .u32 y4)).setCell ⟨w.heap.size + 1, 5, none⟩ (.int .u32 y5)).setCell ⟨w.heap.size + 1, 6, none⟩ (.int .u32 y6)).setCell ⟨w.heap.size + 1, 7, none⟩ (.int .u32 y7)) = w9 at hst ⊢
          obtain ⟨hs9, hf9⟩ := hst
          obtain ⟨c0, c1, c2, c3, c4, c5, c6, c7⟩ := hs9.cells
          simp only at c0 c1 c2 c3 c4 c5 c6 c7
          refine bodyPost_ret (v := .agg #[.int .u32 y0, .int .u32 y1, .int .u32 y2, .int .u32 y3, .int .u32 y4, .int .u32 y5, .int .u32 y6, .int .u32 y7]) (by simp [results, Tryd.results29, go_sem, c0, c1, c2, c3, c4, c5, c6, c7]) rfl ⟨by rw [HE3.out]; rfl, ?_⟩
          have hz := HX.out
          exact ((HF1.out.non HF2.out).new HFQ.out (fun i h => by have h1 : i = X := h; omega)).new hf9 (fun i h => by have h1 : i = w.heap.size + 1 := h; omega)
end Go.Proofs.YtajknmapggkmnaaDoor
