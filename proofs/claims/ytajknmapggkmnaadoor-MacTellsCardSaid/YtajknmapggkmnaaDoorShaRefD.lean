/- the document's digest -/
import Derived.Test.YtajknmapggkmnaaDoorShaRefC
import Derived.Deep.MidRow
import Derived.Deep.RegionWith
import Derived.Deep.DeepCutAuto
namespace Go.Proofs.YtajknmapggkmnaaDoor
open Go.ChangeShapes Go.WideShapes Go.ChangeAt Go.RowKit

/-- a block that holds a digest -/
def DB (w : World) (B : Nat) (l : List UInt8) : Prop := w.heap[B]? = some (.cells (bs l).toArray 25 (0, 0))
theorem LB.frame' {w w' : World} {B : Nat} {l : List Nat} (h : LB w B l) {S : Nat → Prop} (f : Fr S w w') (hn : ¬ S B) : LB w' B l := f.heap h hn
def zero32 : List UInt8 := List.replicate 32 0
theorem DB.frame {w w' : World} {B : Nat} {l : List UInt8} (h : DB w B l) {S : Nat → Prop} (f : Fr S w w') (hn : ¬ S B) : DB w' B l := f.heap h hn
theorem DB.new (w : World) : DB (w.alloc (.cells #[.int .u8 0, .int .u8 0, .int .u8 0, .int .u8 0, .int .u8 0, .int .u8 0, .int .u8 0, .int .u8 0, .int .u8 0, .int .u8 0, .int .u8 0, .int .u8 0, .int .u8 0, .int .u8 0, .int .u8 0, .int .u8 0, .int .u8 0, .int .u8 0, .int .u8 0, .int .u8 0, .int .u8 0, .int .u8 0, .int .u8 0, .int .u8 0, .int .u8 0, .int .u8 0, .int .u8 0, .int .u8 0, .int .u8 0, .int .u8 0, .int .u8 0, .int .u8 0] 25)) w.heap.size zero32 := heap_alloc_new w _
theorem DB.at {w : World} {B : Nat} {l : List UInt8} (h : DB w B l) (k : Nat) (hk : k < l.length) : w.cell? ⟨B, k, none⟩ = some (.int .u8 (l[k]!.toNat : Int)) ∧ w.frozen? ⟨B, k, none⟩ = false := by
  refine ⟨?_, (block_cells h k).2⟩
  rw [(block_cells h k).1]
  simp [bs, hk]
theorem DB.set {w : World} {B : Nat} {l : List UInt8} (h : DB w B l) (k : Nat) (c : UInt8) : DB (w.setCell ⟨B, k, none⟩ (.int .u8 (c.toNat : Int))) B (l.set k c) := by
  have := heap_setCell w B k _ _ _ (.int .u8 (c.toNat : Int)) h
  unfold DB
  rw [this]
  simp [← bs_set]
theorem DB.range {w : World} {B : Nat} {l : List UInt8} (h : DB w B l) : w.rangeAt B 0 (bs l) := fun j v hv => by
  rw [(block_cells h (0 + j)).1]
  simpa using hv
theorem DB.there {w : World} {B : Nat} {l : List UInt8} (h : DB w B l) : w.there B 0 l.length := fun j hj => by
  obtain ⟨h1, h2⟩ := h.at j hj
  rw [Nat.zero_add]
  exact ⟨by rw [h1]; rfl, h2⟩

theorem block_lit (s : St8) (v : Value) (l : List UInt8) (w : World) (hs : s.ok) (hv : Row w v (bs l)) (hl : 64 ≤ l.length) (hK : KAt w 1) :
    Calls Tryd.prog 29 #[.agg #[.int .u32 s.a, .int .u32 s.b, .int .u32 s.c, .int .u32 s.d, .int .u32 s.e, .int .u32 s.f, .int .u32 s.g, .int .u32 s.h], v] w fun e w' => e = .returned (.agg #[.int .u32 (shaBlock s l).a, .int .u32 (shaBlock s l).b, .int .u32 (shaBlock s l).c, .int .u32 (shaBlock s l).d, .int .u32 (shaBlock s l).e, .int .u32 (shaBlock s l).f, .int .u32 (shaBlock s l).g, .int .u32 (shaBlock s l).h]) ∧ Fr Non w w' :=
  (block_any s v l w hs hv hl hK).mono fun _ _ h => ⟨h.1.trans rfl, h.2⟩
theorem Fr.setCells (b : Nat) : ∀ (vs : List Value) (w : World) (o : Nat), Fr (One b) w (w.setCells b o vs)
  | [], _, _ => Fr.refl _ _
  | v :: vs, w, o => (Fr.setCell w ⟨b, o, none⟩ v).trans (Fr.setCells b vs (w.setCell ⟨b, o, none⟩ v) (o + 1)) (fun _ h => h) (fun _ h => .inl h)
/-- a word's four bytes -/
def word4 (n : Nat) : List UInt8 := [UInt8.ofNat (n / 16777216 % 256), UInt8.ofNat (n / 65536 % 256), UInt8.ofNat (n / 256 % 256), UInt8.ofNat (n % 256)]
theorem word4_be (n : Nat) : beBytes 4 n = word4 n := by
  simp only [beBytes, word4, List.nil_append, Nat.div_div_eq_div_mul, Nat.reduceMul]
  rfl
/-- the digest as far as j words -/
def digL (s : St8) (j : Nat) : List UInt8 := (s.list.take j).flatMap word4 ++ List.replicate (32 - 4 * j) 0
theorem digL_8 (s : St8) : digL s 8 = s.bytes := by
  unfold St8.bytes
  simp only [word4_be]
  rfl
theorem digL_set (s : St8) (j : Nat) (h : j < 8) :
    ((((digL s j).set (4 * j) (UInt8.ofNat (s.list[j]! / 16777216 % 256))).set (4 * j + 1) (UInt8.ofNat (s.list[j]! / 65536 % 256))).set (4 * j + 2) (UInt8.ofNat (s.list[j]! / 256 % 256))).set (4 * j + 3) (UInt8.ofNat (s.list[j]! % 256)) = digL s (j + 1) := by
  rcases (show j = 0 ∨ j = 1 ∨ j = 2 ∨ j = 3 ∨ j = 4 ∨ j = 5 ∨ j = 6 ∨ j = 7 by omega) with rfl | rfl | rfl | rfl | rfl | rfl | rfl | rfl <;> rfl
theorem digL_length (s : St8) (j : Nat) (h : j ≤ 8) : (digL s j).length = 32 := by
  rcases (show j = 0 ∨ j = 1 ∨ j = 2 ∨ j = 3 ∨ j = 4 ∨ j = 5 ∨ j = 6 ∨ j = 7 ∨ j = 8 by omega) with rfl | rfl | rfl | rfl | rfl | rfl | rfl | rfl | rfl <;> rfl

set_option maxRecDepth 100000 in
set_option maxHeartbeats 1000000 in
theorem refSum_big (v : Value) (l : List UInt8) (w : World) (hv : Row w v (bs l)) (hl : l.length ≤ 140737488355000) (hK : KAt w 1) :
    Calls Tryd.prog 22 #[v] w fun e w' => e = .returned (.agg (bs (sha l)).toArray) ∧ Fr Non w w' := by
  have HV := Lib.hid hv
  have hKs : 1 < w.heap.size := World.block_lt_of_cell? _ _ (hK 0 (by omega))
  have HK := Lib.hid hK
  have HKs := Lib.hid hKs
  clear hv hK hKs
  go_enter Tryd.func22, Tryd.ntmps22
  go_wp2_with fail
  have hd0 := DB.new w
  have hf0 := Fr.alloc w (.cells #[.int .u8 0, .int .u8 0, .int .u8 0, .int .u8 0, .int .u8 0, .int .u8 0, .int .u8 0, .int .u8 0, .int .u8 0, .int .u8 0, .int .u8 0, .int .u8 0, .int .u8 0, .int .u8 0, .int .u8 0, .int .u8 0, .int .u8 0, .int .u8 0, .int .u8 0, .int .u8 0, .int .u8 0, .int .u8 0, .int .u8 0, .int .u8 0, .int .u8 0, .int .u8 0, .int .u8 0, .int .u8 0, .int .u8 0, .int .u8 0, .int .u8 0, .int .u8 0] 25)
  have hs0 : (w.alloc (.cells #[.int .u8 0, .int .u8 0, .int .u8 0, .int .u8 0, .int .u8 0, .int .u8 0, .int .u8 0, .int .u8 0, .int .u8 0, .int .u8 0, .int .u8 0, .int .u8 0, .int .u8 0, .int .u8 0, .int .u8 0, .int .u8 0, .int .u8 0, .int .u8 0, .int .u8 0, .int .u8 0, .int .u8 0, .int .u8 0, .int .u8 0, .int .u8 0, .int .u8 0, .int .u8 0, .int .u8 0, .int .u8 0, .int .u8 0, .int .u8 0, .int .u8 0, .int .u8 0] 25)).heap.size = w.heap.size + 1 := by simp
  generalize w.alloc (.cells #[.int .u8 0, .int .u8 0, .int .u8 0, .int .u8 0, .int .u8 0, .int .u8 0, .int .u8 0, .int .u8 0, .int .u8 0, .int .u8 0, .int .u8 0, .int .u8 0, .int .u8 0, .int .u8 0, .int .u8 0, .int .u8 0, .int .u8 0, .int .u8 0, .int .u8 0, .int .u8 0, .int .u8 0, .int .u8 0, .int .u8 0, .int .u8 0, .int .u8 0, .int .u8 0, .int .u8 0, .int .u8 0, .int .u8 0, .int .u8 0, .int .u8 0, .int .u8 0] 25) = w0 at hd0 hf0 hs0 ⊢
  refine (padded_any v l _ (HV.out.non hf0) hl).mono ?_
  rintro e w1 ⟨v1, rfl, ho, hf⟩
  have HD1 : Hid (DB w1 w.heap.size zero32) := Lib.hid (hd0.frame hf (fun h => h))
  have HF1 : Hid (Fr Non w w1) := Lib.hid (hf0.non hf)
  have hz1 : w.heap.size + 1 ≤ w1.heap.size := by have := hf.size; omega
  have hmod := shaPad_mod l.length
  obtain ⟨n, hn⟩ : ∃ n, n = (l.length + (shaPad l.length).length) / 64 := ⟨_, rfl⟩
  have HE : Hid (sha l = (shaRun n shaInit (l ++ shaPad l.length)).bytes) := Lib.hid (by rw [hn]; rfl)
  have hPl : (l ++ shaPad l.length).length = 64 * n := by rw [List.length_append]; omega
  generalize l ++ shaPad l.length = p at HE hPl ho
  have hlen := run_lenRow (P := Tryd.prog) ho.row 22 5 Tryd.underlying22
  obtain ⟨N, hN⟩ : ∃ N, N = 64 * n := ⟨_, rfl⟩
  rw [← hN] at hPl
  rw [bs_length, hPl] at hlen
  have hPl2 := ho.row.le
  rw [bs_length, hPl] at hPl2
  unfold maxLen at hPl2
  have HO := Lib.hid ho
  have HPL := Lib.hid hPl
  have HN := Lib.hid hN
  clear hd0 hf0 hs0 hf ho hmod hn hPl hN
  go_wp2_with fail
  have hsb0 : SB (w1.alloc (.cells #[.int .u32 1779033703, .int .u32 3144134277, .int .u32 1013904242, .int .u32 2773480762, .int .u32 1359893119, .int .u32 2600822924, .int .u32 528734635, .int .u32 1541459225] 55)) w1.heap.size shaInit := heap_alloc_new w1 _
  have hf2 := Fr.alloc w1 (.cells #[.int .u32 1779033703, .int .u32 3144134277, .int .u32 1013904242, .int .u32 2773480762, .int .u32 1359893119, .int .u32 2600822924, .int .u32 528734635, .int .u32 1541459225] 55)
  generalize w1.alloc (.cells #[.int .u32 1779033703, .int .u32 3144134277, .int .u32 1013904242, .int .u32 2773480762, .int .u32 1359893119, .int .u32 2600822924, .int .u32 528734635, .int .u32 1541459225] 55) = w2 at hsb0 hf2 ⊢
  obtain ⟨X, hX⟩ : ∃ X, X = w1.heap.size := ⟨_, rfl⟩
  rw [← hX] at hsb0 hz1 ⊢
  have HX := Lib.hid hX
  have HF2 := Lib.hid hf2
  clear hX hf2
  go_loopw [5] (fun i wr => ∃ k m : Nat, m = 64 * k ∧ k ≤ n ∧ i = .int .i64 m ∧ SB wr X (shaRun k shaInit p) ∧ Fr (One X) w2 wr) (fun i _ => N - (intOf i).toNat)
  case atStart => exact ⟨0, 0, rfl, Nat.zero_le _, rfl, hsb0, Fr.refl _ _⟩
  case round =>
    obtain ⟨k, m, hm, hk, rfl, hsb, hfr⟩ := hrel
    have HF := Lib.hid hfr
    have HM := Lib.hid hm
    have hok : (shaRun k shaInit p).ok := shaRun_ok k shaInit_ok p
    have HRS := Lib.hid (shaRun_snoc k shaInit p)
    have hmk : m = 64 * k := hm
    clear hfr hm
    by_cases hlt : k < n
    · have hm64 : m + 64 ≤ N := by have := HN.out; omega
      have hmn : (m : Int) < (N : Int) := by omega
      clear hmk
      have hrow : Row wr v1 (bs p) := (HO.out.row.non HF2.out).frame HF.out (Off.own (fun i h => fun h2 => by
        have h1 := (HO.out.lt i h).2
        have h3 : i = X := h2
        have := HX.out
        omega))
      obtain ⟨vs, hsl, hvs, -⟩ := run_sub (P := Tryd.prog) hrow 22 5 Tryd.underlying22 (by kernel_rfl) .i64 .i64 (m : Int) ((m : Int) + 64) m (m + 64) rfl (by omega) (by omega) (by rw [bs_length, HPL.out]; omega)
      have hvs2 : Row wr vs (bs ((p.drop m).take 64)) := by
        rw [show m + 64 - m = 64 by omega] at hvs
        simpa [bs, List.map_take, List.map_drop] using hvs
      have hql : 64 ≤ ((p.drop m).take 64).length := by rw [List.length_take, List.length_drop, HPL.out]; omega
      have hR : shaRun (k + 1) shaInit p = shaBlock (shaRun k shaInit p) ((p.drop m).take 64) := by rw [HM.out]; exact HRS.out
      have hKr : KAt wr 1 := ((HK.out.frame HF1.out (fun h => h)).frame HF2.out (fun h => h)).frame HF.out (fun h => by have h1 : 1 = X := h; have := HKs.out; omega)
      generalize (p.drop m).take 64 = q at hvs2 hql hR
      generalize shaRun k shaInit p = s at hsb hok hR
      obtain ⟨x0, x1, x2, x3, x4, x5, x6, x7⟩ := s
      have HSB := Lib.hid hsb
      have HVS := Lib.hid hvs2
      have HQL := Lib.hid hql
      have HR := Lib.hid hR
      have HOK := Lib.hid hok
      have HKR := Lib.hid hKr
      have hw : IntKind.i64.wrap ((m : Int) + 64) = (m : Int) + 64 := IntWalk.i64_in _ (by omega)
      clear hrow hvs hvs2 hql hR hsb hok hKr
      go_wp2_with fail
      obtain ⟨c0, c1, c2, c3, c4, c5, c6, c7⟩ := HSB.out.cells
      simp only at c0 c1 c2 c3 c4 c5 c6 c7
      go_region_with (first
        | (go_at_call 29; refine (block_lit ⟨x0, x1, x2, x3, x4, x5, x6, x7⟩ vs q _ HOK.out (HVS.out.non (Fr.drew _)) HQL.out (HKR.out.frame (Fr.drew _) (fun h => h))).mono ?_; rintro e w5 ⟨rfl, hf5⟩; have hs5 := HSB.out.frame ((Fr.drew _).non hf5) (fun h => h); obtain ⟨d0, d1, d2, d3, d4, d5, d6, d7⟩ := hs5.cells; have f0 := hs5.frozen 0; have f1 := hs5.frozen 1; have f2 := hs5.frozen 2; have f3 := hs5.frozen 3; have f4 := hs5.frozen 4; have f5 := hs5.frozen 5; have f6 := hs5.frozen 6; have f7 := hs5.frozen 7))
      all_goals
        have hst := hs5.store (shaBlock ⟨x0, x1, x2, x3, x4, x5, x6, x7⟩ q).a (shaBlock ⟨x0, x1, x2, x3, x4, x5, x6, x7⟩ q).b (shaBlock ⟨x0, x1, x2, x3, x4, x5, x6, x7⟩ q).c (shaBlock ⟨x0, x1, x2, x3, x4, x5, x6, x7⟩ q).d (shaBlock ⟨x0, x1, x2, x3, x4, x5, x6, x7⟩ q).e (shaBlock ⟨x0, x1, x2, x3, x4, x5, x6, x7⟩ q).f (shaBlock ⟨x0, x1, x2, x3, x4, x5, x6, x7⟩ q).g (shaBlock ⟨x0, x1, x2, x3, x4, x5, x6, x7⟩ q).h
        have HST := Lib.hid hst
        have H5 := Lib.hid hf5
        clear hst hs5 hf5 c0 c1 c2 c3 c4 c5 c6 c7 d0 d1 d2 d3 d4 d5 d6 d7 f0 f1 f2 f3 f4 f5 f6 f7 hsl
        go_wp2
        go_roundw
        case rel =>
          refine ⟨k + 1, m + 64, by have := HM.out; omega, by omega, by go_num, ?_, (HF.out.thenNon ((Fr.drew _).non H5.out)).trans HST.out.2 (fun _ h => h) (fun _ h => .inl h)⟩
          rw [HR.out]
          exact HST.out.1
        case measure => simp [intOf]; omega
    · have hkn : k = n := by omega
      have hmn : m = N := by have := HN.out; omega
      have he := HE.out
      rw [← hkn] at he
      have hge : ¬ (m : Int) < (N : Int) := by omega
      clear hmk hkn hmn hlt hk HE
      have HSB : Hid (SB wr X (shaRun k shaInit p)) := Lib.hid hsb
      have HE2 := Lib.hid he
      have HOK := Lib.hid hok
      clear hsb he hok
      go_wp2_with fail
      have hd0 := DB.new wr
      have hf0 := Fr.alloc wr (.cells #[.int .u8 0, .int .u8 0, .int .u8 0, .int .u8 0, .int .u8 0, .int .u8 0, .int .u8 0, .int .u8 0, .int .u8 0, .int .u8 0, .int .u8 0, .int .u8 0, .int .u8 0, .int .u8 0, .int .u8 0, .int .u8 0, .int .u8 0, .int .u8 0, .int .u8 0, .int .u8 0, .int .u8 0, .int .u8 0, .int .u8 0, .int .u8 0, .int .u8 0, .int .u8 0, .int .u8 0, .int .u8 0, .int .u8 0, .int .u8 0, .int .u8 0, .int .u8 0] 25)
      have hs0 : (wr.alloc (.cells #[.int .u8 0, .int .u8 0, .int .u8 0, .int .u8 0, .int .u8 0, .int .u8 0, .int .u8 0, .int .u8 0, .int .u8 0, .int .u8 0, .int .u8 0, .int .u8 0, .int .u8 0, .int .u8 0, .int .u8 0, .int .u8 0, .int .u8 0, .int .u8 0, .int .u8 0, .int .u8 0, .int .u8 0, .int .u8 0, .int .u8 0, .int .u8 0, .int .u8 0, .int .u8 0, .int .u8 0, .int .u8 0, .int .u8 0, .int .u8 0, .int .u8 0, .int .u8 0] 25)).heap.size = wr.heap.size + 1 := by simp
      generalize wr.alloc (.cells #[.int .u8 0, .int .u8 0, .int .u8 0, .int .u8 0, .int .u8 0, .int .u8 0, .int .u8 0, .int .u8 0, .int .u8 0, .int .u8 0, .int .u8 0, .int .u8 0, .int .u8 0, .int .u8 0, .int .u8 0, .int .u8 0, .int .u8 0, .int .u8 0, .int .u8 0, .int .u8 0, .int .u8 0, .int .u8 0, .int .u8 0, .int .u8 0, .int .u8 0, .int .u8 0, .int .u8 0, .int .u8 0, .int .u8 0, .int .u8 0, .int .u8 0, .int .u8 0] 25) = w6 at hd0 hf0 hs0 ⊢
      obtain ⟨D, hD⟩ : ∃ D, D = wr.heap.size := ⟨_, rfl⟩
      rw [← hD] at hd0 hs0 ⊢
      have HDs := Lib.hid hD
      have HF0 := Lib.hid hf0
      have hXD : X < D := by
        have h1 := HSB.out
        have h2 := (Array.getElem?_eq_some_iff.1 h1).1
        omega
      have H6 : Hid (LB w6 X (St8.list (shaRun k shaInit p))) := Lib.hid (LB.of (HSB.out.frame hf0 (fun h => h)))
      generalize shaRun k shaInit p = s at H6 HE2 HOK
      have hdd : DB w6 D (digL s 0) := hd0
      have HDD := Lib.hid hdd
      have HS0 := Lib.hid hs0
      clear hd0 hf0 hs0 hD hdd HSB HRS
      go_loopw [7] (fun i wq => ∃ j : Nat, j ≤ 8 ∧ i = .int .i64 j ∧ DB wq D (digL s j) ∧ Fr (One D) w6 wq) (fun i _ => 8 - (intOf i).toNat)
      case atStart => exact ⟨0, by omega, rfl, HDD.out, Fr.refl _ _⟩
      case round =>
        obtain ⟨j, hj, rfl, hdb, hfr⟩ := hrel
        have HFQ := Lib.hid hfr
        have HDB := Lib.hid hdb
        clear hfr hdb
        by_cases hlt : j < 8
        · have hlb : LB wr X s.list := H6.out.frame' HFQ.out (fun h => by have h1 : X = D := h; omega)
          obtain ⟨cx, -⟩ := hlb.at j (by simpa [St8.list] using hlt)
          have bx := list_lt HOK.out j
          have hdl := digL_length s j hj
          obtain ⟨d0, f0⟩ := HDB.out.at (4 * j) (by omega)
          obtain ⟨d1, f1⟩ := HDB.out.at (4 * j + 1) (by omega)
          obtain ⟨d2, f2⟩ := HDB.out.at (4 * j + 2) (by omega)
          obtain ⟨d3, f3⟩ := HDB.out.at (4 * j + 3) (by omega)
          have HDS := Lib.hid (digL_set s j hlt)
          generalize s.list[j]! = x at cx bx HDS
          generalize (digL s j)[4 * j]! = q0 at d0
          generalize (digL s j)[4 * j + 1]! = q1 at d1
          generalize (digL s j)[4 * j + 2]! = q2 at d2
          generalize (digL s j)[4 * j + 3]! = q3 at d3
          have hne : ¬ X = D := by omega
          have hne2 : ¬ D = X := by omega
          have z0 : (0 : Int) ≤ (j : Int) := by omega
          have z1 : (j : Int) < 8 := by omega
          clear hlb hdl
          go_wp2_with fail
          clear d0 d1 d2 d3 f0 f1 f2 f3 cx
          go_roundw
          case rel =>
            have e0 : (x : Int) / 16777216 = ((UInt8.ofNat (x / 16777216 % 256)).toNat : Int) := by rw [ofNat_toNat _ (Nat.mod_lt _ (by omega))]; omega
            have e1 : (x : Int) / 65536 % 256 = ((UInt8.ofNat (x / 65536 % 256)).toNat : Int) := by rw [ofNat_toNat _ (Nat.mod_lt _ (by omega))]; omega
            have e2 : (x : Int) / 256 % 256 = ((UInt8.ofNat (x / 256 % 256)).toNat : Int) := by rw [ofNat_toNat _ (Nat.mod_lt _ (by omega))]; omega
            have e3 : (x : Int) % 256 = ((UInt8.ofNat (x % 256)).toNat : Int) := by rw [ofNat_toNat _ (Nat.mod_lt _ (by omega))]; omega
            rw [e0, e1, e2, e3]
            refine ⟨j + 1, by omega, by go_num, ?_, ?_⟩
            · rw [← HDS.out]
              exact (((HDB.out.set (4 * j) _).set (4 * j + 1) _).set (4 * j + 2) _).set (4 * j + 3) _
            · have t : ∀ {a b : World} (_ : Fr (One D) a b) (k : Nat) (u : Value), Fr (One D) a (b.setCell ⟨D, k, none⟩ u) := fun h k u => h.trans (Fr.setCell _ ⟨D, k, none⟩ u) (fun _ h => h) (fun _ h => .inl h)
              exact t (t (t (t HFQ.out _ _) _ _) _ _) _ _
          case measure => simp [intOf]; omega
        · have e8 : j = 8 := by omega
          have hdb := HDB.out
          rw [e8, digL_8, ← HE2.out] at hdb
          have hz : DB wr w.heap.size zero32 := ((HD1.out.frame HF2.out (fun h => h)).frame HF.out (fun h => by have h1 : w.heap.size = X := h; omega)).frame (HF0.out.non HFQ.out) (fun h => by have h1 : w.heap.size = D := h; omega)
          have HDB8 := Lib.hid hdb
          have HZ := Lib.hid hz
          have hge8 : ¬ (j : Int) < 8 := by omega
          have hge9 : decide ((j : Int) < 8) = false := by simpa using hge8
          clear hdb hz e8 HDD HDB
          have hinfo : (Tryd.prog.info? 25).map (·.size) = some (bs (sha l)).length := by
            rw [bs_length, sha_length]; kernel_rfl
          have hth : wr.there w.heap.size 0 (bs (sha l)).length := by
            have := HZ.out.there
            rw [bs_length, sha_length]; exact this
          have hrv := run_loadVar_mid (P := Tryd.prog) (wr.setCells w.heap.size 0 (bs (sha l)).toArray.toList) w.heap.size 0 25 (bs (sha l)) _ (by have := World.rangeAt_setCells_same wr w.heap.size 0 (bs (sha l)) hth; simpa using this) Tryd.underlying25 rfl hinfo
          have hfs : Fr (One w.heap.size) wr (wr.setCells w.heap.size 0 (bs (sha l)).toArray.toList) := Fr.setCells _ _ _ _
          have HRV := Lib.hid hrv
          have HFS := Lib.hid hfs
          have HTH := Lib.hid hth
          have HI := Lib.hid hinfo
          clear hrv hfs hth hinfo
          go_upto_region 15 with (fail)
          refine wp_region_lit ?_
          refine wpList_load_mid rfl _ _ rfl D 0 rfl (bs (sha l)) _ HDB8.out.range Tryd.underlying25 rfl HI.out ?_
          refine wpList_store_mid rfl _ _ _ rfl w.heap.size 0 (bs (sha l)).toArray rfl rfl (by simpa using HTH.out) (by simpa using HI.out) (by rw [Array.all_eq_true_iff_forall_mem]; intro v hv; exact bs_one _ v (by simpa using hv)) ?_
          generalize wr.setCells w.heap.size 0 (bs (sha l)).toArray.toList = w9 at HRV HFS ⊢
          go_wp2
          refine bodyPost_ret (v := .agg (bs (sha l)).toArray) (by have h := HRV.out; simp [results, Tryd.results22, asAddr, h]) rfl ⟨rfl, ?_⟩
          have hDz := HDs.out
          have h0 := HX.out
          have h2 := HF2.out.size
          have h3 := HF.out.size
          exact ((((HF1.out.non HF2.out).new HF.out (fun i h => by have h1 : i = X := h; omega)).non HF0.out).new HFQ.out (fun i h => by have h1 : i = D := h; omega)).new HFS.out (fun i h => by have h1 : i = w.heap.size := h; omega)
theorem refSum_any (v : Value) (l : List UInt8) (w : World) (hv : Row w v (bs l)) (hl : l.length ≤ 140737488351232) (hK : KAt w 1) :
    Calls Tryd.prog 22 #[v] w fun e w' => e = .returned (.agg (bs (sha l)).toArray) ∧ Fr Non w w' := refSum_big v l w hv (by omega) hK
end Go.Proofs.YtajknmapggkmnaaDoor
