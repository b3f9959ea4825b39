/- GOpShaB: ShaOpE, ShaOpF, ShaOpG, one behind the other. -/
import Derived.Test.YtpmkcjgndljhgaaDoorGOpShaA
import Derived.Test.YtpmkcjgndljhgaaDoorHeld
import Derived.Test.YtpmkcjgndljhgaaDoorMore

/- package sha: Write -/
namespace Go.Proofs.YtpmkcjgndljhgaaDoor
open Go.ChangeShapes Go.WideShapes Go.ChangeAt Go.RowKit

theorem st_more {l c blk : List UInt8} {s : St8} (hb : blk.length = 64) (ht : blk.take (l.length % 64) = l.drop (64 * (l.length / 64))) (hs : s = shaRun (l.length / 64) shaInit l) (hn : l.length % 64 + c.length ≤ 64) :
    (splice blk (l.length % 64) c).length = 64 ∧
    (l.length % 64 + c.length < 64 → (splice blk (l.length % 64) c).take ((l ++ c).length % 64) = (l ++ c).drop (64 * ((l ++ c).length / 64)) ∧ s = shaRun ((l ++ c).length / 64) shaInit (l ++ c)) ∧
    (l.length % 64 + c.length = 64 → (splice blk (l.length % 64) c).take ((l ++ c).length % 64) = (l ++ c).drop (64 * ((l ++ c).length / 64)) ∧ shaBlock s (splice blk (l.length % 64) c) = shaRun ((l ++ c).length / 64) shaInit (l ++ c)) := by
  have hp : l.length % 64 < 64 := Nat.mod_lt _ (by omega)
  have hq : 64 * (l.length / 64) + l.length % 64 = l.length := Nat.div_add_mod _ _
  have hlen := length_splice blk (l.length % 64) c (by omega)
  have hdl : (l.drop (64 * (l.length / 64))).length = l.length % 64 := by rw [List.length_drop]; omega
  generalize hpp : l.length % 64 = p at *
  generalize hqq : l.length / 64 = q at *
  refine ⟨by omega, fun h => ?_, fun h => ?_⟩
  · have e1 : (l ++ c).length % 64 = p + c.length := by rw [List.length_append]; omega
    have e2 : (l ++ c).length / 64 = q := by rw [List.length_append]; omega
    rw [e1, e2]
    refine ⟨?_, by rw [shaRun_front _ _ _ _ (by omega)]; exact hs⟩
    rw [List.drop_append_of_le_length (by omega), splice, ht, ← List.append_assoc, List.take_append_of_le_length (by rw [List.length_append, hdl]; exact Nat.le_refl _)]
    exact List.take_of_length_le (by rw [List.length_append, hdl]; exact Nat.le_refl _)
  · have e1 : (l ++ c).length % 64 = 0 := by rw [List.length_append]; omega
    have e2 : (l ++ c).length / 64 = q + 1 := by rw [List.length_append]; omega
    rw [e1, e2]
    have e3 : splice blk p c = (l ++ c).drop (64 * q) := by
      rw [List.drop_append_of_le_length (by omega), splice, ht, List.drop_of_length_le (by omega : blk.length ≤ p + c.length), List.append_nil]
    refine ⟨?_, ?_⟩
    · rw [List.take_zero, List.drop_of_length_le (by rw [List.length_append]; omega)]
    · rw [shaRun_snoc, shaRun_front _ _ _ _ (by omega), ← hs, ← e3, List.take_of_length_le (by omega)]

theorem StB.start {w : World} {B n : Nat} {s t : St8} {blk : List UInt8} (h : StB w B s.list blk n) : StB (w.setCells B 0 (us t.list)) B t.list blk n := by
  have h1 := Blk.setCells (us t.list) w _ 0 h (by simp [us_length, St8.list])
  have e : splice (us s.list ++ (bs blk ++ [Value.int .i64 (n : Int)])) 0 (us t.list) = us t.list ++ (bs blk ++ [Value.int .i64 (n : Int)]) := by
    simp only [splice, List.take_zero, List.nil_append]
    rw [show 0 + (us t.list).length = (us s.list).length by simp [us_length, St8.list], List.drop_left]
  rw [e] at h1
  exact h1
theorem StB.num {w : World} {B n : Nat} {s : St8} {blk : List UInt8} (hb : blk.length = 64) (h : StB w B s.list blk n) (m : Nat) : StB (w.setCell ⟨B, 72, none⟩ (.int .i64 (m : Int))) B s.list blk m := by
  have h1 := Blk.set h 72 (.int .i64 (m : Int))
  have hl : (us s.list).length = 8 := by simp [us_length, St8.list]
  have hl2 : (bs blk).length = 64 := by rw [bs_length, hb]
  rw [List.set_append_right _ _ (by omega), List.set_append_right _ _ (by omega), hl, hl2] at h1
  exact h1
theorem StB.copy {w : World} {B n p : Nat} {s : St8} {blk c : List UInt8} (hb : blk.length = 64) (hp : p + c.length ≤ 64) (h : Blk w B 128 (splice (us s.list ++ (bs blk ++ [Value.int .i64 (n : Int)])) (8 + p) (bs c))) : StB w B s.list (splice blk p c) n := by
  have hl : (us s.list).length = 8 := by simp [us_length, St8.list]
  have e := splice_mid (us s.list) (bs blk) [Value.int .i64 (n : Int)] (bs c) p (by rw [bs_length, bs_length]; omega)
  rw [hl] at e
  rw [e] at h
  have e2 : splice (bs blk) p (bs c) = bs (splice blk p c) := by
    simp [splice, bs, List.map_take, List.map_drop]
  rw [e2] at h
  exact h
theorem StB.words {w : World} {B n : Nat} {s : St8} {blk : List UInt8} (h : StB w B s.list blk n) : w.rangeAt B 0 (us s.list) ∧ w.there B 0 8 := by
  refine ⟨Blk.range h 0 _ (fun j v hj => ?_), Blk.there h 0 8 (by simp [us_length, St8.list])⟩
  rw [Nat.zero_add, List.getElem?_append_left (List.getElem?_eq_some_iff.1 hj).1]
  exact hj
theorem StB.block {w : World} {B n : Nat} {s : St8} {blk : List UInt8} (h : StB w B s.list blk n) : w.rangeAt B 8 (bs blk) := by
  refine Blk.range h 8 _ (fun j v hj => ?_)
  have hl : (us s.list).length = 8 := by simp [us_length, St8.list]
  rw [List.getElem?_append_right (by omega), hl, show 8 + j - 8 = j by omega, List.getElem?_append_left (List.getElem?_eq_some_iff.1 hj).1]
  exact hj
theorem StB.frame {w w' : World} {B n : Nat} {s : List Nat} {blk : List UInt8} (h : StB w B s blk n) {S : Nat → Prop} (f : Fr S w w') (hn : ¬ S B) : StB w' B s blk n := Blk.frame h f hn
theorem StAt.range {w : World} {g : Nat} (h : StAt w g) : w.rangeAt g 0 (us shaInit.list) := fun j v hv => by
  have hj : j < 8 := by have := (List.getElem?_eq_some_iff.1 hv).1; simpa [us_length, St8.list] using this
  rw [us_at _ _ (by simpa [St8.list] using hj)] at hv
  rw [Nat.zero_add, h j hj]
  exact hv

theorem changed_lit (s : St8) (l : List UInt8) (w : World) (hs : s.ok) (hl : l.length = 64) (hK : KAt w 4) :
    Calls Tryd.prog 83 #[.agg #[.int .u32 s.a, .int .u32 s.b, .int .u32 s.c, .int .u32 s.d, .int .u32 s.e, .int .u32 s.f, .int .u32 s.g, .int .u32 s.h], .agg (bs l).toArray] w fun e w' => e = .returned (.agg #[.int .u32 (shaBlock s l).a, .int .u32 (shaBlock s l).b, .int .u32 (shaBlock s l).c, .int .u32 (shaBlock s l).d, .int .u32 (shaBlock s l).e, .int .u32 (shaBlock s l).f, .int .u32 (shaBlock s l).g, .int .u32 (shaBlock s l).h]) ∧ Fr Non w w' :=
  (changed_any s l w hs hl hK).mono fun _ _ h => ⟨h.1.trans rfl, h.2⟩
theorem StB.cells {w : World} {B n : Nat} {s : St8} {blk : List UInt8} (h : StB w B s.list blk n) :
    (w.cell? ⟨B, 0, none⟩ = some (.int .u32 s.a) ∧ w.cell? ⟨B, 1, none⟩ = some (.int .u32 s.b) ∧ w.cell? ⟨B, 2, none⟩ = some (.int .u32 s.c) ∧ w.cell? ⟨B, 3, none⟩ = some (.int .u32 s.d) ∧
      w.cell? ⟨B, 4, none⟩ = some (.int .u32 s.e) ∧ w.cell? ⟨B, 5, none⟩ = some (.int .u32 s.f) ∧ w.cell? ⟨B, 6, none⟩ = some (.int .u32 s.g) ∧ w.cell? ⟨B, 7, none⟩ = some (.int .u32 s.h)) := by
  have h1 := fun j => (block_cells h j).1
  exact ⟨h1 0, h1 1, h1 2, h1 3, h1 4, h1 5, h1 6, h1 7⟩
theorem StB.frozen {w : World} {B n : Nat} {s : St8} {blk : List UInt8} (h : StB w B s.list blk n) (j : Nat) : w.frozen? ⟨B, j, none⟩ = false := (block_cells h j).2
theorem StB.store {w : World} {B n : Nat} {s : St8} {blk : List UInt8} (h : StB w B s.list blk n) (t : St8) :
    StB ((((((((w.setCell ⟨B, 0, none⟩ (.int .u32 t.a)).setCell ⟨B, 1, none⟩ (.int .u32 t.b)).setCell ⟨B, 2, none⟩ (.int .u32 t.c)).setCell ⟨B, 3, none⟩ (.int .u32 t.d)).setCell ⟨B, 4, none⟩ (.int .u32 t.e)).setCell ⟨B, 5, none⟩ (.int .u32 t.f)).setCell ⟨B, 6, none⟩ (.int .u32 t.g)).setCell ⟨B, 7, none⟩ (.int .u32 t.h)) B t.list blk n ∧
    Fr (One B) w ((((((((w.setCell ⟨B, 0, none⟩ (.int .u32 t.a)).setCell ⟨B, 1, none⟩ (.int .u32 t.b)).setCell ⟨B, 2, none⟩ (.int .u32 t.c)).setCell ⟨B, 3, none⟩ (.int .u32 t.d)).setCell ⟨B, 4, none⟩ (.int .u32 t.e)).setCell ⟨B, 5, none⟩ (.int .u32 t.f)).setCell ⟨B, 6, none⟩ (.int .u32 t.g)).setCell ⟨B, 7, none⟩ (.int .u32 t.h)) := by
  constructor
  · exact StB.start (t := t) h
  · exact Fr.setCells' B (us t.list) w 0
set_option maxRecDepth 100000 in
set_option maxHeartbeats 4000000 in
theorem write_any (B : Nat) (l m : List UInt8) (v : Value) (w : World) (hst : StL w B l) (hv : Row w v (bs m)) (hoff : m ≠ [] → Off (One B) v) (hl : l.length ≤ 1000000000000000) (hm : m.length ≤ 140737488351232)
    (hK : KAt w 4) (hS : StAt w 1) (hB1 : B ≠ 4) (hB2 : B ≠ 1) :
    Calls Tryd.prog 70 #[.pointer (some ⟨B, 0, none⟩), v] w fun e w' => e = .returned (.tuple #[]) ∧ StL w' B (l ++ m) ∧ Fr (One B) w w' := by
  obtain ⟨s, blk, h1, h2, h3, h4, h5⟩ := hst
  have HV := Lib.hid hv
  have HO := Lib.hid hoff
  have HK := Lib.hid hK
  have HS := Lib.hid hS
  have HB := Lib.hid (And.intro hB1 hB2)
  obtain ⟨c, fz⟩ := h5.len h2
  have hwi : (Tryd.prog.info? 116).map (·.size) = some (us shaInit.list).length := by rw [us_length]; kernel_rfl
  have HWI := Lib.hid hwi
  have HG := Lib.hid (And.intro h1 (And.intro h2 (And.intro h3 h4)))
  have H5 := Lib.hid h5
  clear hv hoff hK hS hB1 hB2 h1 h2 h3 h4 h5 hwi
  by_cases h0 : l.length = 0
  case' pos =>
    have hc0 : ((l.length : Int) == 0) = true := by rw [h0]; rfl
    go_enter Tryd.func70, Tryd.ntmps70
    go_upto_region 2 with (fail)
    refine wp_region_lit ?_
    iterate 3 (first | go_values | go_skip | go_guarded | go_step | go_upon | go_back)
    refine wpList_load_mid rfl _ _ rfl 1 0 rfl (us shaInit.list) _ HS.out.range Tryd.underlying116 rfl HWI.out ?_
    have hth := H5.out.words.2
    have hb9 := H5.out.start (t := shaInit)
    have hfs := Fr.setCells' B (us shaInit.list) w 0
    have HTH := Lib.hid hth
    have HB9 := Lib.hid hb9
    have HFS := Lib.hid hfs
    clear hth hb9 hfs
    go_wp2_with (refine wpList_store_mid rfl 116 (.tmp 15) (.tmp 13) rfl B 0 (us shaInit.list).toArray rfl rfl HTH.out HWI.out (all_one (us_one _)) ?_)
    simp only [Act.put]
    have hl0 : l = [] := List.eq_nil_of_length_eq_zero h0
    have HE : Hid (shaInit.ok ∧ shaInit = shaRun (l.length / 64) shaInit l) := Lib.hid ⟨shaInit_ok, by rw [h0]; rfl⟩
    clear hl0 hc0 c fz h0 H5 HTH
  case' neg =>
    have hc0 : ((l.length : Int) == 0) = false := by simp; exact fun h => h0 (by rw [h]; rfl)
    go_enter Tryd.func70, Tryd.ntmps70
    go_wp2
    have HE : Hid (s.ok ∧ s = shaRun (l.length / 64) shaInit l) := Lib.hid ⟨HG.out.1, HG.out.2.2.2 (fun h => h0 (by rw [h]; rfl))⟩
    have HB9 := H5
    have HFS : Hid (Fr (One B) w w) := Lib.hid (Fr.refl _ _)
    clear hc0 c fz h0 H5
  all_goals
    as_aux_lemma =>
      go_loopw [1] (fun v' wr => ∃ (k : Nat) (s : St8) (bk : List UInt8), k ≤ m.length ∧ s.ok ∧ bk.length = 64 ∧ bk.take ((l ++ m.take k).length % 64) = (l ++ m.take k).drop (64 * ((l ++ m.take k).length / 64)) ∧ s = shaRun ((l ++ m.take k).length / 64) shaInit (l ++ m.take k) ∧ StB wr B s.list bk (l ++ m.take k).length ∧ Row wr v' (bs (m.drop k)) ∧ (m.drop k ≠ [] → Off (One B) v') ∧ Fr (One B) w wr) (fun v' _ => vlen v')
      case atStart => exact ⟨0, _, blk, Nat.zero_le _, HE.out.1, HG.out.2.1, by rw [List.take_zero, List.append_nil]; exact HG.out.2.2.1, by rw [List.take_zero, List.append_nil]; exact HE.out.2, by rw [List.take_zero, List.append_nil]; exact HB9.out, by rw [List.drop_zero]; exact HV.out.frameNe HFS.out HO.out, by rw [List.drop_zero]; exact HO.out, HFS.out⟩
      case round =>
        obtain ⟨k, s, bk, hk, hok, hbk, htk, hs, hst, hrow, hof, hfr⟩ := hrel
        have hML : l ++ m = (l ++ m.take k) ++ m.drop k := by rw [List.append_assoc, List.take_append_drop]
        have hdl : (m.drop k).length = m.length - k := List.length_drop
        have hLl : (l ++ m.take k).length = l.length + k := by rw [List.length_append, List.length_take]; omega
        have hstep : ∀ n, n ≤ (m.drop k).length → m.take (k + n) = m.take k ++ (m.drop k).take n ∧ m.drop (k + n) = (m.drop k).drop n := fun n _ => ⟨List.take_add, List.drop_drop.symm⟩
        have HST := Lib.hid hstep
        have HML := Lib.hid hML
        have hLb : (l ++ m.take k).length + (m.drop k).length ≤ 1140737488351232 := by omega
        have hkk := hdl
        have HLK := Lib.hid hkk
        clear hstep hML hdl hLl hkk
        generalize hLL : l ++ m.take k = L at htk hs hst hLb HML
        generalize m.drop k = r at hrow hof hLb HML HST HLK
        have HLL := Lib.hid hLL
        clear hLL
        have hlen := run_lenRow (P := Tryd.prog) hrow 33 5 Tryd.underlying33
        rw [bs_length] at hlen
        obtain ⟨c, fz⟩ := hst.len hbk
        have HG2 := Lib.hid (And.intro hok (And.intro hbk (And.intro htk hs)))
        have HSB := Lib.hid hst
        have HROW := Lib.hid hrow
        have HOF := Lib.hid hof
        have HFR := Lib.hid hfr
        clear hok hbk htk hs hst hrow hof hfr
        by_cases hr0 : 0 < r.length
        · have hpos : (0 : Int) < (r.length : Int) := by omega
          obtain ⟨p, hp⟩ : ∃ p, p = L.length % 64 := ⟨_, rfl⟩
          have hp64 : p < 64 := by omega
          have hN : (0 : Int) ≤ (L.length : Int) := by omega
          have hNb : (L.length : Int) ≤ 1140737488351232 := by omega
          have hmod : ((L.length : Int)).tmod 64 = (p : Int) := by rw [Int.tmod_eq_emod_of_nonneg hN]; omega
          have hmod2 : (L.length : Int) % 64 = (p : Int) := by omega
          have hsl := run_arrLo (P := Tryd.prog) Tryd.underlying107 (by kernel_rfl) B 8 .i64 (p : Int) p rfl hp64
          obtain ⟨n, hn⟩ : ∃ n, n = (r.take (64 - p)).length := ⟨_, rfl⟩
          have hn1 : 0 < n ∧ p + n ≤ 64 ∧ n ≤ r.length ∧ (p + n = 64 ∨ n = r.length) := by rw [List.length_take] at hn; omega
          obtain ⟨vs, hsub, hvs, hvo⟩ := run_subLo (P := Tryd.prog) HROW.out 33 5 Tryd.underlying33 (by kernel_rfl) .i64 (n : Int) n rfl (by rw [bs_length]; omega)
          have HP := Lib.hid hp
          have HN := Lib.hid hn
          have HVS := Lib.hid (And.intro hvs hvo)
          have hNz : (0 : Int) ≤ (p : Int) := by omega
          clear hp hn hvs hvo
          obtain ⟨hn1, hn2, hn3, hn4⟩ := hn1
          go_wp2
          go_still_tail 10, (by kernel_rfl)
          change wpList _ _ _ _ _ wr.drew
          refine wpList_copy_fr rfl (.tmp 27) (.tmp 28) 33 33 rfl 5 Tryd.underlying33 (by kernel_rfl) B (8 + p) _ 128 (Blk.non HSB.out (Fr.drew _)) (64 - p) (64 - p) u1 (bs r) (HROW.out.non (Fr.drew _)) rfl rfl (by simp [us_length, bs_length, St8.list, HG2.out.2.1]; omega) (bs_one _) ?_
          intro w2 hb2 hf2
          have e : (bs r).take (64 - p) = bs (r.take (64 - p)) := by simp [bs, List.map_take]
          rw [e] at hb2 ⊢
          rw [bs_length, ← HN.out]
          have hb3 := StB.copy HG2.out.2.1 (by rw [← HN.out]; exact hn2) hb2
          have hmore := st_more HG2.out.2.1 HG2.out.2.2.1 HG2.out.2.2.2 (c := r.take (64 - p)) (by rw [← HN.out, ← HP.out]; exact hn2)
          rw [← HP.out, ← HN.out] at hmore
          have hr2 := HST.out n hn3
          have hrn : r.take (64 - p) = r.take n := by
            rcases hn4 with h | h
            · rw [show 64 - p = n by omega]
            · rw [List.take_of_length_le (by omega), List.take_of_length_le (by omega)]
          rw [hrn] at hb3 hmore
          have hLn : (L ++ r.take n).length = L.length + n := by rw [List.length_append, List.length_take]; omega
          have hmk : l ++ m.take (k + n) = L ++ r.take n := by rw [hr2.1, ← List.append_assoc, HLL.out]
          obtain ⟨c2, fz2⟩ := hb3.len hmore.1
          have HB3 := Lib.hid hb3
          have HF3 : Hid (Fr (One B) wr w2) := Lib.hid ((Fr.drew wr).non hf2)
          have HMO := Lib.hid hmore
          have HR2 := Lib.hid hr2
          have HLN := Lib.hid hLn
          have HMK := Lib.hid hmk
          simp only [Act.put, goInt, List.setIfInBounds_toArray, List.set_cons_succ, List.set_cons_zero]
          clear c fz hb2 hf2 e hb3 hmore hr2 hrn hLn hmk hsl hmod hmod2
          rcases Nat.lt_or_ge (p + n) 64 with hlt | hge
          · have ht : (((L.length : Int) + (n : Int)) % 64 == 0) = false := by have := HP.out; simp; omega
            go_wp2
            go_roundw
            case rel =>
              have hlk := HLK.out
              have hne : r ≠ [] := fun h => by rw [h] at hr0; simp at hr0
              have hoff := HVS.out.2 _ (HOF.out hne)
              have hmo := HMO.out.2.1 hlt
              have hf4 := HF3.out.trans (Fr.setCell w2 ⟨B, 72, none⟩ (.int .i64 ((L.length : Int) + (n : Int)))) (fun _ h => h) (fun _ h => .inl h) (U := One B)
              refine ⟨k + n, s, splice bk p (r.take n), by omega, HG2.out.1, HMO.out.1, ?_, ?_, ?_, ?_, fun _ => hoff, HFR.out.trans hf4 (fun _ h => h) (fun _ h => .inl h)⟩
              · rw [HMK.out]; exact hmo.1
              · rw [HMK.out]; exact hmo.2
              · rw [HMK.out, HLN.out]; exact HB3.out.num HMO.out.1 (L.length + n)
              · rw [HR2.out.2]
                have hx : bs (r.drop n) = (bs r).drop n := by simp [bs, List.map_drop]
                rw [hx]
                exact HVS.out.1.frame hf4 hoff
            case measure =>
              rw [HVS.out.1.vlen, HROW.out.vlen, List.length_drop, bs_length]
              omega
          · have hge2 : p + n = 64 := by omega
            have ht : (((L.length : Int) + (n : Int)) % 64 == 0) = true := by have := HP.out; simp; omega
            go_wp2
            have hb4 := HB3.out.num HMO.out.1 (L.length + n)
            have hf4 := HF3.out.trans (Fr.setCell w2 ⟨B, 72, none⟩ (.int .i64 ((L.length : Int) + (n : Int)))) (fun _ h => h) (fun _ h => .inl h) (U := One B)
            have hb5 : StB (w2.setCell ⟨B, 72, none⟩ (.int .i64 ((L.length : Int) + (n : Int)))) B s.list (splice bk p (r.take n)) (L.length + n) := hb4
            generalize w2.setCell ⟨B, 72, none⟩ (.int .i64 ((L.length : Int) + (n : Int))) = w3 at hf4 hb5 ⊢
            have hmo := HMO.out.2.2 hge2
            have hbl := HMO.out.1
            generalize splice bk p (r.take n) = bq at hb5 hmo hbl
            have HB5 := Lib.hid hb5
            have HF4 := Lib.hid hf4
            have HMO2 := Lib.hid (And.intro hbl hmo)
            obtain ⟨c0, c1, c2, c3, c4, c5, c6, c7⟩ := hb5.cells
            have hblock := hb5.block
            have hK3 := (HK.out.frame HFR.out (fun h => HB.out.1 h.symm)).frame hf4 (fun h => HB.out.1 h.symm)
            have HK3 := Lib.hid hK3
            clear hb4 hf4 hb5 hmo hbl fz2 hsub hK3
            have hu41 := Tryd.underlying107
            have hi41 : (Tryd.prog.info? 107).map (·.size) = some (bs bq).length := by rw [bs_length, HMO2.out.1]; kernel_rfl
            have hS0 : (fun w' : World => w'.rangeAt B 8 (bs bq)) w3.drew := hblock
            refine wp_region_held_drew (S := fun w' => w'.rangeAt B 8 (bs bq)) (by kernel_rfl) hS0 (fun hHeld => ?_)
            refine wpAnyH_takeL (i := 0) 47 (v := ?_) rfl rfl (by kernel_rfl) (by kernel_rfl) (by kernel_rfl) (fun _ _ _ h => h) (by assumption) (Or.inl ⟨by rfl, ?_⟩) ?_
            rotate_left
            · intro w hSw; go_simp; with_reducible rfl
            simp only [List.set_cons_zero, List.set_cons_succ]
            refine wpAnyH_takeL (i := 1) 48 (v := ?_) rfl rfl (by kernel_rfl) (by kernel_rfl) (by kernel_rfl) (fun _ _ _ h => h) (by assumption) (Or.inl ⟨by rfl, ?_⟩) ?_
            rotate_left
            · intro w hSw; go_simp; with_reducible rfl
            simp only [List.set_cons_zero, List.set_cons_succ]
            refine wpAnyH_takeL (i := 2) 49 (v := ?_) rfl rfl (by kernel_rfl) (by kernel_rfl) (by kernel_rfl) (fun _ _ _ h => h) (by assumption) (Or.inl ⟨by rfl, ?_⟩) ?_
            rotate_left
            · intro w hSw; go_simp; with_reducible rfl
            simp only [List.set_cons_zero, List.set_cons_succ]
            refine wpAnyH_takeL (i := 3) 50 (v := ?_) rfl rfl (by kernel_rfl) (by kernel_rfl) (by kernel_rfl) (fun _ _ _ h => h) (by assumption) (Or.inl ⟨by rfl, ?_⟩) ?_
            rotate_left
            · intro w hSw; go_simp; with_reducible rfl
            simp only [List.set_cons_zero, List.set_cons_succ]
            refine wpAnyH_takeL (i := 5) 52 (v := ?_) rfl rfl (by kernel_rfl) (by kernel_rfl) (by kernel_rfl) (fun _ _ _ h => h) (by assumption) (Or.inl ⟨by rfl, ?_⟩) ?_
            rotate_left
            · intro w hSw; go_simp; with_reducible rfl
            simp only [List.set_cons_zero, List.set_cons_succ]
            refine wpAnyH_takeL (i := 6) 53 (v := ?_) rfl rfl (by kernel_rfl) (by kernel_rfl) (by kernel_rfl) (fun _ _ _ h => h) (by assumption) (Or.inl ⟨by rfl, ?_⟩) ?_
            rotate_left
            · intro w hSw; go_simp; with_reducible rfl
            simp only [List.set_cons_zero, List.set_cons_succ]
            refine wpAnyH_takeL (i := 7) 54 (v := ?_) rfl rfl (by kernel_rfl) (by kernel_rfl) (by kernel_rfl) (fun _ _ _ h => h) (by assumption) (Or.inl ⟨by rfl, ?_⟩) ?_
            rotate_left
            · intro w hSw; go_simp; with_reducible rfl
            simp only [List.set_cons_zero, List.set_cons_succ]
            refine wpAnyH_takeL (i := 8) 55 (v := .agg (bs bq).toArray) rfl rfl (by kernel_rfl) (by kernel_rfl) (by kernel_rfl) (fun _ _ _ h => h) (by assumption) (yieldsIf_load_mid (by rfl) _ _ rfl B 8 rfl (bs bq) _ (fun w h => h) hu41 rfl hi41) ?_
            simp only [List.set_cons_zero, List.set_cons_succ]
            refine wpAnyH_ready (rs := [4]) (by kernel_rfl) (by simp) ?_
            refine AllReadyH.cons rfl (fun K hK => ?_) AllReadyH.nil
            go_simp
            refine hK.out _ _ (hHeld) (fun hHeld => ?_)
            clear hK K
            refine wpAnyH_ready (rs := [9]) (by kernel_rfl) (by simp) ?_
            refine AllReadyH.cons rfl (fun K hK => ?_) AllReadyH.nil
            go_simp
            go_wp2_with (go_at_call 83; refine (changed_lit s bq _ HG2.out.1 HMO2.out.1 (HK3.out.frame (Fr.drew _) (fun h => h))).mono ?_; rintro e w5 ⟨rfl, hf5⟩; have hs5 := HB5.out.frame ((Fr.drew _).non hf5) (fun h => h); obtain ⟨d0, d1, d2, d3, d4, d5, d6, d7⟩ := hs5.cells; have hblock5 := hs5.block; have f0 := hs5.frozen 0; have f1 := hs5.frozen 1; have f2 := hs5.frozen 2; have f3 := hs5.frozen 3; have f4 := hs5.frozen 4; have f5 := hs5.frozen 5; have f6 := hs5.frozen 6; have f7 := hs5.frozen 7)
            refine hK.out _ _ (hblock5) (fun hHeld => ?_)
            clear hK K
            refine wpAnyH_takeL (i := 10) 57 (v := ?_) rfl rfl (by kernel_rfl) (by kernel_rfl) (by kernel_rfl) (fun _ _ _ h => h) (by assumption) (Or.inl ⟨by rfl, ?_⟩) ?_
            rotate_left
            · intro w hSw; go_simp; with_reducible rfl
            simp only [List.set_cons_zero, List.set_cons_succ]
            refine wpAnyH_takeL (i := 11) 58 (v := ?_) rfl rfl (by kernel_rfl) (by kernel_rfl) (by kernel_rfl) (fun _ _ _ h => h) (by assumption) (Or.inl ⟨by rfl, ?_⟩) ?_
            rotate_left
            · intro w hSw; go_simp; with_reducible rfl
            simp only [List.set_cons_zero, List.set_cons_succ]
            have hstn := hs5.start (t := shaBlock s bq)
            have hfsn := Fr.setCells' B (us (shaBlock s bq).list) w5 0
            have hth5 := hs5.words.2
            have hwi5 : (Tryd.prog.info? 116).map (·.size) = some 8 := HWI.out
            refine wpAnyH_ready (rs := [12]) (by kernel_rfl) (by simp) ?_
            refine AllReadyH.cons (o := ⟨none, .store 116 (.tmp 58) (.tmp 56), _, _, _, none⟩) rfl (fun K hK => ?_) AllReadyH.nil
            rw [if_pos (by rfl)]
            refine wp_store_mid 116 (.tmp 58) (.tmp 56) rfl B 0 (us (shaBlock s bq).list).toArray rfl rfl hth5 hwi5 (all_one (us_one _)) ?_
            generalize hw9 : w5.setCells B 0 (us (shaBlock s bq).list).toArray.toList = w9
            have hstn9 : StB w9 B (shaBlock s bq).list bq (L.length + n) := by rw [← hw9]; exact hstn
            have hfs9 : Fr (One B) w5 w9 := by rw [← hw9]; exact hfsn
            have HSTN := Lib.hid (And.intro hstn9 hfs9)
            have HF5 := Lib.hid hf5
            simp only [Act.put]
            clear hw9 hstn9 hfs9 hstn hfsn hth5 hwi5
            refine hK.out _ _ (HSTN.out.1.block) (fun hHeld => ?_)
            clear hK K
            refine wpAnyH_done (by kernel_rfl) ?_ _
            clear d0 d1 d2 d3 d4 d5 d6 d7 f0 f1 f2 f3 f4 f5 f6 f7 c0 c1 c2 c3 c4 c5 c6 c7 hs5 hf5 hblock5 hblock
            go_wp2
            go_roundw
            case rel =>
              have hlk := HLK.out
              have hne : r ≠ [] := fun h => by rw [h] at hr0; simp at hr0
              have hoff := HVS.out.2 _ (HOF.out hne)
              have hf6 := (HF4.out.thenNon ((Fr.drew w3).non HF5.out)).trans HSTN.out.2 (fun _ h => h) (fun _ h => .inl h) (U := One B)
              refine ⟨k + n, shaBlock s bq, bq, by omega, shaBlock_ok _ _, HMO2.out.1, ?_, ?_, ?_, ?_, fun _ => hoff, HFR.out.trans hf6 (fun _ h => h) (fun _ h => .inl h)⟩
              · rw [HMK.out]; exact HMO2.out.2.1
              · rw [HMK.out]; exact HMO2.out.2.2
              · rw [HMK.out, HLN.out]; exact HSTN.out.1
              · rw [HR2.out.2]
                have hx : bs (r.drop n) = (bs r).drop n := by simp [bs, List.map_drop]
                rw [hx]
                exact HVS.out.1.frame hf6 hoff
            case measure =>
              rw [HVS.out.1.vlen, HROW.out.vlen, List.length_drop, bs_length]
              omega
        · have hr00 : r = [] := by cases r with
            | nil => rfl
            | cons x xs => exact absurd (by simp) hr0
          have hnp : ¬ (0 : Int) < (r.length : Int) := by omega
          have hge : decide ((0 : Int) < (r.length : Int)) = false := by simpa using hnp
          have hfin : l ++ m = L := by rw [HML.out, hr00, List.append_nil]
          have HFIN := Lib.hid hfin
          clear hr00 hfin c fz
          go_wp2
          go_end0
          rw [HFIN.out]
          exact ⟨rfl, ⟨s, bk, HG2.out.1, HG2.out.2.1, HG2.out.2.2.1, fun _ => HG2.out.2.2.2, HSB.out⟩, HFR.out⟩
end Go.Proofs.YtpmkcjgndljhgaaDoor

/- package sha: fill, Sum of a state, Sum -/
namespace Go.Proofs.YtpmkcjgndljhgaaDoor
open Go.ChangeShapes Go.WideShapes Go.ChangeAt Go.RowKit

/-- the block that is filled, as far as k bytes of the number -/
def padL (z N k : Nat) : List UInt8 := (128 :: List.replicate z 0 ++ beTop N k) ++ List.replicate (71 - z - k) 0
theorem padL_length (z N k : Nat) (h : z < 64) (hk : k ≤ 8) : (padL z N k).length = 72 := by
  unfold padL; simp [beTop_length]; omega
theorem padL_set (z N k : Nat) (h : z < 64) (hk : k < 8) : (padL z N k).set (1 + z + k) (UInt8.ofNat (N / 2 ^ (8 * (7 - k)) % 256)) = padL z N (k + 1) := by
  unfold padL
  have hl : (128 :: List.replicate z (0 : UInt8) ++ beTop N k).length = 1 + z + k := by simp [beTop_length]; omega
  rw [List.set_append_right _ _ (by omega), hl, Nat.sub_self, show 71 - z - k = (71 - z - (k + 1)) + 1 by omega, List.replicate_succ, List.set_cons_zero, beTop]
  simp
theorem padL_8 (z n : Nat) (hz : z = shaZeros n) : shaPad n = (padL z (n * 8) 8).take (1 + z + 8) := by
  have hl : (128 :: List.replicate z (0 : UInt8) ++ beTop (n * 8) 8).length = 1 + z + 8 := by simp [beTop_length]; omega
  unfold padL
  rw [List.take_append_of_le_length (by omega), List.take_of_length_le (by omega), beTop_8, hz]
  rfl
set_option maxRecDepth 100000 in
set_option maxHeartbeats 1000000 in
theorem fill_any (B : Nat) (l : List UInt8) (w : World) (hst : StL w B l) (hl : l.length ≤ 1000000000000000)
    (hK : KAt w 4) (hS : StAt w 1) (hB1 : B ≠ 4) (hB2 : B ≠ 1) :
    Calls Tryd.prog 84 #[.pointer (some ⟨B, 0, none⟩)] w fun e w' => e = .returned (.tuple #[]) ∧ StL w' B (l ++ shaPad l.length) ∧ Fr (One B) w w' := by
  obtain ⟨s, blk, h1, h2, h3, h4, h5⟩ := id hst
  obtain ⟨c, -⟩ := h5.len h2
  have HST := Lib.hid hst
  have HK := Lib.hid hK
  have HS := Lib.hid hS
  have HB := Lib.hid (And.intro hB1 hB2)
  have hbl : B < w.heap.size := hst.lt
  have hKs : 4 < w.heap.size := World.block_lt_of_cell? _ _ (hK 0 (by omega))
  have hSs : 1 < w.heap.size := World.block_lt_of_cell? _ _ (hS 0 (by omega))
  have HGS := Lib.hid (And.intro hKs hSs)
  clear h1 h2 h3 h4 h5 hst hK hS hB1 hB2 hKs hSs
  have hr := Blk.new w 137 (bs (List.replicate 72 0))
  have hf := Fr.alloc w (.cells (bs (List.replicate 72 0)).toArray 137)
  have hzv : ∀ w, (zeroValue 137).run Tryd.prog w = .ok (.agg (bs (List.replicate 72 0)).toArray) w := fun _ => by kernel_rfl
  obtain ⟨Z, hZ⟩ : ∃ Z, Z = List.replicate 72 (0 : UInt8) := ⟨_, rfl⟩
  rw [← hZ] at hr hf hzv
  have hZl : Z.length = 72 := by rw [hZ]; simp
  have HZ := Lib.hid (And.intro hZl hZ)
  clear hZl hZ
  go_enter Tryd.func84, Tryd.ntmps84
  go_upto_region 1 with (fail)
  generalize w.alloc (.cells (bs Z).toArray 137) = w1 at hr hf ⊢
  obtain ⟨R, hR⟩ : ∃ R, R = w.heap.size := ⟨_, rfl⟩
  rw [← hR] at hr hbl ⊢
  have hc1 := hf.cell c (fun h => h)
  obtain ⟨u0, d0, f0⟩ := hr.has 0 (by rw [bs_length, HZ.out.1]; omega)
  have HR := Lib.hid hr
  have HF := Lib.hid hf
  have HRR := Lib.hid hR
  have hN : (0 : Int) ≤ (l.length : Int) := by omega
  have hne : ¬ B = R := by omega
  have hne2 : ¬ R = B := by omega
  clear hr hf hR c hzv
  go_wp2
  obtain ⟨z, hz⟩ : ∃ z, z = shaZeros l.length := ⟨_, rfl⟩
  have hz64 : z < 64 := by rw [hz]; unfold shaZeros; omega
  have ez : (119 - (l.length : Int) % 64) % 64 = (z : Int) := by rw [hz]; unfold shaZeros; omega
  have eN : (l.length : Int) * 8 = ((l.length * 8 : Nat) : Int) := by omega
  rw [ez, eN]
  have HZZ := Lib.hid hz
  clear hz ez eN
  have hb0 := HR.out.set 0 (.int .u8 128)
  have hf0 := Fr.setCell w1 ⟨R, 0, none⟩ (.int .u8 128)
  generalize w1.setCell ⟨R, 0, none⟩ (.int .u8 128) = w2 at hb0 hf0 ⊢
  have hb1 : Blk w2 R 137 (bs (padL z (l.length * 8) 0)) := by
    have e : (bs Z).set 0 (.int .u8 128) = bs (padL z (l.length * 8) 0) := by
      have e2 : padL z (l.length * 8) 0 = 128 :: List.replicate 71 0 := by
        unfold padL
        simp only [beTop, List.append_nil, Nat.sub_zero, List.cons_append, List.replicate_append_replicate]
        rw [show z + (71 - z) = 71 by omega]
      rw [e2, HZ.out.2]
      rfl
    rw [e] at hb0
    exact hb0
  have hNb : l.length * 8 ≤ 8000000000000000 := by omega
  obtain ⟨N, hNN⟩ : ∃ N, N = l.length * 8 := ⟨_, rfl⟩
  rw [← hNN] at hb1 hNb ⊢
  have HB1 := Lib.hid hb1
  have HF2 : Hid (Fr (One R) w1 w2) := Lib.hid hf0
  have HNN := Lib.hid hNN
  clear hb0 hf0 hb1 hNN hc1 d0 f0
  go_loopw [20] (fun i wr => ∃ k : Nat, k ≤ 8 ∧ i = .int .i64 k ∧ Blk wr R 137 (bs (padL z N k)) ∧ Fr (One R) w1 wr) (fun i _ => 8 - (intOf i).toNat)
  case atStart => exact ⟨0, by omega, rfl, HB1.out, HF2.out⟩
  case round =>
    obtain ⟨k, hk, rfl, hb, hfr⟩ := hrel
    have HBk := Lib.hid hb
    have HFR := Lib.hid hfr
    clear hb hfr
    by_cases hlt : k < 8
    · obtain ⟨u0, d0, f0⟩ := HBk.out.has (1 + z + k) (by rw [bs_length, padL_length _ _ _ hz64 hk]; omega)
      have hsh : (8 * (7 - (k : Int))).toNat = 8 * (7 - k) := by omega
      go_wp2
      go_roundw
      case rel =>
        have e : (N : Int) / 2 ^ (8 * (7 - k)) % 256 = ((UInt8.ofNat (N / 2 ^ (8 * (7 - k)) % 256)).toNat : Int) := by
          rw [ofNat_toNat _ (Nat.mod_lt _ (by omega)), Int.natCast_emod, Int.natCast_ediv, Int.natCast_pow]; rfl
        rw [e]
        have hs := HBk.out.set (1 + z + k) (.int .u8 ((UInt8.ofNat (N / 2 ^ (8 * (7 - k)) % 256)).toNat : Int))
        rw [bs_set, padL_set _ _ _ hz64 hlt] at hs
        exact ⟨k + 1, by omega, by go_num, hs, HFR.out.trans (Fr.setCell wr _ _) (fun _ h => h) (fun _ h => .inl h)⟩
      case measure => simp [intOf]; omega
    · obtain rfl : k = 8 := by omega
      have hsl := run_arrHi (P := Tryd.prog) Tryd.underlying137 (by kernel_rfl) R 0 .i64 (1 + (z : Int) + 8) (1 + z + 8) (by omega) (by omega)
      have hpl : (bs (shaPad l.length)).length = 1 + z + 8 := by rw [bs_length, shaPad_length, HZZ.out]; omega
      have hrow : Row wr (.slice (some ⟨R, 0, none⟩) (1 + z + 8) 72) (bs (shaPad l.length)) := by
        have h := HBk.out.row 0 72 (bs (shaPad l.length)) (by omega) (by unfold maxLen; omega) (fun j v hj => by
          have hjl := (List.getElem?_eq_some_iff.1 hj).1
          rw [Nat.zero_add]
          rw [padL_8 z l.length HZZ.out, ← HNN.out] at hj
          rw [hpl] at hjl
          simp only [bs, List.map_take] at hj ⊢
          rwa [List.getElem?_take_of_lt hjl] at hj)
        rwa [hpl] at h
      have HROW := Lib.hid hrow
      have hfw : Fr (One R) w wr := HF.out.non HFR.out
      have hstr : StL wr B l := HST.out.frame hfw hne
      have hKr : KAt wr 4 := HK.out.frame hfw (fun h => by have h1 : 4 = R := h; have := HGS.out; have := HRR.out; omega)
      have hSr : StAt wr 1 := HS.out.frame hfw (fun h => by have h1 : 1 = R := h; have := HGS.out; have := HRR.out; omega)
      have hpm : (shaPad l.length).length ≤ 140737488351232 := by rw [shaPad_length]; unfold shaZeros; omega
      have hofr : Off (One B) (.slice (some ⟨R, 0, none⟩) (1 + z + 8) 72) := fun b off n c e h => by
        injection e with e1
        injection e1 with e1
        injection e1 with e1
        have h1 : b = B := h
        omega
      have HX := Lib.hid (And.intro hstr (And.intro hKr (And.intro hSr (And.intro hpm hofr))))
      have HFW := Lib.hid hfw
      have hge : decide (((8 : Nat) : Int) < 8) = false := by simp
      clear hpl hrow hfw hstr hKr hSr hpm hofr HBk HFR hk hlt
      go_wp2_with (go_at_call 70; refine (write_any B l (shaPad l.length) _ _ HX.out.1 HROW.out (fun _ => HX.out.2.2.2.2) hl HX.out.2.2.2.1 HX.out.2.1 HX.out.2.2.1 HB.out.1 HB.out.2).mono ?_; rintro e w9 ⟨rfl, h9, hf9⟩)
      go_end0
      have hn : Fr Non w wr := (Fr.refl Non w).new HFW.out (fun i h => by have h1 : i = R := h; have := HRR.out; omega)
      exact ⟨rfl, h9, hn.non hf9⟩

set_option maxRecDepth 100000 in
set_option maxHeartbeats 1000000 in
theorem ssum_any (B : Nat) (l : List UInt8) (w : World) (hst : StL w B l) (hl : l.length ≤ 1000000000000000)
    (hK : KAt w 4) (hS : StAt w 1) :
    Calls Tryd.prog 72 #[.pointer (some ⟨B, 0, none⟩)] w fun e w' => e = .returned (.agg (bs (sha l)).toArray) ∧ Fr Non w w' := by
  have HST := Lib.hid hst
  have hbl : B < w.heap.size := hst.lt
  have HK := Lib.hid hK
  have HS := Lib.hid hS
  have hKs : 4 < w.heap.size := World.block_lt_of_cell? _ _ (hK 0 (by omega))
  have hSs : 1 < w.heap.size := World.block_lt_of_cell? _ _ (hS 0 (by omega))
  have HGS := Lib.hid (And.intro hKs hSs)
  have hzv : ∀ w, (zeroValue 128).run Tryd.prog w = .ok (.agg (us [0, 0, 0, 0, 0, 0, 0, 0] ++ (bs (List.replicate 64 0) ++ [Value.int .i64 ((0 : Nat) : Int)])).toArray) w := fun _ => by kernel_rfl
  obtain ⟨Z, hZ⟩ : ∃ Z, Z = us [0, 0, 0, 0, 0, 0, 0, 0] ++ (bs (List.replicate 64 0) ++ [Value.int .i64 ((0 : Nat) : Int)]) := ⟨_, rfl⟩
  rw [← hZ] at hzv
  have HZ := Lib.hid hZ
  clear hst hK hS hKs hSs hZ
  go_enter Tryd.func72, Tryd.ntmps72
  go_upto_region 3 with (fail)
  have hd0 : DB (w.alloc (.cells #[.int .u8 0, .int .u8 0, .int .u8 0, .int .u8 0, .int .u8 0, .int .u8 0, .int .u8 0, .int .u8 0, .int .u8 0, .int .u8 0, .int .u8 0, .int .u8 0, .int .u8 0, .int .u8 0, .int .u8 0, .int .u8 0, .int .u8 0, .int .u8 0, .int .u8 0, .int .u8 0, .int .u8 0, .int .u8 0, .int .u8 0, .int .u8 0, .int .u8 0, .int .u8 0, .int .u8 0, .int .u8 0, .int .u8 0, .int .u8 0, .int .u8 0, .int .u8 0] 42)) w.heap.size zero32 := DB.new w
  have hf1 := Fr.alloc w (.cells #[.int .u8 0, .int .u8 0, .int .u8 0, .int .u8 0, .int .u8 0, .int .u8 0, .int .u8 0, .int .u8 0, .int .u8 0, .int .u8 0, .int .u8 0, .int .u8 0, .int .u8 0, .int .u8 0, .int .u8 0, .int .u8 0, .int .u8 0, .int .u8 0, .int .u8 0, .int .u8 0, .int .u8 0, .int .u8 0, .int .u8 0, .int .u8 0, .int .u8 0, .int .u8 0, .int .u8 0, .int .u8 0, .int .u8 0, .int .u8 0, .int .u8 0, .int .u8 0] 42)
  have hs1 : (w.alloc (.cells #[.int .u8 0, .int .u8 0, .int .u8 0, .int .u8 0, .int .u8 0, .int .u8 0, .int .u8 0, .int .u8 0, .int .u8 0, .int .u8 0, .int .u8 0, .int .u8 0, .int .u8 0, .int .u8 0, .int .u8 0, .int .u8 0, .int .u8 0, .int .u8 0, .int .u8 0, .int .u8 0, .int .u8 0, .int .u8 0, .int .u8 0, .int .u8 0, .int .u8 0, .int .u8 0, .int .u8 0, .int .u8 0, .int .u8 0, .int .u8 0, .int .u8 0, .int .u8 0] 42)).heap.size = w.heap.size + 1 := by simp
  generalize w.alloc (.cells #[.int .u8 0, .int .u8 0, .int .u8 0, .int .u8 0, .int .u8 0, .int .u8 0, .int .u8 0, .int .u8 0, .int .u8 0, .int .u8 0, .int .u8 0, .int .u8 0, .int .u8 0, .int .u8 0, .int .u8 0, .int .u8 0, .int .u8 0, .int .u8 0, .int .u8 0, .int .u8 0, .int .u8 0, .int .u8 0, .int .u8 0, .int .u8 0, .int .u8 0, .int .u8 0, .int .u8 0, .int .u8 0, .int .u8 0, .int .u8 0, .int .u8 0, .int .u8 0] 42) = w1 at hd0 hf1 hs1 ⊢
  have he0 := Blk.new w1 128 Z
  have hf2 := Fr.alloc w1 (.cells Z.toArray 128)
  generalize w1.alloc (.cells Z.toArray 128) = w2 at he0 hf2 ⊢
  obtain ⟨R, hR⟩ : ∃ R, R = w.heap.size := ⟨_, rfl⟩
  obtain ⟨E, hE⟩ : ∃ E, E = w.heap.size + 1 := ⟨_, rfl⟩
  rw [hs1, ← hE] at he0
  rw [← hE, ← hR]
  rw [← hR] at hd0
  have HRE := Lib.hid (And.intro hR hE)
  have HD := Lib.hid (hd0.frame hf2 (fun h => h))
  have HF2 := Lib.hid (hf1.non hf2)
  have HE0 := Lib.hid he0
  have hi43 : (Tryd.prog.info? 128).map (·.size) = some 73 := by kernel_rfl
  have HI := Lib.hid hi43
  clear hd0 hf1 hf2 hs1 hR hE he0 hi43 hzv
  obtain ⟨s, blk, q1, q2, q3, q4, q5⟩ := HST.out.frame HF2.out (fun h => h)
  have hlen : (us s.list ++ (bs blk ++ [Value.int .i64 (l.length : Int)])).length = 73 := by simp [us_length, bs_length, St8.list, q2]
  have hone : ∀ v ∈ us s.list ++ (bs blk ++ [Value.int .i64 (l.length : Int)]), v.oneCell' = true := by
    intro v hv
    rcases List.mem_append.1 hv with hv | hv
    · exact us_one _ v hv
    · rcases List.mem_append.1 hv with hv | hv
      · exact bs_one _ v hv
      · rw [List.mem_singleton] at hv; subst hv; rfl
  have hrng : w2.rangeAt B 0 (us s.list ++ (bs blk ++ [Value.int .i64 (l.length : Int)])) := Blk.range q5 0 _ (fun j v hv => by simpa using hv)
  have hthE := HE0.out.there 0 73 (by rw [HZ.out]; simp [us_length, bs_length])
  have hstE : ∀ w4 : World, Blk w4 E 128 (us s.list ++ (bs blk ++ [Value.int .i64 (l.length : Int)])) → StL w4 E l := fun w4 h => ⟨s, blk, q1, q2, q3, q4, h⟩
  have hblE := Blk.setCells (us s.list ++ (bs blk ++ [Value.int .i64 (l.length : Int)])) w2 Z 0 HE0.out (by rw [hlen, HZ.out]; simp [us_length, bs_length])
  have hsp : splice Z 0 (us s.list ++ (bs blk ++ [Value.int .i64 (l.length : Int)])) = us s.list ++ (bs blk ++ [Value.int .i64 (l.length : Int)]) := by
    simp only [splice, List.take_zero, List.nil_append, Nat.zero_add]
    rw [List.drop_of_length_le (by rw [hlen, HZ.out]; simp [us_length, bs_length]), List.append_nil]
  rw [hsp] at hblE
  have hst3 := hstE _ hblE
  have hfs := Fr.setCells' E (us s.list ++ (bs blk ++ [Value.int .i64 (l.length : Int)])) w2 0
  generalize us s.list ++ (bs blk ++ [Value.int .i64 (l.length : Int)]) = C at hlen hone hrng hst3 hfs
  have HC := Lib.hid (And.intro hlen (And.intro hone (And.intro hrng hthE)))
  have HST3 := Lib.hid (And.intro hst3 hfs)
  have hiC : (Tryd.prog.info? 128).map (·.size) = some C.toArray.size := by rw [HI.out, List.size_toArray, hlen]
  have hiC2 : (Tryd.prog.info? 128).map (·.size) = some C.length := by rw [HI.out, hlen]
  have hthC : w2.there E 0 C.toArray.size := by rw [List.size_toArray, hlen]; exact hthE
  have HIC := Lib.hid (And.intro hiC (And.intro hiC2 hthC))
  clear q1 q2 q3 q4 q5 hlen hone hrng hthE hstE hblE hsp hst3 hfs hiC hiC2 hthC
  refine wp_region_lit ?_
  go_wp2_with (first | (refine wpList_load_mid rfl 128 (.tmp 7) rfl B 0 rfl C _ HC.out.2.2.1 Tryd.underlying128 rfl HIC.out.2.1 ?_) | (refine wpList_store_mid rfl 128 (.tmp 3) (.tmp 8) rfl E 0 C.toArray rfl rfl HIC.out.2.2 HIC.out.1 (all_one HC.out.2.1) ?_))
  have hst3 := HST3.out.1
  have hf3 := HST3.out.2
  generalize w2.setCells E 0 C = w3 at hst3 hf3 ⊢
  have HF3 : Hid (Fr Non w w3) := Lib.hid (HF2.out.new hf3 (fun i h => by have h1 : i = E := h; have := HRE.out; omega))
  have HD3 : Hid (DB w3 R zero32) := Lib.hid (HD.out.frame hf3 (fun h => by have h1 : R = E := h; have := HRE.out; omega))
  clear hf3
  have hne1 : ¬ E = R := by have := HRE.out; omega
  have hKE : E ≠ 4 := by have := HRE.out; have := HGS.out; omega
  have hSE : E ≠ 1 := by have := HRE.out; have := HGS.out; omega
  have HTB := Lib.hid (And.intro (HK.out.frame HF3.out (fun h => h)) (And.intro (HS.out.frame HF3.out (fun h => h)) (And.intro hKE hSE)))
  have HST4 := Lib.hid hst3
  clear hst3 hKE hSE
  refine (fill_any E l _ HST4.out hl HTB.out.1 HTB.out.2.1 HTB.out.2.2.1 HTB.out.2.2.2).mono ?_
  rintro e w5 ⟨rfl, hst5, hf5⟩
  obtain ⟨s5, blk5, q1, q2, q3, q4, q5⟩ := hst5
  have hpn : l ++ shaPad l.length ≠ [] := by simp [shaPad]
  have hs5 : s5 = shaEnd l := by rw [q4 hpn, List.length_append]; rfl
  have hby : s5.bytes = sha l := by rw [hs5]; rfl
  have hbl5 : (bs s5.bytes).length = 32 := by simp [bs_length, St8.bytes, beBytes_length]
  obtain ⟨c0, c1, c2, c3, c4, c5, c6, c7⟩ := q5.cells
  have hd5 : DB w5 R zero32 := HD3.out.frame hf5 (fun h => hne1 h.symm)
  have HQ1 := Lib.hid q1
  have HBY := Lib.hid hby
  have HD5 := Lib.hid hd5
  have HF5 := Lib.hid hf5
  have HBL := Lib.hid hbl5
  clear q1 q2 q3 q4 q5 hpn hs5 hby hd5 hf5 hbl5
  go_wp2_with fail
  refine (laid_any s5 _ HQ1.out).mono ?_
  rintro e w6 ⟨rfl, hf6⟩
  have hd6 := HD5.out.frame hf6 (fun h => h)
  have hone := bs_one s5.bytes
  have hb32 := HBL.out
  have hby := HBY.out
  generalize hys : bs s5.bytes = ys at hone hb32 ⊢
  have hinfo : (Tryd.prog.info? 42).map (·.size) = some ys.toArray.size := by rw [List.size_toArray, hb32]; kernel_rfl
  have hinfo2 : (Tryd.prog.info? 42).map (·.size) = some ys.length := by rw [hb32]; kernel_rfl
  have hth : w6.there R 0 ys.toArray.size := by rw [List.size_toArray, hb32]; exact hd6.there
  have hrv := run_loadVar_mid (P := Tryd.prog) (w6.setCells R 0 ys.toArray.toList) R 0 42 ys _ (by have := World.rangeAt_setCells_same w6 R 0 ys (by rw [hb32]; exact hd6.there); simpa using this) Tryd.underlying42 rfl hinfo2
  have hfs := Fr.setCells' R ys.toArray.toList w6 0
  have HIN := Lib.hid (And.intro hinfo (And.intro hth (And.intro hrv (And.intro hfs (And.intro hys hby)))))
  have HON := Lib.hid hone
  have HF6 := Lib.hid hf6
  clear hinfo hinfo2 hth hrv hfs hys hby hone hb32 hd6 hf6 c0 c1 c2 c3 c4 c5 c6 c7
  go_wp2_with (refine wpList_store_mid rfl 42 (.tmp 2) (.tmp 12) rfl R 0 ys.toArray rfl rfl HIN.out.2.1 HIN.out.1 (all_one HON.out) ?_)
  refine bodyPost_ret (v := .agg ys.toArray) (by have h := HIN.out.2.2.1; simp [results, Tryd.results72, asAddr, Act.put] at h ⊢; exact h) rfl ⟨by rw [← HIN.out.2.2.2.2.2, HIN.out.2.2.2.2.1], ?_⟩
  have hx := HRE.out
  exact (((HF3.out.new HF5.out (fun i h => by have h1 : i = E := h; omega)).non HF6.out).new HIN.out.2.2.2.1 (fun i h => by have h1 : i = R := h; omega))
set_option maxRecDepth 100000 in
set_option maxHeartbeats 1000000 in
theorem nsum_any (w : World)
    (hK : KAt w 4) (hS : StAt w 1) :
    Calls Tryd.prog 72 #[.pointer none] w fun e w' => e = .returned (.agg (bs (sha [])).toArray) ∧ Fr Non w w' := by
  have HK := Lib.hid hK
  have HS := Lib.hid hS
  have hKs : 4 < w.heap.size := World.block_lt_of_cell? _ _ (hK 0 (by omega))
  have hSs : 1 < w.heap.size := World.block_lt_of_cell? _ _ (hS 0 (by omega))
  have HGS := Lib.hid (And.intro hKs hSs)
  have hzv : ∀ w, (zeroValue 128).run Tryd.prog w = .ok (.agg (us [0, 0, 0, 0, 0, 0, 0, 0] ++ (bs (List.replicate 64 0) ++ [Value.int .i64 ((0 : Nat) : Int)])).toArray) w := fun _ => by kernel_rfl
  obtain ⟨Z, hZ⟩ : ∃ Z, Z = us [0, 0, 0, 0, 0, 0, 0, 0] ++ (bs (List.replicate 64 0) ++ [Value.int .i64 ((0 : Nat) : Int)]) := ⟨_, rfl⟩
  rw [← hZ] at hzv
  have HZ := Lib.hid hZ
  clear hK hS hKs hSs hZ
  go_enter Tryd.func72, Tryd.ntmps72
  go_upto_region 4 with (fail)
  have hd0 : DB (w.alloc (.cells #[.int .u8 0, .int .u8 0, .int .u8 0, .int .u8 0, .int .u8 0, .int .u8 0, .int .u8 0, .int .u8 0, .int .u8 0, .int .u8 0, .int .u8 0, .int .u8 0, .int .u8 0, .int .u8 0, .int .u8 0, .int .u8 0, .int .u8 0, .int .u8 0, .int .u8 0, .int .u8 0, .int .u8 0, .int .u8 0, .int .u8 0, .int .u8 0, .int .u8 0, .int .u8 0, .int .u8 0, .int .u8 0, .int .u8 0, .int .u8 0, .int .u8 0, .int .u8 0] 42)) w.heap.size zero32 := DB.new w
  have hf1 := Fr.alloc w (.cells #[.int .u8 0, .int .u8 0, .int .u8 0, .int .u8 0, .int .u8 0, .int .u8 0, .int .u8 0, .int .u8 0, .int .u8 0, .int .u8 0, .int .u8 0, .int .u8 0, .int .u8 0, .int .u8 0, .int .u8 0, .int .u8 0, .int .u8 0, .int .u8 0, .int .u8 0, .int .u8 0, .int .u8 0, .int .u8 0, .int .u8 0, .int .u8 0, .int .u8 0, .int .u8 0, .int .u8 0, .int .u8 0, .int .u8 0, .int .u8 0, .int .u8 0, .int .u8 0] 42)
  have hs1 : (w.alloc (.cells #[.int .u8 0, .int .u8 0, .int .u8 0, .int .u8 0, .int .u8 0, .int .u8 0, .int .u8 0, .int .u8 0, .int .u8 0, .int .u8 0, .int .u8 0, .int .u8 0, .int .u8 0, .int .u8 0, .int .u8 0, .int .u8 0, .int .u8 0, .int .u8 0, .int .u8 0, .int .u8 0, .int .u8 0, .int .u8 0, .int .u8 0, .int .u8 0, .int .u8 0, .int .u8 0, .int .u8 0, .int .u8 0, .int .u8 0, .int .u8 0, .int .u8 0, .int .u8 0] 42)).heap.size = w.heap.size + 1 := by simp
  generalize w.alloc (.cells #[.int .u8 0, .int .u8 0, .int .u8 0, .int .u8 0, .int .u8 0, .int .u8 0, .int .u8 0, .int .u8 0, .int .u8 0, .int .u8 0, .int .u8 0, .int .u8 0, .int .u8 0, .int .u8 0, .int .u8 0, .int .u8 0, .int .u8 0, .int .u8 0, .int .u8 0, .int .u8 0, .int .u8 0, .int .u8 0, .int .u8 0, .int .u8 0, .int .u8 0, .int .u8 0, .int .u8 0, .int .u8 0, .int .u8 0, .int .u8 0, .int .u8 0, .int .u8 0] 42) = w1 at hd0 hf1 hs1 ⊢
  have he0 := Blk.new w1 128 Z
  have hf2 := Fr.alloc w1 (.cells Z.toArray 128)
  generalize w1.alloc (.cells Z.toArray 128) = w2 at he0 hf2 ⊢
  obtain ⟨R, hR⟩ : ∃ R, R = w.heap.size := ⟨_, rfl⟩
  obtain ⟨E, hE⟩ : ∃ E, E = w.heap.size + 1 := ⟨_, rfl⟩
  rw [hs1, ← hE] at he0
  rw [← hE, ← hR]
  rw [← hR] at hd0
  have HRE := Lib.hid (And.intro hR hE)
  have HD := Lib.hid (hd0.frame hf2 (fun h => h))
  have HF2 := Lib.hid (hf1.non hf2)
  have HE0 := Lib.hid he0
  have hi43 : (Tryd.prog.info? 128).map (·.size) = some 73 := by kernel_rfl
  have HI := Lib.hid hi43
  clear hd0 hf1 hf2 hs1 hR hE he0 hi43 hzv
  have hst3 : StL w2 E [] := ⟨⟨0, 0, 0, 0, 0, 0, 0, 0⟩, List.replicate 64 0, by unfold St8.ok; decide, by simp, rfl, fun h => absurd rfl h, by have := HE0.out; rw [HZ.out] at this; exact this⟩
  have HF3 : Hid (Fr Non w w2) := HF2
  have HD3 : Hid (DB w2 R zero32) := HD
  have hl : ([] : List UInt8).length ≤ 1000000000000000 := by simp
  generalize w2 = w3 at hst3 HF3 HD3 ⊢
  go_wp2_with fail
  have hne1 : ¬ E = R := by have := HRE.out; omega
  have hKE : E ≠ 4 := by have := HRE.out; have := HGS.out; omega
  have hSE : E ≠ 1 := by have := HRE.out; have := HGS.out; omega
  have HTB := Lib.hid (And.intro (HK.out.frame HF3.out (fun h => h)) (And.intro (HS.out.frame HF3.out (fun h => h)) (And.intro hKE hSE)))
  have HST4 := Lib.hid hst3
  clear hst3 hKE hSE
  refine (fill_any E [] _ HST4.out hl HTB.out.1 HTB.out.2.1 HTB.out.2.2.1 HTB.out.2.2.2).mono ?_
  rintro e w5 ⟨rfl, hst5, hf5⟩
  obtain ⟨s5, blk5, q1, q2, q3, q4, q5⟩ := hst5
  have hpn : ([] : List UInt8) ++ shaPad ([] : List UInt8).length ≠ [] := by simp [shaPad]
  have hs5 : s5 = shaEnd [] := by rw [q4 hpn, List.length_append]; rfl
  have hby : s5.bytes = sha [] := by rw [hs5]; rfl
  have hbl5 : (bs s5.bytes).length = 32 := by simp [bs_length, St8.bytes, beBytes_length]
  obtain ⟨c0, c1, c2, c3, c4, c5, c6, c7⟩ := q5.cells
  have hd5 : DB w5 R zero32 := HD3.out.frame hf5 (fun h => hne1 h.symm)
  have HQ1 := Lib.hid q1
  have HBY := Lib.hid hby
  have HD5 := Lib.hid hd5
  have HF5 := Lib.hid hf5
  have HBL := Lib.hid hbl5
  clear q1 q2 q3 q4 q5 hpn hs5 hby hd5 hf5 hbl5
  go_wp2_with fail
  refine (laid_any s5 _ HQ1.out).mono ?_
  rintro e w6 ⟨rfl, hf6⟩
  have hd6 := HD5.out.frame hf6 (fun h => h)
  have hone := bs_one s5.bytes
  have hb32 := HBL.out
  have hby := HBY.out
  generalize hys : bs s5.bytes = ys at hone hb32 ⊢
  have hinfo : (Tryd.prog.info? 42).map (·.size) = some ys.toArray.size := by rw [List.size_toArray, hb32]; kernel_rfl
  have hinfo2 : (Tryd.prog.info? 42).map (·.size) = some ys.length := by rw [hb32]; kernel_rfl
  have hth : w6.there R 0 ys.toArray.size := by rw [List.size_toArray, hb32]; exact hd6.there
  have hrv := run_loadVar_mid (P := Tryd.prog) (w6.setCells R 0 ys.toArray.toList) R 0 42 ys _ (by have := World.rangeAt_setCells_same w6 R 0 ys (by rw [hb32]; exact hd6.there); simpa using this) Tryd.underlying42 rfl hinfo2
  have hfs := Fr.setCells' R ys.toArray.toList w6 0
  have HIN := Lib.hid (And.intro hinfo (And.intro hth (And.intro hrv (And.intro hfs (And.intro hys hby)))))
  have HON := Lib.hid hone
  have HF6 := Lib.hid hf6
  clear hinfo hinfo2 hth hrv hfs hys hby hone hb32 hd6 hf6 c0 c1 c2 c3 c4 c5 c6 c7
  go_wp2_with (refine wpList_store_mid rfl 42 (.tmp 2) (.tmp 12) rfl R 0 ys.toArray rfl rfl HIN.out.2.1 HIN.out.1 (all_one HON.out) ?_)
  refine bodyPost_ret (v := .agg ys.toArray) (by have h := HIN.out.2.2.1; simp [results, Tryd.results72, asAddr, Act.put] at h ⊢; exact h) rfl ⟨by rw [← HIN.out.2.2.2.2.2, HIN.out.2.2.2.2.1], ?_⟩
  have hx := HRE.out
  exact (((HF3.out.new HF5.out (fun i h => by have h1 : i = E := h; omega)).non HF6.out).new HIN.out.2.2.2.1 (fun i h => by have h1 : i = R := h; omega))
end Go.Proofs.YtpmkcjgndljhgaaDoor

/- package sha: Sum -/
namespace Go.Proofs.YtpmkcjgndljhgaaDoor
open Go.ChangeShapes Go.WideShapes Go.ChangeAt Go.RowKit

set_option maxRecDepth 100000 in
set_option maxHeartbeats 1000000 in
theorem psum_any (v : Value) (ls : List (List UInt8)) (w : World) (hv : Rows2 w v ls) (hl : ls.flatten.length ≤ 500000000000000) (hm : ∀ l ∈ ls, l.length ≤ 140737488351232)
    (hK : KAt w 4) (hS : StAt w 1) :
    Calls Tryd.prog 73 #[v] w fun e w' => e = .returned (.agg (bs (sha ls.flatten)).toArray) ∧ Fr Non w w' := by
  obtain ⟨vs, hrow, hvl, hvr⟩ := hv
  obtain ⟨a, c, rfl, q1, q2, q3, q4⟩ := id hrow
  have HROW := Lib.hid hrow
  have HVR := Lib.hid hvr
  have HVL := Lib.hid hvl
  have HL := Lib.hid hl
  have HM := Lib.hid hm
  have HK := Lib.hid hK
  have HS := Lib.hid hS
  have hKs : 4 < w.heap.size := World.block_lt_of_cell? _ _ (hK 0 (by omega))
  have hSs : 1 < w.heap.size := World.block_lt_of_cell? _ _ (hS 0 (by omega))
  have HGS := Lib.hid (And.intro hKs hSs)
  have hzv : ∀ w, (zeroValue 128).run Tryd.prog w = .ok (.agg (us [0, 0, 0, 0, 0, 0, 0, 0] ++ (bs (List.replicate 64 0) ++ [Value.int .i64 ((0 : Nat) : Int)])).toArray) w := fun _ => by kernel_rfl
  obtain ⟨Z, hZ⟩ : ∃ Z, Z = us [0, 0, 0, 0, 0, 0, 0, 0] ++ (bs (List.replicate 64 0) ++ [Value.int .i64 ((0 : Nat) : Int)]) := ⟨_, rfl⟩
  rw [← hZ] at hzv
  have HZ := Lib.hid hZ
  have hvm : vs.length ≤ 9223372036854775807 := by unfold maxLen at q2; omega
  clear hrow hvr hvl hl hm hK hS hKs hSs hZ q1 q2 q3 q4
  go_enter Tryd.func73, Tryd.ntmps73
  go_upto_region 2 with (fail)
  have hd0 : DB (w.alloc (.cells #[.int .u8 0, .int .u8 0, .int .u8 0, .int .u8 0, .int .u8 0, .int .u8 0, .int .u8 0, .int .u8 0, .int .u8 0, .int .u8 0, .int .u8 0, .int .u8 0, .int .u8 0, .int .u8 0, .int .u8 0, .int .u8 0, .int .u8 0, .int .u8 0, .int .u8 0, .int .u8 0, .int .u8 0, .int .u8 0, .int .u8 0, .int .u8 0, .int .u8 0, .int .u8 0, .int .u8 0, .int .u8 0, .int .u8 0, .int .u8 0, .int .u8 0, .int .u8 0] 42)) w.heap.size zero32 := DB.new w
  have hf1 := Fr.alloc w (.cells #[.int .u8 0, .int .u8 0, .int .u8 0, .int .u8 0, .int .u8 0, .int .u8 0, .int .u8 0, .int .u8 0, .int .u8 0, .int .u8 0, .int .u8 0, .int .u8 0, .int .u8 0, .int .u8 0, .int .u8 0, .int .u8 0, .int .u8 0, .int .u8 0, .int .u8 0, .int .u8 0, .int .u8 0, .int .u8 0, .int .u8 0, .int .u8 0, .int .u8 0, .int .u8 0, .int .u8 0, .int .u8 0, .int .u8 0, .int .u8 0, .int .u8 0, .int .u8 0] 42)
  have hs1 : (w.alloc (.cells #[.int .u8 0, .int .u8 0, .int .u8 0, .int .u8 0, .int .u8 0, .int .u8 0, .int .u8 0, .int .u8 0, .int .u8 0, .int .u8 0, .int .u8 0, .int .u8 0, .int .u8 0, .int .u8 0, .int .u8 0, .int .u8 0, .int .u8 0, .int .u8 0, .int .u8 0, .int .u8 0, .int .u8 0, .int .u8 0, .int .u8 0, .int .u8 0, .int .u8 0, .int .u8 0, .int .u8 0, .int .u8 0, .int .u8 0, .int .u8 0, .int .u8 0, .int .u8 0] 42)).heap.size = w.heap.size + 1 := by simp
  generalize w.alloc (.cells #[.int .u8 0, .int .u8 0, .int .u8 0, .int .u8 0, .int .u8 0, .int .u8 0, .int .u8 0, .int .u8 0, .int .u8 0, .int .u8 0, .int .u8 0, .int .u8 0, .int .u8 0, .int .u8 0, .int .u8 0, .int .u8 0, .int .u8 0, .int .u8 0, .int .u8 0, .int .u8 0, .int .u8 0, .int .u8 0, .int .u8 0, .int .u8 0, .int .u8 0, .int .u8 0, .int .u8 0, .int .u8 0, .int .u8 0, .int .u8 0, .int .u8 0, .int .u8 0] 42) = w1 at hd0 hf1 hs1 ⊢
  have he0 := Blk.new w1 128 Z
  have hf2 := Fr.alloc w1 (.cells Z.toArray 128)
  generalize w1.alloc (.cells Z.toArray 128) = w2 at he0 hf2 ⊢
  obtain ⟨R, hR⟩ : ∃ R, R = w.heap.size := ⟨_, rfl⟩
  obtain ⟨E, hE⟩ : ∃ E, E = w.heap.size + 1 := ⟨_, rfl⟩
  rw [hs1, ← hE] at he0
  rw [← hE, ← hR]
  rw [← hR] at hd0
  have HRE := Lib.hid (And.intro hR hE)
  have HD := Lib.hid (hd0.frame hf2 (fun h => h))
  have HF2 := Lib.hid (hf1.non hf2)
  have hst0 : StL w2 E [] := ⟨⟨0, 0, 0, 0, 0, 0, 0, 0⟩, List.replicate 64 0, by unfold St8.ok; decide, by simp, rfl, fun h => absurd rfl h, by rw [HZ.out] at he0; exact he0⟩
  have HST0 := Lib.hid hst0
  clear hd0 hf1 hf2 hs1 hR hE he0 hzv hst0
  go_wp2_with fail
  go_loopw [8] (fun i wr => ∃ k : Nat, k ≤ vs.length ∧ i = .int .i64 k ∧ StL wr E (ls.take k).flatten ∧ Fr (One E) w2 wr) (fun i _ => vs.length - (intOf i).toNat)
  case atStart => exact ⟨0, Nat.zero_le _, rfl, HST0.out, Fr.refl _ _⟩
  case round =>
    obtain ⟨k, hk, rfl, hst, hfr⟩ := hrel
    have HST := Lib.hid hst
    have HFR := Lib.hid hfr
    have hfw : Fr Non w wr := HF2.out.new hfr (fun i h => by have h1 : i = E := h; have := HRE.out; omega)
    have HFW := Lib.hid hfw
    have hKE : E ≠ 4 := by have := HRE.out; have := HGS.out; omega
    have hSE : E ≠ 1 := by have := HRE.out; have := HGS.out; omega
    have HTB := Lib.hid (And.intro (HK.out.frame hfw (fun h => h)) (And.intro (HS.out.frame hfw (fun h => h)) (And.intro hKE hSE)))
    clear hst hfr hfw hKE hSE
    by_cases hlt : k < vs.length
    · obtain ⟨a', c', e, _, _, _, q4⟩ := HROW.out.non HFW.out
      obtain ⟨b, off, hab, hc⟩ := q4 k hlt
      injection e with e1 e2 e3
      subst hab
      subst e1
      clear e2 e3 q4
      obtain ⟨u, hu⟩ : ∃ u, vs[k]? = some u := ⟨_, List.getElem?_eq_getElem hlt⟩
      have hck := hc k u hu
      have hru := HVR.out k u hu
      have hkl : k < ls.length := by have := HVL.out; omega
      have hmem : ls[k]! ∈ ls := by rw [getElem!_pos ls k hkl]; exact List.getElem_mem hkl
      have hml := HM.out _ hmem
      have htk : (ls.take (k + 1)).flatten = (ls.take k).flatten ++ ls[k]! := by
        rw [List.take_succ_eq_append_getElem hkl, List.flatten_append, getElem!_pos ls k hkl]; simp
      have hll : (ls.take k).flatten.length ≤ 1000000000000000 := by
        have h1 : ls.flatten = (ls.take k).flatten ++ (ls.drop k).flatten := by rw [← List.flatten_append, List.take_append_drop]
        have h2 := HL.out
        rw [h1, List.length_append] at h2
        omega
      have hoff : ls[k]! ≠ [] → Off (One E) u := fun h => Row.offNew hru (fun i h => by have h1 : i = E := h; have := HRE.out; omega) h
      have HX := Lib.hid (And.intro (hru.non HFW.out) (And.intro hoff (And.intro hll (And.intro hml htk))))
      have z0 : (0 : Int) ≤ (k : Int) := by omega
      have z1 : (k : Int) < (vs.length : Int) := by omega
      clear hc hu hru hmem hml htk hll hoff
      go_wp2_with (go_at_call 70; refine (write_any E _ _ _ _ HST.out HX.out.1 HX.out.2.1 HX.out.2.2.1 HX.out.2.2.2.1 HTB.out.1 HTB.out.2.1 HTB.out.2.2.1 HTB.out.2.2.2).mono ?_; rintro e w9 ⟨rfl, h9, hf9⟩)
      go_roundw
      case rel => exact ⟨k + 1, by omega, by go_num, by rw [HX.out.2.2.2.2]; exact h9, HFR.out.trans hf9 (fun _ h => h) (fun _ h => .inl h)⟩
      case measure => simp [intOf]; omega
    · have hkn : k = vs.length := by omega
      have hft : (ls.take k).flatten = ls.flatten := by rw [List.take_of_length_le (by have := HVL.out; omega)]
      have hge : decide ((k : Int) < (vs.length : Int)) = false := by simp; omega
      have hD2 : DB wr R zero32 := HD.out.frame HFR.out (fun h => by have h1 : R = E := h; have := HRE.out; omega)
      have hst2 : StL wr E ls.flatten := by rw [← hft]; exact HST.out
      have hlb : ls.flatten.length ≤ 1000000000000000 := by have := HL.out; omega
      have HY := Lib.hid (And.intro hD2 (And.intro hst2 hlb))
      clear hkn hft hD2 hst2 hlb
      go_wp2_with fail
      refine (ssum_any E _ _ HY.out.2.1 HY.out.2.2 HTB.out.1 HTB.out.2.1).mono ?_
      rintro e w6 ⟨rfl, hf6⟩
      have hd6 := HY.out.1.frame hf6 (fun h => h)
      have hone := bs_one (sha ls.flatten)
      have hb32 : (bs (sha ls.flatten)).length = 32 := by rw [bs_length, sha_length]
      generalize hys : bs (sha ls.flatten) = ys at hone hb32 ⊢
      have hinfo : (Tryd.prog.info? 42).map (·.size) = some ys.toArray.size := by rw [List.size_toArray, hb32]; kernel_rfl
      have hinfo2 : (Tryd.prog.info? 42).map (·.size) = some ys.length := by rw [hb32]; kernel_rfl
      have hth : w6.there R 0 ys.toArray.size := by rw [List.size_toArray, hb32]; exact hd6.there
      have hrv := run_loadVar_mid (P := Tryd.prog) (w6.setCells R 0 ys.toArray.toList) R 0 42 ys _ (by have := World.rangeAt_setCells_same w6 R 0 ys (by rw [hb32]; exact hd6.there); simpa using this) Tryd.underlying42 rfl hinfo2
      have hfs := Fr.setCells' R ys.toArray.toList w6 0
      have HIN := Lib.hid (And.intro hinfo (And.intro hth (And.intro hrv (And.intro hfs hys))))
      have HON := Lib.hid hone
      have HF6 := Lib.hid hf6
      clear hinfo hinfo2 hth hrv hfs hys hone hb32 hd6 hf6
      go_wp2_with (refine wpList_store_mid rfl 42 (.tmp 2) (.tmp 15) rfl R 0 ys.toArray rfl rfl HIN.out.2.1 HIN.out.1 (all_one HON.out) ?_)
      refine bodyPost_ret (v := .agg ys.toArray) (by have h := HIN.out.2.2.1; simp [results, Tryd.results73, asAddr, Act.put] at h ⊢; exact h) rfl ⟨by rw [← HIN.out.2.2.2.2], ?_⟩
      have hx := HRE.out
      exact (HFW.out.non HF6.out).new HIN.out.2.2.2.1 (fun i h => by have h1 : i = R := h; omega)
end Go.Proofs.YtpmkcjgndljhgaaDoor
