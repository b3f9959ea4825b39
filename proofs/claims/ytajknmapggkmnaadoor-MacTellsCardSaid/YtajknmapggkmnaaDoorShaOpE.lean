/- package sha: Write -/
import Derived.Test.YtajknmapggkmnaaDoorShaOpD
import Derived.Test.YtajknmapggkmnaaDoorHeld
namespace Go.Proofs.YtajknmapggkmnaaDoor
open Go.ChangeShapes Go.WideShapes Go.ChangeAt Go.RowKit

theorem st_more {l c blk : List UInt8} {s : St8} (hb : blk.length = 64) (ht : blk.take (l.length % 64) = l.drop (64 * (l.length / 64))) (hs : s = shaRun (l.length / 64) shaInit l) (hn : l.length % 64 + c.length ≤ 64) :
    (splice blk (l.length % 64) c).length = 64 ∧
    (l.length % 64 + c.length < 64 → (splice blk (l.length % 64) c).take ((l ++ c).length % 64) = (l ++ c).drop (64 * ((l ++ c).length / 64)) ∧ s = shaRun ((l ++ c).length / 64) shaInit (l ++ c)) ∧
    (l.length % 64 + c.length = 64 → (splice blk (l.length % 64) c).take ((l ++ c).length % 64) = (l ++ c).drop (64 * ((l ++ c).length / 64)) ∧ shaBlock s (splice blk (l.length % 64) c) = shaRun ((l ++ c).length / 64) shaInit (l ++ c)) := by
  have hp : l.length % 64 < 64 := Nat.mod_lt _ (by omega)
  have hq : 64 * (l.length / 64) + l.length % 64 = l.length := Nat.div_add_mod _ _
  have hlen := length_splice blk (l.length % 64) c (by omega)
  have hdl : (l.drop (64 * (l.length / 64))).length = l.length % 64 := by rw [List.length_drop]; omega
  generalize hpp : l.length % 64 = p at *
  generalize hqq : l.length / 64 = q at *
  refine ⟨by omega, fun h => ?_, fun h => ?_⟩
  · have e1 : (l ++ c).length % 64 = p + c.length := by rw [List.length_append]; omega
    have e2 : (l ++ c).length / 64 = q := by rw [List.length_append]; omega
    rw [e1, e2]
    refine ⟨?_, by rw [shaRun_front _ _ _ _ (by omega)]; exact hs⟩
    rw [List.drop_append_of_le_length (by omega), splice, ht, ← List.append_assoc, List.take_append_of_le_length (by rw [List.length_append, hdl]; exact Nat.le_refl _)]
    exact List.take_of_length_le (by rw [List.length_append, hdl]; exact Nat.le_refl _)
  · have e1 : (l ++ c).length % 64 = 0 := by rw [List.length_append]; omega
    have e2 : (l ++ c).length / 64 = q + 1 := by rw [List.length_append]; omega
    rw [e1, e2]
    have e3 : splice blk p c = (l ++ c).drop (64 * q) := by
      rw [List.drop_append_of_le_length (by omega), splice, ht, List.drop_of_length_le (by omega : blk.length ≤ p + c.length), List.append_nil]
    refine ⟨?_, ?_⟩
    · rw [List.take_zero, List.drop_of_length_le (by rw [List.length_append]; omega)]
    · rw [shaRun_snoc, shaRun_front _ _ _ _ (by omega), ← hs, ← e3, List.take_of_length_le (by omega)]

theorem StB.start {w : World} {B n : Nat} {s t : St8} {blk : List UInt8} (h : StB w B s.list blk n) : StB (w.setCells B 0 (us t.list)) B t.list blk n := by
  have h1 := Blk.setCells (us t.list) w _ 0 h (by simp [us_length, St8.list])
  have e : splice (us s.list ++ (bs blk ++ [Value.int .i64 (n : Int)])) 0 (us t.list) = us t.list ++ (bs blk ++ [Value.int .i64 (n : Int)]) := by
    simp only [splice, List.take_zero, List.nil_append]
    rw [show 0 + (us t.list).length = (us s.list).length by simp [us_length, St8.list], List.drop_left]
  rw [e] at h1
  exact h1
theorem StB.num {w : World} {B n : Nat} {s : St8} {blk : List UInt8} (hb : blk.length = 64) (h : StB w B s.list blk n) (m : Nat) : StB (w.setCell ⟨B, 72, none⟩ (.int .i64 (m : Int))) B s.list blk m := by
  have h1 := Blk.set h 72 (.int .i64 (m : Int))
  have hl : (us s.list).length = 8 := by simp [us_length, St8.list]
  have hl2 : (bs blk).length = 64 := by rw [bs_length, hb]
  rw [List.set_append_right _ _ (by omega), List.set_append_right _ _ (by omega), hl, hl2] at h1
  exact h1
theorem StB.copy {w : World} {B n p : Nat} {s : St8} {blk c : List UInt8} (hb : blk.length = 64) (hp : p + c.length ≤ 64) (h : Blk w B 57 (splice (us s.list ++ (bs blk ++ [Value.int .i64 (n : Int)])) (8 + p) (bs c))) : StB w B s.list (splice blk p c) n := by
  have hl : (us s.list).length = 8 := by simp [us_length, St8.list]
  have e := splice_mid (us s.list) (bs blk) [Value.int .i64 (n : Int)] (bs c) p (by rw [bs_length, bs_length]; omega)
  rw [hl] at e
  rw [e] at h
  have e2 : splice (bs blk) p (bs c) = bs (splice blk p c) := by
    simp [splice, bs, List.map_take, List.map_drop]
  rw [e2] at h
  exact h
theorem StB.words {w : World} {B n : Nat} {s : St8} {blk : List UInt8} (h : StB w B s.list blk n) : w.rangeAt B 0 (us s.list) ∧ w.there B 0 8 := by
  refine ⟨Blk.range h 0 _ (fun j v hj => ?_), Blk.there h 0 8 (by simp [us_length, St8.list])⟩
  rw [Nat.zero_add, List.getElem?_append_left (List.getElem?_eq_some_iff.1 hj).1]
  exact hj
theorem StB.block {w : World} {B n : Nat} {s : St8} {blk : List UInt8} (h : StB w B s.list blk n) : w.rangeAt B 8 (bs blk) := by
  refine Blk.range h 8 _ (fun j v hj => ?_)
  have hl : (us s.list).length = 8 := by simp [us_length, St8.list]
  rw [List.getElem?_append_right (by omega), hl, show 8 + j - 8 = j by omega, List.getElem?_append_left (List.getElem?_eq_some_iff.1 hj).1]
  exact hj
theorem StB.frame {w w' : World} {B n : Nat} {s : List Nat} {blk : List UInt8} (h : StB w B s blk n) {S : Nat → Prop} (f : Fr S w w') (hn : ¬ S B) : StB w' B s blk n := Blk.frame h f hn
theorem StAt.range {w : World} {g : Nat} (h : StAt w g) : w.rangeAt g 0 (us shaInit.list) := fun j v hv => by
  have hj : j < 8 := by have := (List.getElem?_eq_some_iff.1 hv).1; simpa [us_length, St8.list] using this
  rw [us_at _ _ (by simpa [St8.list] using hj)] at hv
  rw [Nat.zero_add, h j hj]
  exact hv

theorem changed_lit (s : St8) (l : List UInt8) (w : World) (hs : s.ok) (hl : l.length = 64) (hK : KAt w 2) :
    Calls Tryd.prog 30 #[.agg #[.int .u32 s.a, .int .u32 s.b, .int .u32 s.c, .int .u32 s.d, .int .u32 s.e, .int .u32 s.f, .int .u32 s.g, .int .u32 s.h], .agg (bs l).toArray] w fun e w' => e = .returned (.agg #[.int .u32 (shaBlock s l).a, .int .u32 (shaBlock s l).b, .int .u32 (shaBlock s l).c, .int .u32 (shaBlock s l).d, .int .u32 (shaBlock s l).e, .int .u32 (shaBlock s l).f, .int .u32 (shaBlock s l).g, .int .u32 (shaBlock s l).h]) ∧ Fr Non w w' :=
  (changed_any s l w hs hl hK).mono fun _ _ h => ⟨h.1.trans rfl, h.2⟩
theorem StB.cells {w : World} {B n : Nat} {s : St8} {blk : List UInt8} (h : StB w B s.list blk n) :
    (w.cell? ⟨B, 0, none⟩ = some (.int .u32 s.a) ∧ w.cell? ⟨B, 1, none⟩ = some (.int .u32 s.b) ∧ w.cell? ⟨B, 2, none⟩ = some (.int .u32 s.c) ∧ w.cell? ⟨B, 3, none⟩ = some (.int .u32 s.d) ∧
      w.cell? ⟨B, 4, none⟩ = some (.int .u32 s.e) ∧ w.cell? ⟨B, 5, none⟩ = some (.int .u32 s.f) ∧ w.cell? ⟨B, 6, none⟩ = some (.int .u32 s.g) ∧ w.cell? ⟨B, 7, none⟩ = some (.int .u32 s.h)) := by
  have h1 := fun j => (block_cells h j).1
  exact ⟨h1 0, h1 1, h1 2, h1 3, h1 4, h1 5, h1 6, h1 7⟩
theorem StB.frozen {w : World} {B n : Nat} {s : St8} {blk : List UInt8} (h : StB w B s.list blk n) (j : Nat) : w.frozen? ⟨B, j, none⟩ = false := (block_cells h j).2
theorem StB.store {w : World} {B n : Nat} {s : St8} {blk : List UInt8} (h : StB w B s.list blk n) (t : St8) :
    StB ((((((((w.setCell ⟨B, 0, none⟩ (.int .u32 t.a)).setCell ⟨B, 1, none⟩ (.int .u32 t.b)).setCell ⟨B, 2, none⟩ (.int .u32 t.c)).setCell ⟨B, 3, none⟩ (.int .u32 t.d)).setCell ⟨B, 4, none⟩ (.int .u32 t.e)).setCell ⟨B, 5, none⟩ (.int .u32 t.f)).setCell ⟨B, 6, none⟩ (.int .u32 t.g)).setCell ⟨B, 7, none⟩ (.int .u32 t.h)) B t.list blk n ∧
    Fr (One B) w ((((((((w.setCell ⟨B, 0, none⟩ (.int .u32 t.a)).setCell ⟨B, 1, none⟩ (.int .u32 t.b)).setCell ⟨B, 2, none⟩ (.int .u32 t.c)).setCell ⟨B, 3, none⟩ (.int .u32 t.d)).setCell ⟨B, 4, none⟩ (.int .u32 t.e)).setCell ⟨B, 5, none⟩ (.int .u32 t.f)).setCell ⟨B, 6, none⟩ (.int .u32 t.g)).setCell ⟨B, 7, none⟩ (.int .u32 t.h)) := by
  constructor
  · exact StB.start (t := t) h
  · exact Fr.setCells' B (us t.list) w 0
set_option maxRecDepth 100000 in
set_option maxHeartbeats 4000000 in
theorem write_any (B : Nat) (l m : List UInt8) (v : Value) (w : World) (hst : StL w B l) (hv : Row w v (bs m)) (hoff : m ≠ [] → Off (One B) v) (hl : l.length ≤ 1000000000000000) (hm : m.length ≤ 140737488351232)
    (hK : KAt w 2) (hS : StAt w 0) (hB1 : B ≠ 2) (hB2 : B ≠ 0) :
    Calls Tryd.prog 25 #[.pointer (some ⟨B, 0, none⟩), v] w fun e w' => e = .returned (.tuple #[]) ∧ StL w' B (l ++ m) ∧ Fr (One B) w w' := by
  obtain ⟨s, blk, h1, h2, h3, h4, h5⟩ := hst
  have HV := Lib.hid hv
  have HO := Lib.hid hoff
  have HK := Lib.hid hK
  have HS := Lib.hid hS
  have HB := Lib.hid (And.intro hB1 hB2)
  obtain ⟨c, fz⟩ := h5.len h2
  have hwi : (Tryd.prog.info? 55).map (·.size) = some (us shaInit.list).length := by rw [us_length]; kernel_rfl
  have HWI := Lib.hid hwi
  have HG := Lib.hid (And.intro h1 (And.intro h2 (And.intro h3 h4)))
  have H5 := Lib.hid h5
  clear hv hoff hK hS hB1 hB2 h1 h2 h3 h4 h5 hwi
  by_cases h0 : l.length = 0
  case' pos =>
    have hc0 : ((l.length : Int) == 0) = true := by rw [h0]; rfl
    go_enter Tryd.func25, Tryd.ntmps25
    go_upto_region 2 with (fail)
    refine wp_region_lit ?_
    iterate 3 (first | go_values | go_skip | go_guarded | go_step | go_upon | go_back)
    refine wpList_load_mid rfl _ _ rfl 0 0 rfl (us shaInit.list) _ HS.out.range Tryd.underlying55 rfl HWI.out ?_
    have hth := H5.out.words.2
    have hb9 := H5.out.start (t := shaInit)
    have hfs := Fr.setCells' B (us shaInit.list) w 0
    have HTH := Lib.hid hth
    have HB9 := Lib.hid hb9
    have HFS := Lib.hid hfs
    clear hth hb9 hfs
    go_wp2_with (refine wpList_store_mid rfl 55 (.tmp 15) (.tmp 13) rfl B 0 (us shaInit.list).toArray rfl rfl HTH.out HWI.out (all_one (us_one _)) ?_)
    simp only [Act.put]
    have hl0 : l = [] := List.eq_nil_of_length_eq_zero h0
    have HE : Hid (shaInit.ok ∧ shaInit = shaRun (l.length / 64) shaInit l) := Lib.hid ⟨shaInit_ok, by rw [h0]; rfl⟩
    clear hl0 hc0 c fz h0 H5 HTH
  case' neg =>
    have hc0 : ((l.length : Int) == 0) = false := by simp; exact fun h => h0 (by rw [h]; rfl)
    go_enter Tryd.func25, Tryd.ntmps25
    go_wp2
    have HE : Hid (s.ok ∧ s = shaRun (l.length / 64) shaInit l) := Lib.hid ⟨HG.out.1, HG.out.2.2.2 (fun h => h0 (by rw [h]; rfl))⟩
    have HB9 := H5
    have HFS : Hid (Fr (One B) w w) := Lib.hid (Fr.refl _ _)
    clear hc0 c fz h0 H5
  all_goals
    as_aux_lemma =>
      go_loopw [1] (fun v' wr => ∃ (k : Nat) (s : St8) (bk : List UInt8), k ≤ m.length ∧ s.ok ∧ bk.length = 64 ∧ bk.take ((l ++ m.take k).length % 64) = (l ++ m.take k).drop (64 * ((l ++ m.take k).length / 64)) ∧ s = shaRun ((l ++ m.take k).length / 64) shaInit (l ++ m.take k) ∧ StB wr B s.list bk (l ++ m.take k).length ∧ Row wr v' (bs (m.drop k)) ∧ (m.drop k ≠ [] → Off (One B) v') ∧ Fr (One B) w wr) (fun v' _ => vlen v')
      case atStart => exact ⟨0, _, blk, Nat.zero_le _, HE.out.1, HG.out.2.1, by rw [List.take_zero, List.append_nil]; exact HG.out.2.2.1, by rw [List.take_zero, List.append_nil]; exact HE.out.2, by rw [List.take_zero, List.append_nil]; exact HB9.out, by rw [List.drop_zero]; exact HV.out.frameNe HFS.out HO.out, by rw [List.drop_zero]; exact HO.out, HFS.out⟩
      case round =>
        obtain ⟨k, s, bk, hk, hok, hbk, htk, hs, hst, hrow, hof, hfr⟩ := hrel
        have hML : l ++ m = (l ++ m.take k) ++ m.drop k := by rw [List.append_assoc, List.take_append_drop]
        have hdl : (m.drop k).length = m.length - k := List.length_drop
        have hLl : (l ++ m.take k).length = l.length + k := by rw [List.length_append, List.length_take]; omega
        have hstep : ∀ n, n ≤ (m.drop k).length → m.take (k + n) = m.take k ++ (m.drop k).take n ∧ m.drop (k + n) = (m.drop k).drop n := fun n _ => ⟨List.take_add, List.drop_drop.symm⟩
        have HST := Lib.hid hstep
        have HML := Lib.hid hML
        have hLb : (l ++ m.take k).length + (m.drop k).length ≤ 1140737488351232 := by omega
        have hkk := hdl
        have HLK := Lib.hid hkk
        clear hstep hML hdl hLl hkk
        generalize hLL : l ++ m.take k = L at htk hs hst hLb HML
        generalize m.drop k = r at hrow hof hLb HML HST HLK
        have HLL := Lib.hid hLL
        clear hLL
        have hlen := run_lenRow (P := Tryd.prog) hrow 22 5 Tryd.underlying22
        rw [bs_length] at hlen
        obtain ⟨c, fz⟩ := hst.len hbk
        have HG2 := Lib.hid (And.intro hok (And.intro hbk (And.intro htk hs)))
        have HSB := Lib.hid hst
        have HROW := Lib.hid hrow
        have HOF := Lib.hid hof
        have HFR := Lib.hid hfr
        clear hok hbk htk hs hst hrow hof hfr
        by_cases hr0 : 0 < r.length
        · have hpos : (0 : Int) < (r.length : Int) := by omega
          obtain ⟨p, hp⟩ : ∃ p, p = L.length % 64 := ⟨_, rfl⟩
          have hp64 : p < 64 := by omega
          have hN : (0 : Int) ≤ (L.length : Int) := by omega
          have hNb : (L.length : Int) ≤ 1140737488351232 := by omega
          have hmod : ((L.length : Int)).tmod 64 = (p : Int) := by rw [Int.tmod_eq_emod_of_nonneg hN]; omega
          have hmod2 : (L.length : Int) % 64 = (p : Int) := by omega
          have hsl := run_arrLo (P := Tryd.prog) Tryd.underlying47 (by kernel_rfl) B 8 .i64 (p : Int) p rfl hp64
          obtain ⟨n, hn⟩ : ∃ n, n = (r.take (64 - p)).length := ⟨_, rfl⟩
          have hn1 : 0 < n ∧ p + n ≤ 64 ∧ n ≤ r.length ∧ (p + n = 64 ∨ n = r.length) := by rw [List.length_take] at hn; omega
          obtain ⟨vs, hsub, hvs, hvo⟩ := run_subLo (P := Tryd.prog) HROW.out 22 5 Tryd.underlying22 (by kernel_rfl) .i64 (n : Int) n rfl (by rw [bs_length]; omega)
          have HP := Lib.hid hp
          have HN := Lib.hid hn
          have HVS := Lib.hid (And.intro hvs hvo)
          have hNz : (0 : Int) ≤ (p : Int) := by omega
          clear hp hn hvs hvo
          obtain ⟨hn1, hn2, hn3, hn4⟩ := hn1
          go_wp2
          go_still_tail 10, (by kernel_rfl)
          change wpList _ _ _ _ _ wr.drew
          refine wpList_copy_fr rfl (.tmp 27) (.tmp 28) 22 22 rfl 5 Tryd.underlying22 (by kernel_rfl) B (8 + p) _ 57 (Blk.non HSB.out (Fr.drew _)) (64 - p) (64 - p) u1 (bs r) (HROW.out.non (Fr.drew _)) rfl rfl (by simp [us_length, bs_length, St8.list, HG2.out.2.1]; omega) (bs_one _) ?_
          intro w2 hb2 hf2
          have e : (bs r).take (64 - p) = bs (r.take (64 - p)) := by simp [bs, List.map_take]
          rw [e] at hb2 ⊢
          rw [bs_length, ← HN.out]
          have hb3 := StB.copy HG2.out.2.1 (by rw [← HN.out]; exact hn2) hb2
          have hmore := st_more HG2.out.2.1 HG2.out.2.2.1 HG2.out.2.2.2 (c := r.take (64 - p)) (by rw [← HN.out, ← HP.out]; exact hn2)
          rw [← HP.out, ← HN.out] at hmore
          have hr2 := HST.out n hn3
          have hrn : r.take (64 - p) = r.take n := by
            rcases hn4 with h | h
            · rw [show 64 - p = n by omega]
            · rw [List.take_of_length_le (by omega), List.take_of_length_le (by omega)]
          rw [hrn] at hb3 hmore
          have hLn : (L ++ r.take n).length = L.length + n := by rw [List.length_append, List.length_take]; omega
          have hmk : l ++ m.take (k + n) = L ++ r.take n := by rw [hr2.1, ← List.append_assoc, HLL.out]
          obtain ⟨c2, fz2⟩ := hb3.len hmore.1
          have HB3 := Lib.hid hb3
          have HF3 : Hid (Fr (One B) wr w2) := Lib.hid ((Fr.drew wr).non hf2)
          have HMO := Lib.hid hmore
          have HR2 := Lib.hid hr2
          have HLN := Lib.hid hLn
          have HMK := Lib.hid hmk
          simp only [Act.put, goInt, List.setIfInBounds_toArray, List.set_cons_succ, List.set_cons_zero]
          clear c fz hb2 hf2 e hb3 hmore hr2 hrn hLn hmk hsl hmod hmod2
          rcases Nat.lt_or_ge (p + n) 64 with hlt | hge
          · have ht : (((L.length : Int) + (n : Int)) % 64 == 0) = false := by have := HP.out; simp; omega
            go_wp2
            go_roundw
            case rel =>
              have hlk := HLK.out
              have hne : r ≠ [] := fun h => by rw [h] at hr0; simp at hr0
              have hoff := HVS.out.2 _ (HOF.out hne)
              have hmo := HMO.out.2.1 hlt
              have hf4 := HF3.out.trans (Fr.setCell w2 ⟨B, 72, none⟩ (.int .i64 ((L.length : Int) + (n : Int)))) (fun _ h => h) (fun _ h => .inl h) (U := One B)
              refine ⟨k + n, s, splice bk p (r.take n), by omega, HG2.out.1, HMO.out.1, ?_, ?_, ?_, ?_, fun _ => hoff, HFR.out.trans hf4 (fun _ h => h) (fun _ h => .inl h)⟩
              · rw [HMK.out]; exact hmo.1
              · rw [HMK.out]; exact hmo.2
              · rw [HMK.out, HLN.out]; exact HB3.out.num HMO.out.1 (L.length + n)
              · rw [HR2.out.2]
                have hx : bs (r.drop n) = (bs r).drop n := by simp [bs, List.map_drop]
                rw [hx]
                exact HVS.out.1.frame hf4 hoff
            case measure =>
              rw [HVS.out.1.vlen, HROW.out.vlen, List.length_drop, bs_length]
              omega
          · have hge2 : p + n = 64 := by omega
            have ht : (((L.length : Int) + (n : Int)) % 64 == 0) = true := by have := HP.out; simp; omega
            go_wp2
            have hb4 := HB3.out.num HMO.out.1 (L.length + n)
            have hf4 := HF3.out.trans (Fr.setCell w2 ⟨B, 72, none⟩ (.int .i64 ((L.length : Int) + (n : Int)))) (fun _ h => h) (fun _ h => .inl h) (U := One B)
            have hb5 : StB (w2.setCell ⟨B, 72, none⟩ (.int .i64 ((L.length : Int) + (n : Int)))) B s.list (splice bk p (r.take n)) (L.length + n) := hb4
            generalize w2.setCell ⟨B, 72, none⟩ (.int .i64 ((L.length : Int) + (n : Int))) = w3 at hf4 hb5 ⊢
            have hmo := HMO.out.2.2 hge2
            have hbl := HMO.out.1
            generalize splice bk p (r.take n) = bq at hb5 hmo hbl
            have HB5 := Lib.hid hb5
            have HF4 := Lib.hid hf4
            have HMO2 := Lib.hid (And.intro hbl hmo)
            obtain ⟨c0, c1, c2, c3, c4, c5, c6, c7⟩ := hb5.cells
            have hblock := hb5.block
            have hK3 := (HK.out.frame HFR.out (fun h => HB.out.1 h.symm)).frame hf4 (fun h => HB.out.1 h.symm)
            have HK3 := Lib.hid hK3
            clear hb4 hf4 hb5 hmo hbl fz2 hsub hK3
            have hu41 := Tryd.underlying47
            have hi41 : (Tryd.prog.info? 47).map (·.size) = some (bs bq).length := by rw [bs_length, HMO2.out.1]; kernel_rfl
            have hS0 : (fun w' : World => w'.rangeAt B 8 (bs bq)) w3.drew := hblock
            refine wp_region_held_drew (S := fun w' => w'.rangeAt B 8 (bs bq)) (by kernel_rfl) hS0 (fun hHeld => ?_)
            refine wpAnyH_takeL (i := 0) 47 (v := ?_) rfl rfl (by kernel_rfl) (by kernel_rfl) (by kernel_rfl) (fun _ _ _ h => h) (by assumption) (Or.inl ⟨by rfl, ?_⟩) ?_
            rotate_left
            · intro w hSw; go_simp; with_reducible rfl
            simp only [List.set_cons_zero, List.set_cons_succ]
            refine wpAnyH_takeL (i := 1) 48 (v := ?_) rfl rfl (by kernel_rfl) (by kernel_rfl) (by kernel_rfl) (fun _ _ _ h => h) (by assumption) (Or.inl ⟨by rfl, ?_⟩) ?_
            rotate_left
            · intro w hSw; go_simp; with_reducible rfl
            simp only [List.set_cons_zero, List.set_cons_succ]
            refine wpAnyH_takeL (i := 2) 49 (v := ?_) rfl rfl (by kernel_rfl) (by kernel_rfl) (by kernel_rfl) (fun _ _ _ h => h) (by assumption) (Or.inl ⟨by rfl, ?_⟩) ?_
            rotate_left
            · intro w hSw; go_simp; with_reducible rfl
            simp only [List.set_cons_zero, List.set_cons_succ]
            refine wpAnyH_takeL (i := 3) 50 (v := ?_) rfl rfl (by kernel_rfl) (by kernel_rfl) (by kernel_rfl) (fun _ _ _ h => h) (by assumption) (Or.inl ⟨by rfl, ?_⟩) ?_
            rotate_left
            · intro w hSw; go_simp; with_reducible rfl
            simp only [List.set_cons_zero, List.set_cons_succ]
            refine wpAnyH_takeL (i := 5) 52 (v := ?_) rfl rfl (by kernel_rfl) (by kernel_rfl) (by kernel_rfl) (fun _ _ _ h => h) (by assumption) (Or.inl ⟨by rfl, ?_⟩) ?_
            rotate_left
            · intro w hSw; go_simp; with_reducible rfl
            simp only [List.set_cons_zero, List.set_cons_succ]
            refine wpAnyH_takeL (i := 6) 53 (v := ?_) rfl rfl (by kernel_rfl) (by kernel_rfl) (by kernel_rfl) (fun _ _ _ h => h) (by assumption) (Or.inl ⟨by rfl, ?_⟩) ?_
            rotate_left
            · intro w hSw; go_simp; with_reducible rfl
            simp only [List.set_cons_zero, List.set_cons_succ]
            refine wpAnyH_takeL (i := 7) 54 (v := ?_) rfl rfl (by kernel_rfl) (by kernel_rfl) (by kernel_rfl) (fun _ _ _ h => h) (by assumption) (Or.inl ⟨by rfl, ?_⟩) ?_
            rotate_left
            · intro w hSw; go_simp; with_reducible rfl
            simp only [List.set_cons_zero, List.set_cons_succ]
            refine wpAnyH_takeL (i := 8) 55 (v := .agg (bs bq).toArray) rfl rfl (by kernel_rfl) (by kernel_rfl) (by kernel_rfl) (fun _ _ _ h => h) (by assumption) (yieldsIf_load_mid (by rfl) _ _ rfl B 8 rfl (bs bq) _ (fun w h => h) hu41 rfl hi41) ?_
            simp only [List.set_cons_zero, List.set_cons_succ]
            refine wpAnyH_ready (rs := [4]) (by kernel_rfl) (by simp) ?_
            refine AllReadyH.cons rfl (fun K hK => ?_) AllReadyH.nil
            go_simp
            refine hK.out _ _ (hHeld) (fun hHeld => ?_)
            clear hK K
            refine wpAnyH_ready (rs := [9]) (by kernel_rfl) (by simp) ?_
            refine AllReadyH.cons rfl (fun K hK => ?_) AllReadyH.nil
            go_simp
            go_wp2_with (go_at_call 30; refine (changed_lit s bq _ HG2.out.1 HMO2.out.1 (HK3.out.frame (Fr.drew _) (fun h => h))).mono ?_; rintro e w5 ⟨rfl, hf5⟩; have hs5 := HB5.out.frame ((Fr.drew _).non hf5) (fun h => h); obtain ⟨d0, d1, d2, d3, d4, d5, d6, d7⟩ := hs5.cells; have hblock5 := hs5.block; have f0 := hs5.frozen 0; have f1 := hs5.frozen 1; have f2 := hs5.frozen 2; have f3 := hs5.frozen 3; have f4 := hs5.frozen 4; have f5 := hs5.frozen 5; have f6 := hs5.frozen 6; have f7 := hs5.frozen 7)
            refine hK.out _ _ (hblock5) (fun hHeld => ?_)
            clear hK K
            refine wpAnyH_takeL (i := 10) 57 (v := ?_) rfl rfl (by kernel_rfl) (by kernel_rfl) (by kernel_rfl) (fun _ _ _ h => h) (by assumption) (Or.inl ⟨by rfl, ?_⟩) ?_
            rotate_left
            · intro w hSw; go_simp; with_reducible rfl
            simp only [List.set_cons_zero, List.set_cons_succ]
            refine wpAnyH_takeL (i := 11) 58 (v := ?_) rfl rfl (by kernel_rfl) (by kernel_rfl) (by kernel_rfl) (fun _ _ _ h => h) (by assumption) (Or.inl ⟨by rfl, ?_⟩) ?_
            rotate_left
            · intro w hSw; go_simp; with_reducible rfl
            simp only [List.set_cons_zero, List.set_cons_succ]
            have hstn := hs5.start (t := shaBlock s bq)
            have hfsn := Fr.setCells' B (us (shaBlock s bq).list) w5 0
            have hth5 := hs5.words.2
            have hwi5 : (Tryd.prog.info? 55).map (·.size) = some 8 := HWI.out
            refine wpAnyH_ready (rs := [12]) (by kernel_rfl) (by simp) ?_
            refine AllReadyH.cons (o := ⟨none, .store 55 (.tmp 58) (.tmp 56), _, _, _, none⟩) rfl (fun K hK => ?_) AllReadyH.nil
            rw [if_pos (by rfl)]
            refine wp_store_mid 55 (.tmp 58) (.tmp 56) rfl B 0 (us (shaBlock s bq).list).toArray rfl rfl hth5 hwi5 (all_one (us_one _)) ?_
            generalize hw9 : w5.setCells B 0 (us (shaBlock s bq).list).toArray.toList = w9
            have hstn9 : StB w9 B (shaBlock s bq).list bq (L.length + n) := by rw [← hw9]; exact hstn
            have hfs9 : Fr (One B) w5 w9 := by rw [← hw9]; exact hfsn
            have HSTN := Lib.hid (And.intro hstn9 hfs9)
            have HF5 := Lib.hid hf5
            simp only [Act.put]
            clear hw9 hstn9 hfs9 hstn hfsn hth5 hwi5
            refine hK.out _ _ (HSTN.out.1.block) (fun hHeld => ?_)
            clear hK K
            refine wpAnyH_done (by kernel_rfl) ?_ _
            clear d0 d1 d2 d3 d4 d5 d6 d7 f0 f1 f2 f3 f4 f5 f6 f7 c0 c1 c2 c3 c4 c5 c6 c7 hs5 hf5 hblock5 hblock
            go_wp2
            go_roundw
            case rel =>
              have hlk := HLK.out
              have hne : r ≠ [] := fun h => by rw [h] at hr0; simp at hr0
              have hoff := HVS.out.2 _ (HOF.out hne)
              have hf6 := (HF4.out.thenNon ((Fr.drew w3).non HF5.out)).trans HSTN.out.2 (fun _ h => h) (fun _ h => .inl h) (U := One B)
              refine ⟨k + n, shaBlock s bq, bq, by omega, shaBlock_ok _ _, HMO2.out.1, ?_, ?_, ?_, ?_, fun _ => hoff, HFR.out.trans hf6 (fun _ h => h) (fun _ h => .inl h)⟩
              · rw [HMK.out]; exact HMO2.out.2.1
              · rw [HMK.out]; exact HMO2.out.2.2
              · rw [HMK.out, HLN.out]; exact HSTN.out.1
              · rw [HR2.out.2]
                have hx : bs (r.drop n) = (bs r).drop n := by simp [bs, List.map_drop]
                rw [hx]
                exact HVS.out.1.frame hf6 hoff
            case measure =>
              rw [HVS.out.1.vlen, HROW.out.vlen, List.length_drop, bs_length]
              omega
        · have hr00 : r = [] := by cases r with
            | nil => rfl
            | cons x xs => exact absurd (by simp) hr0
          have hnp : ¬ (0 : Int) < (r.length : Int) := by omega
          have hge : decide ((0 : Int) < (r.length : Int)) = false := by simpa using hnp
          have hfin : l ++ m = L := by rw [HML.out, hr00, List.append_nil]
          have HFIN := Lib.hid hfin
          clear hr00 hfin c fz
          go_wp2
          go_end0
          rw [HFIN.out]
          exact ⟨rfl, ⟨s, bk, HG2.out.1, HG2.out.2.1, HG2.out.2.2.1, fun _ => HG2.out.2.2.2, HSB.out⟩, HFR.out⟩
end Go.Proofs.YtajknmapggkmnaaDoor
