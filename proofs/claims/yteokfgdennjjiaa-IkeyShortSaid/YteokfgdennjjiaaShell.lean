/- Arguments opened into rows: the frame of a law's proof stands on these. Nothing of the program. -/
import Derived.Test.YteokfgdennjjiaaBase
import Derived.ShutString
import Derived.ChangeOld
import Derived.SizedLaws
import Derived.Deep.CondSized
namespace Go.Proofs.Yteokfgdennjjiaa
open Go.ChangeShapes Go.WideShapes Go.ChangeAt Go.RowKit

theorem laidOut : laidOutB Try.prog = true := by kernel_rfl
theorem ownKn : ownKnob Try.prog.godebug = none := by kernel_rfl

section
variable {P : Program} {H : Type} {enc : TypeId × Value → H} {W : World}

theorem row_of {a : Addr} {len cap : Nat} {us : List Value} (hl : len ≤ cap) (hm : cap ≤ maxLen) (hu : us.length = cap) (hc : ∀ i, i < us.length → W.cell? (a.add i) = us[i]?) : Row W (.slice (some a) len cap) (us.take len) := by
  have hlen : (us.take len).length = len := by simp; omega
  refine ⟨some a, cap, by rw [hlen], by rw [hlen]; exact hl, hm, (by intro h; cases h), fun j hj => ?_⟩
  obtain ⟨b, off, spot⟩ := a
  have hspot : spot = none := by
    have h0 := hc 0 (by omega)
    rw [List.getElem?_eq_getElem (by omega)] at h0
    simpa [Addr.add] using World.cell?_spot h0
  subst hspot
  refine ⟨b, off, rfl, fun i u hi => ?_⟩
  have hil := (List.getElem?_eq_some_iff.1 hi).1
  rw [hlen] at hil
  rw [List.getElem?_take_of_lt hil] at hi
  rw [← Addr.add_lit, hc i (by omega)]
  exact hi

/-- a slice of integers that came in reads as a list -/
theorem open_rowInts {t e : TypeId} {k : IntKind} {v : Value} {d : DataW H} {p : List MemPlace} (ht : P.underlying t = some (.slice e)) (he : P.underlying e = some (.int k)) (hc : P.cellsOf e = 1)
    (hv : ∃ a len cap, v = .slice a len cap) (h : DataW.Trod enc P W 0 (fun _ => true) true t v d p) :
    ∃ zs : List Int, Row W v (zs.map (Value.int k)) ∧ (∀ z ∈ zs, (Lit.int k z).wf = true) ∧ ((d = .nil ∧ zs = []) ∨ ∃ spare, d = .slice (lits k zs) spare) := by
  obtain ⟨a, len, cap, rfl⟩ := hv
  obtain ⟨fuel, hf⟩ := h
  rcases open_ints ht he hc hf with ⟨hcs, hx⟩ | ⟨x, l, c, zs, hcs, _, hl, hm, hz, hx, hcell, hwz⟩
  · simp [Value.cells] at hcs
    obtain ⟨rfl, rfl, rfl⟩ := hcs
    injection hx with hx1 hx2
    exact ⟨[], ⟨none, 0, rfl, Nat.le_refl _, Nat.zero_le _, fun _ => rfl, fun j hj => absurd hj (by simp)⟩, by simp, .inl ⟨hx1, rfl⟩⟩
  · simp [Value.cells] at hcs
    obtain ⟨rfl, rfl, rfl⟩ := hcs
    injection hx with hx1 hx2
    have hz' : zs.length = cap := by simpa using hz
    refine ⟨zs.take len, ?_, fun z hz => hwz z (List.mem_of_mem_take hz), .inr ⟨_, hx1⟩⟩
    rw [List.map_take]
    refine row_of hl hm (by simpa using hz') (fun i hi => ?_)
    have hi' : i < zs.length := by simpa using hi
    rw [hcell i hi']
    simp [List.getD, hi']

theorem bytes_of_wf (zs : List Int) (h : ∀ z ∈ zs, (Lit.int .u8 z).wf = true) : zs.map (Value.int .u8) = bs (zs.map fun z => UInt8.ofNat z.toNat) := by
  unfold bs
  rw [List.map_map]
  refine List.map_congr_left fun z hz => ?_
  have hw := h z hz
  have e1 : IntKind.u8.min = 0 := by decide
  have e2 : IntKind.u8.max = 255 := by decide
  simp only [Lit.wf, Bool.and_eq_true, decide_eq_true_eq, e1, e2] at hw
  show Value.int .u8 z = Value.int .u8 ((UInt8.ofNat z.toNat).toNat : Int)
  rw [UInt8.toNat_ofNat', Nat.mod_eq_of_lt (by omega)]
  congr 1
  omega

theorem open_rowBytes {t e : TypeId} {v : Value} {d : DataW H} {p : List MemPlace} (ht : P.underlying t = some (.slice e)) (he : P.underlying e = some (.int .u8)) (hc : P.cellsOf e = 1)
    (hv : ∃ a len cap, v = .slice a len cap) (h : DataW.Trod enc P W 0 (fun _ => true) true t v d p) :
    ∃ l : List UInt8, Row W v (bs l) ∧ ((d = .nil ∧ l = []) ∨ ∃ elems spare, d = .slice elems spare ∧ elems.length = l.length) := by
  obtain ⟨zs, h1, h2, h3⟩ := open_rowInts ht he hc hv h
  rw [bytes_of_wf zs h2] at h1
  refine ⟨_, h1, ?_⟩
  rcases h3 with ⟨h4, rfl⟩ | ⟨spare, h4⟩
  · exact .inl ⟨h4, rfl⟩
  · exact .inr ⟨_, spare, h4, by simp [lits]⟩

/-- a slice of texts that came in -/
theorem open_rowStrs {t e : TypeId} {v : Value} {d : DataW H} {p : List MemPlace} (ht : P.underlying t = some (.slice e)) (he : P.underlying e = some .string) (hc : P.cellsOf e = 1)
    (hv : ∃ a len cap, v = .slice a len cap) (h : DataW.Trod enc P W 0 (fun _ => true) true t v d p) :
    ∃ ss : List ByteArray, Row W v (ss.map Value.string) ∧ (∀ s ∈ ss, s.size ≤ maxLen) ∧ ((d = .nil ∧ ss = []) ∨ ∃ spare, d = .slice (strs ss) spare) := by
  obtain ⟨a, len, cap, rfl⟩ := hv
  obtain ⟨fuel, hf⟩ := h
  rcases open_strings ht he hc hf with ⟨hcs, hx⟩ | ⟨x, l, c, ss, hcs, _, hl, hm, hz, hx, hcell, hwz⟩
  · simp [Value.cells] at hcs
    obtain ⟨rfl, rfl, rfl⟩ := hcs
    injection hx with hx1 hx2
    exact ⟨[], ⟨none, 0, rfl, Nat.le_refl _, Nat.zero_le _, fun _ => rfl, fun j hj => absurd hj (by simp)⟩, by simp, .inl ⟨hx1, rfl⟩⟩
  · simp [Value.cells] at hcs
    obtain ⟨rfl, rfl, rfl⟩ := hcs
    injection hx with hx1 hx2
    have hz' : ss.length = cap := by simpa using hz
    refine ⟨ss.take len, ?_, fun z hz => hwz z (List.mem_of_mem_take hz), .inr ⟨_, hx1⟩⟩
    rw [List.map_take]
    refine row_of hl hm (by simpa using hz') (fun i hi => ?_)
    have hi' : i < ss.length := by simpa using hi
    rw [hcell i hi']
    simp [List.getD, hi']

theorem nat_of_wf {k : IntKind} {z : Int} (h : (Lit.int k z).wf = true) (hk : k.min = 0) : ∃ n : Nat, z = (n : Int) ∧ (n : Int) ≤ k.max := by
  simp only [Lit.wf, Bool.and_eq_true, decide_eq_true_eq, hk] at h
  exact ⟨z.toNat, by omega, by omega⟩
theorem int_of_wf {k : IntKind} {z : Int} (h : (Lit.int k z).wf = true) : k.min ≤ z ∧ z ≤ k.max := by
  simpa only [Lit.wf, Bool.and_eq_true, decide_eq_true_eq] using h
theorem cap_of_sized {ts : List TypeId} {ds : List (DataW H)} (h : (DataW.weightsEach P ts ds).all (· ≤ reachBytes) = true) {j : Nat} {t e : TypeId} {d : DataW H} {n : Nat} (ht : ts[j]? = some t) (hd : ds[j]? = some d) (hu : P.underlying t = some (.slice e))
    (hn : (d = .nil ∧ n = 0) ∨ ∃ elems spare, d = .slice elems spare ∧ elems.length = n) : n * P.bytesOf e ≤ 140737488351232 := by
  rcases hn with ⟨_, rfl⟩ | ⟨elems, spare, rfl, rfl⟩
  · simp
  · have := sized_slice h ht hd hu
    rw [Nat.add_mul] at this
    have hr : reachBytes = 140737488351232 := by decide
    omega
end
end Go.Proofs.Yteokfgdennjjiaa
