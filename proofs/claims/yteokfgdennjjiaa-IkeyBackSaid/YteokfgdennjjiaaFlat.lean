/- structs of numbers and texts that came in, and slices of such. Nothing of the program. -/
import Derived.Test.YteokfgdennjjiaaShell
import Derived.Test.YteokfgdennjjiaaSRow
import Derived.OpenShut
import Derived.Deep.Slices
import Derived.SliceStrings
namespace Go.Proofs.Yteokfgdennjjiaa
open Go.ChangeShapes Go.WideShapes Go.ChangeAt Go.RowKit

inductive FK where
  | int (k : IntKind)
  | str
def FK.ty : FK → TypeDesc
  | .int k => .int k
  | .str => .string
def FK.okv : FK → Value → Prop
  | .int k, v => ∃ z, v = .int k z ∧ (Lit.int k z).wf = true
  | .str, v => ∃ s : ByteArray, v = .string s ∧ s.size ≤ maxLen
def FK.dat {H : Type} : FK → Value → DataW H → Prop
  | .int _, _, _ => True
  | .str, v, d => ∀ s, v = .string s → d = .lit (.string s.data.toList)
section
variable {P : Program} {H : Type} {enc : TypeId × Value → H} {W : World}
theorem sized_parts' {ts : List TypeId} {ds parts : List (DataW H)} (h : (DataW.weightsEach P ts ds).all (· ≤ reachBytes) = true) {j : Nat} {t : TypeId} {fs : Array Field} (ht : ts[j]? = some t) (hd : ds[j]? = some (.agg parts)) (hu : P.underlying t = some (.struct fs)) :
    (DataW.weightsEach P (fs.toList.map (·.type)) parts).all (· ≤ reachBytes) = true := by
  rw [List.all_eq_true]
  intro n hn
  exact List.all_eq_true.1 h _ (DataW.weights_mem_each ht hd n (by simp only [DataW.weights, hu]; exact hn))
/-- the cells of a struct of numbers and texts -/
theorem open_cells {t : TypeId} {fs : Array Field} (ks : List FK) {cs : List Value} {y : DataW H × List MemPlace} {fuel : Nat} (ht : P.underlying t = some (.struct fs)) (hn : fs.size = ks.length)
    (hf : ∀ (i : Nat) (f : Field) (k : FK), fs[i]? = some f → ks[i]? = some k → f.offset = i ∧ P.underlying f.type = some k.ty ∧ P.cellsOf f.type = 1) (ct : P.cellsOf t = ks.length)
    (h : DataW.trod enc P W 0 (fun _ => true) true fuel t cs = some y) :
    cs.length = ks.length ∧ (∃ ys : List (DataW H), y.1 = .agg ys ∧ ∀ (i : Nat) (k : FK), ks[i]? = some k → ∃ v d, cs[i]? = some v ∧ ys[i]? = some d ∧ k.okv v ∧ k.dat v d) := by
  obtain ⟨xs, m, _, rfl, hl, hlen, hel⟩ := DataW.trod_struct ht h
  refine ⟨by omega, xs.map (·.1), rfl, fun i k hk => ?_⟩
  have hi := (List.getElem?_eq_some_iff.1 hk).1
  obtain ⟨e1, e2, e3⟩ := hf i fs[i] k (Array.getElem?_eq_getElem (by omega)) hk
  have h2 := hel i fs[i] (Array.getElem?_eq_getElem (by omega))
  have hxi : xs[i]? = some (xs[i]'(by omega)) := List.getElem?_eq_getElem _
  rw [hxi, e1, e3] at h2
  have hcv : ∀ v, (cs.drop i).take 1 = [v] → cs[i]? = some v := fun v hv => by
    have h4 : ((cs.drop i).take 1)[0]? = some v := by rw [hv]; rfl
    rw [List.getElem?_take_of_lt (by omega), List.getElem?_drop] at h4
    simpa using h4
  cases k with
  | int κ =>
    obtain ⟨q, c1, _, c3⟩ := DataW.trod_int e2 h2
    exact ⟨_, xs[i].1, hcv _ c1, by rw [List.getElem?_map, hxi]; rfl, ⟨q, rfl, c3⟩, trivial⟩
  | str =>
    obtain ⟨s, c1, c2, c3⟩ := DataW.trod_string e2 h2
    refine ⟨_, xs[i].1, hcv _ c1, by rw [List.getElem?_map, hxi]; rfl, ⟨s, rfl, c3⟩, fun s' hs => ?_⟩
    injection hs with hs
    subst hs
    rw [c2]
/-- a struct of numbers and texts as an argument -/
theorem open_mixed {t : TypeId} {fs : Array Field} (ks : List FK) {v : Value} {d : DataW H} {p : List MemPlace} (ht : P.underlying t = some (.struct fs)) (hn : fs.size = ks.length)
    (hf : ∀ (i : Nat) (f : Field) (k : FK), fs[i]? = some f → ks[i]? = some k → f.offset = i ∧ P.underlying f.type = some k.ty ∧ P.cellsOf f.type = 1) (ct : P.cellsOf t = ks.length)
    (hv : ∃ cs, v = .agg cs ∧ cs.size = P.cellsOf t) (h : DataW.Trod enc P W 0 (fun _ => true) true t v d p) :
    ∃ (cs : List Value) (ys : List (DataW H)), v = .agg cs.toArray ∧ cs.length = ks.length ∧ d = .agg ys ∧ ∀ (i : Nat) (k : FK), ks[i]? = some k → ∃ v d, cs[i]? = some v ∧ ys[i]? = some d ∧ k.okv v ∧ k.dat v d := by
  obtain ⟨cs, rfl, hs⟩ := hv
  obtain ⟨fuel, hft⟩ := h
  obtain ⟨h1, ys, h2, h3⟩ := open_cells ks ht hn hf ct hft
  exact ⟨cs.toList, ys, by simp, h1, h2, h3⟩
/-- a slice of structs of numbers and texts -/
theorem open_srow {t e : TypeId} {fs : Array Field} (ks : List FK) {v : Value} {d : DataW H} {p : List MemPlace} (ht : P.underlying t = some (.slice e)) (he : P.underlying e = some (.struct fs)) (hn : fs.size = ks.length)
    (hf : ∀ (i : Nat) (f : Field) (k : FK), fs[i]? = some f → ks[i]? = some k → f.offset = i ∧ P.underlying f.type = some k.ty ∧ P.cellsOf f.type = 1) (ce : P.cellsOf e = ks.length) (hk0 : 0 < ks.length)
    (hv : ∃ a len cap, v = .slice a len cap) (h : DataW.Trod enc P W 0 (fun _ => true) true t v d p) :
    ∃ xss : List (List Value), SRow ks.length W v xss ∧ (∀ us ∈ xss, ∀ (i : Nat) (k : FK), ks[i]? = some k → ∃ u, us[i]? = some u ∧ k.okv u) ∧
      ((d = .nil ∧ xss.length = 0) ∨ ∃ elems spare, d = .slice elems spare ∧ elems.length = xss.length) := by
  obtain ⟨a, len, cap, rfl⟩ := hv
  obtain ⟨fuel, hf0⟩ := h
  rcases Go.Deep.open_slice ht hf0 with ⟨hcs, hx⟩ | ⟨x, l, c, m, n, D, Pl, hcs, _, hl, hm, hmm, hx, hcell⟩
  · simp [Value.cells] at hcs
    obtain ⟨rfl, rfl, rfl⟩ := hcs
    injection hx with hx1 hx2
    exact ⟨[], ⟨none, 0, rfl, Nat.le_refl _, Nat.zero_le _, fun _ => rfl, by simp, fun j hj => absurd hj (by simp)⟩, by simp, .inl ⟨hx1, rfl⟩⟩
  · simp [Value.cells] at hcs
    obtain ⟨rfl, rfl, rfl⟩ := hcs
    injection hx with hx1 hx2
    have hmm' : m = cap := by simpa using hmm
    subst hmm'
    have each : ∀ i, i < m → ∃ us : List Value, W.cells? 0 (x.add (i * ks.length)) ks.length = some us ∧ us.length = ks.length ∧ ∀ (j : Nat) (k : FK), ks[j]? = some k → ∃ u, us[j]? = some u ∧ k.okv u := fun i hi => by
      obtain ⟨us, h1, h2⟩ := hcell i hi
      rw [ce] at h1
      obtain ⟨h3, ys, _, h5⟩ := open_cells ks he hn hf ce h2
      exact ⟨us, h1, h3, fun j k hk => by obtain ⟨u, _, q1, _, q3, _⟩ := h5 j k hk; exact ⟨u, q1, q3⟩⟩
    obtain ⟨U, hU⟩ := Go.Deep.choose_lt each
    have hlen : ((List.range len).map U).length = len := by simp
    have hat : ∀ i us, ((List.range len).map U)[i]? = some us → i < len ∧ us = U i := fun i us h => by
      have hi : i < len := by have := (List.getElem?_eq_some_iff.1 h).1; simpa using this
      simp [hi] at h
      exact ⟨hi, h.symm⟩
    refine ⟨(List.range len).map U, ?_, ?_, .inr ⟨_, _, hx1, by simp⟩⟩
    · refine ⟨some x, m, by rw [hlen], by rw [hlen]; exact hl, hm, fun (h : some x = none) => absurd h (by simp), ?_, fun j hj => ?_⟩
      · intro us hus
        obtain ⟨i, hi⟩ := List.getElem?_of_mem hus
        obtain ⟨h1, rfl⟩ := hat i us hi
        exact (hU i (by omega)).2.1
      · rw [hlen] at hj
        have hcs : ∀ i, i < m → ∀ q, q < ks.length → W.cell? (x.add (i * ks.length + q)) = (U i)[q]? := fun i hi q hq => by
          obtain ⟨h1, h2, _⟩ := hU i hi
          obtain ⟨_, _, h5⟩ := World.cells?_some h1
          have h6 := h5 q hq
          rw [Go.Deep.add_add] at h6
          rw [h6]
        obtain ⟨b, off, spot⟩ := x
        have hspot : spot = none := by
          have h0 := hcs 0 (by omega) 0 hk0
          obtain ⟨_, h2, _⟩ := hU 0 (by omega)
          rw [List.getElem?_eq_getElem (by omega)] at h0
          simpa [Addr.add] using World.cell?_spot h0
        subst hspot
        refine ⟨b, off, rfl, fun i us hi q u hq => ?_⟩
        obtain ⟨h1, rfl⟩ := hat i us hi
        have hql : q < ks.length := by rw [← (hU i (by omega)).2.1]; exact (List.getElem?_eq_some_iff.1 hq).1
        have h2 := hcs i (by omega) q hql
        rw [hq] at h2
        have hadd : ∀ n, Addr.add ⟨b, off, none⟩ n = ⟨b, off + n, none⟩ := fun n => by cases n <;> simp [Addr.add]
        rw [hadd] at h2
        rw [Nat.add_assoc]
        exact h2
    · intro us hus i k hk
      obtain ⟨q, hq⟩ := List.getElem?_of_mem hus
      obtain ⟨h1, rfl⟩ := hat q us hq
      exact (hU q (by omega)).2.2 i k hk
theorem list4 {α : Type} {cs : List α} {a b c d : α} (hl : cs.length = 4) (h0 : cs[0]? = some a) (h1 : cs[1]? = some b) (h2 : cs[2]? = some c) (h3 : cs[3]? = some d) : cs = [a, b, c, d] := by
  match cs, hl with
  | [x0, x1, x2, x3], _ =>
    simp at h0 h1 h2 h3
    subst h0 h1 h2 h3
    rfl
theorem exists_map {α β : Type} {f : β → α} {p : β → Prop} : ∀ {l : List α}, (∀ x ∈ l, ∃ y, x = f y ∧ p y) → ∃ m : List β, l = m.map f ∧ ∀ y ∈ m, p y
  | [], _ => ⟨[], rfl, by simp⟩
  | x :: l, h => by
    obtain ⟨y, hy, py⟩ := h x (by simp)
    obtain ⟨m, hm, pm⟩ := exists_map (l := l) (fun z hz => h z (by simp [hz]))
    refine ⟨y :: m, by rw [hm, hy]; rfl, fun z hz => ?_⟩
    rw [List.mem_cons] at hz
    rcases hz with rfl | hz
    · exact py
    · exact pm z hz
end
end Go.Proofs.Yteokfgdennjjiaa
