/- slices that a literal built, parts of slices, slices of slices. Nothing of the program. -/
import Derived.Test.YteokfgdennjjiaaBase
namespace Go.Proofs.Yteokfgdennjjiaa
open Go.ChangeShapes Go.WideShapes Go.ChangeAt Go.RowKit

theorem Try.info5 : (Try.prog.info? 5).map (fun i => (i.zero, i.size, i.bytes)) = some (some (.int .u8 0), 1, 1) := by kernel_rfl
theorem block_cells {w : World} {b e : Nat} {c : Array Value} (h : w.heap[b]? = some (.cells c e (0, 0))) (j : Nat) : w.cell? ⟨b, j, none⟩ = c[j]? ∧ w.frozen? ⟨b, j, none⟩ = false := by
  constructor
  · simp [World.cell?, h]
  · simp [World.frozen?, h]

theorem Row.nil (w : World) : Row w (.slice none 0 0) [] := ⟨none, 0, rfl, Nat.le_refl _, Nat.zero_le _, fun _ => rfl, fun j hj => absurd hj (by simp)⟩

theorem Row.builtM (w : World) (us : List Value) (e n : Nat) (fr : Nat × Nat) {g : Nat} (hg : g = w.heap.size) (hn : us.length = n) (hm : n ≤ maxLen) : Row (w.alloc (.cells us.toArray e fr)) (.slice (some ⟨g, 0, none⟩) n n) us := by
  subst hn hg
  refine ⟨_, us.length, rfl, Nat.le_refl _, hm, (by intro h; cases h), fun j hj => ⟨w.heap.size, 0, rfl, fun i u hi => ?_⟩⟩
  have h1 := World.cell?_alloc_mark w us.toArray e fr (0 + i)
  rw [h1]
  simpa using hi
theorem Row.built (w : World) (us : List Value) (e n : Nat) (hn : us.length = n) (hm : n ≤ maxLen) : Row (w.alloc (.cells us.toArray e)) (.slice (some ⟨w.heap.size, 0, none⟩) n n) us :=
  Row.builtM w us e n (0, 0) rfl hn hm
theorem Off.own {S : Nat → Prop} {v : Value} (h : ∀ k, v.ownBlock = some k → ¬ S k) : Off S v := by
  intro b off n c e
  subst e
  exact h b rfl

theorem Row.hi {w : World} {a : Option Addr} {n c : Nat} {xs : List Value} (h : Row w (.slice a n c) xs) (k : Nat) (hk : k ≤ xs.length) : Row w (.slice a k c) (xs.take k) := by
  obtain ⟨a', c', e, q1, q2, q3, q4⟩ := h
  injection e with e1 e2 e3
  subst e1 e2 e3
  have hlen : (xs.take k).length = k := by simp; omega
  refine ⟨a, c, by rw [hlen], by rw [hlen]; omega, q2, q3, fun j hj => ?_⟩
  rw [hlen] at hj
  obtain ⟨b, off, rfl, hc⟩ := q4 j (by omega)
  refine ⟨b, off, rfl, fun i u hi => hc i u ?_⟩
  have hil := (List.getElem?_eq_some_iff.1 hi).1
  rw [hlen] at hil
  rwa [List.getElem?_take_of_lt hil] at hi

theorem Row.bytes {w : World} {a : Option Addr} {n c : Nat} {l : List UInt8} (h : Row w (.slice a n c) (bs l)) :
    n = l.length ∧ l.length ≤ c ∧ c ≤ maxLen ∧ (∀ j, j < l.length → ∃ b off, a = some ⟨b, off, none⟩ ∧ w.cell? ⟨b, off + j, none⟩ = some (.int .u8 ((l[j]!).toNat : Int))) := by
  obtain ⟨a', c', e, h1, h2, h3, h4⟩ := h
  injection e with e1 e2 e3
  subst e1 e3
  rw [bs_length] at *
  refine ⟨e2, h1, h2, fun j hj => ?_⟩
  obtain ⟨b, off, rfl, h5⟩ := h4 j hj
  exact ⟨b, off, rfl, h5 j _ (by simp [bs, hj])⟩

/-- v is a slice of slices of bytes that read as ls -/
def Rows2 (w : World) (v : Value) (ls : List (List UInt8)) : Prop := ∃ vs, Row w v vs ∧ vs.length = ls.length ∧ ∀ (i : Nat) (u : Value), vs[i]? = some u → Row w u (bs ls[i]!)
theorem Rows2.frame {w w' : World} {v : Value} {ls : List (List UInt8)} (h : Rows2 w v ls) (f : Fr Non w w') : Rows2 w' v ls := by
  obtain ⟨vs, h1, h2, h3⟩ := h
  exact ⟨vs, h1.non f, h2, fun i u hu => (h3 i u hu).non f⟩
/-- a literal of slices of bytes -/
theorem Rows2.built {w : World} {us : List Value} {ls : List (List UInt8)} {e n g : Nat} (hg : g = w.heap.size) (hn : us.length = n) (hm : n ≤ maxLen) (hl : us.length = ls.length) (h : ∀ (i : Nat) (u : Value), us[i]? = some u → Row w u (bs ls[i]!)) :
    Rows2 (w.alloc (.cells us.toArray e)) (.slice (some ⟨g, 0, none⟩) n n) ls :=
  ⟨us, Row.builtM w us e n (0, 0) hg hn hm, hl, fun i u hu => (h i u hu).non (Fr.alloc _ _)⟩
theorem all1 {P : Nat → Value → Prop} {a : Value} (h : P 0 a) : ∀ (i : Nat) (u : Value), [a][i]? = some u → P i u
  | 0, u, e => by simp at e; subst e; exact h
  | i + 1, u, e => by simp at e
theorem all2 {P : Nat → Value → Prop} {a b : Value} (h : P 0 a) (k : P 1 b) : ∀ (i : Nat) (u : Value), [a, b][i]? = some u → P i u
  | 0, u, e => by simp at e; subst e; exact h
  | 1, u, e => by simp at e; subst e; exact k
  | i + 2, u, e => by simp at e
theorem all3 {P : Nat → Value → Prop} {a b c : Value} (h : P 0 a) (k : P 1 b) (l : P 2 c) : ∀ (i : Nat) (u : Value), [a, b, c][i]? = some u → P i u
  | 0, u, e => by simp at e; subst e; exact h
  | 1, u, e => by simp at e; subst e; exact k
  | 2, u, e => by simp at e; subst e; exact l
  | i + 3, u, e => by simp at e
theorem heap_setCell (w : World) (g k : Nat) (cs : Array Value) (e : Nat) (fr : Nat × Nat) (u : Value) (h : w.heap[g]? = some (.cells cs e fr)) : (w.setCell ⟨g, k, none⟩ u).heap[g]? = some (.cells (cs.setIfInBounds k u) e fr) := by
  have hlt := (Array.getElem?_eq_some_iff.1 h).1
  simp [World.setCell, Array.getElem?_modify, h]
/-- a store into what is the call's own -/
theorem Own.set {w : World} {base e g n c : Nat} {xs : List Value} (h : Own w base e (.slice (some ⟨g, 0, none⟩) n c) xs) (k : Nat) (u : Value) : Own (w.setCell ⟨g, k, none⟩ u) base e (.slice (some ⟨g, 0, none⟩) n c) (xs.set k u) := by
  obtain ⟨h1, h2⟩ := h
  rcases h2 with ⟨h2, _⟩ | ⟨g', cap, cur, h2, h3, h4, h5, h6, h7, h8⟩
  · cases h2
  · injection h2 with e1 e2 e3
    injection e1 with e1
    injection e1 with e1
    subst e1 e2 e3
    refine ⟨by simp, .inr ⟨g, c, cur.setIfInBounds k u, by simp, h3, heap_setCell w g k cur e _ u h4, by simpa using h5, h6, by simpa using h7, ?_⟩⟩
    rw [Array.toList_setIfInBounds, List.length_set, List.take_set, h8]
/-- the literal of no cells -/
theorem Own.empty (w : World) (base e : Nat) (hb : base ≤ w.heap.size) : Own (w.alloc (.cells #[] e)) base e (.slice (some ⟨w.heap.size, 0, none⟩) 0 0) [] :=
  ⟨rfl, .inr ⟨w.heap.size, 0, #[], rfl, hb, heap_alloc_new w _, Nat.le_refl _, Nat.zero_le _, rfl, rfl⟩⟩
theorem Own.form {w : World} {base e : Nat} {v : Value} {xs : List Value} (h : Own w base e v xs) (hn : 0 < xs.length) : ∃ g c, v = .slice (some ⟨g, 0, none⟩) xs.length c ∧ base ≤ g ∧ xs.length ≤ c := by
  rcases h.2 with ⟨_, h0⟩ | ⟨g, cap, _, hv, h1, _, h2, _⟩
  · omega
  · exact ⟨g, cap, hv, h1, h2⟩
theorem ofNat_toNat (n : Nat) (h : n < 256) : ((UInt8.ofNat n).toNat : Int) = (n : Int) := by
  rw [UInt8.toNat_ofNat', Nat.mod_eq_of_lt h]
theorem bs_set (l : List UInt8) (k : Nat) (c : UInt8) : (bs l).set k (.int .u8 (c.toNat : Int)) = bs (l.set k c) := by
  simp [bs, List.map_set]
theorem Own.cellAt {w : World} {base e g n c : Nat} {xs : List Value} (h : Own w base e (.slice (some ⟨g, 0, none⟩) n c) xs) (k : Nat) (u : Value) (hu : xs[k]? = some u) : w.cell? ⟨g, k, none⟩ = some u ∧ w.frozen? ⟨g, k, none⟩ = false := by
  have hb : ∃ cur, w.heap[g]? = some (.cells cur e (0, 0)) := by
    rcases h.2 with ⟨h2, _⟩ | ⟨g', cap, cur, h2, h3, h4, _⟩
    · cases h2
    · injection h2 with e1 e2 e3
      injection e1 with e1
      injection e1 with e1
      subst e1
      exact ⟨cur, h4⟩
  obtain ⟨cur, hc⟩ := hb
  refine ⟨?_, (block_cells hc k).2⟩
  obtain ⟨a', c', e1, _, _, _, h5⟩ := h.row
  obtain ⟨b, off, rfl, h6⟩ := h5 k (List.getElem?_eq_some_iff.1 hu).1
  injection e1 with e2 _ _
  injection e2 with e2
  injection e2 with e3 e4
  subst e3 e4
  have := h6 k u hu
  rwa [Nat.zero_add] at this
end Go.Proofs.Yteokfgdennjjiaa
