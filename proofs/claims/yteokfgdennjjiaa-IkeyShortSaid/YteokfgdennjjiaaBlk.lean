/- blocks that hold lists of cells. Nothing of the program. -/
import Derived.Test.YteokfgdennjjiaaBuilt
import Derived.Deep.MidRow
import Derived.Laws.CopyOwn
import Derived.Laws.Tables
namespace Go.Proofs.Yteokfgdennjjiaa
open Go.ChangeShapes Go.WideShapes Go.ChangeAt Go.RowKit

/-- block B holds the cells L -/
def Blk (w : World) (B : Nat) (t : TypeId) (L : List Value) : Prop := w.heap[B]? = some (.cells L.toArray t (0, 0))
theorem Blk.frame {w w' : World} {B t : Nat} {L : List Value} (h : Blk w B t L) {S : Nat → Prop} (f : Fr S w w') (hn : ¬ S B) : Blk w' B t L := f.heap h hn
theorem Blk.non {w w' : World} {B t : Nat} {L : List Value} (h : Blk w B t L) (f : Fr Non w w') : Blk w' B t L := f.heap h (fun h => h)
theorem Blk.lt {w : World} {B t : Nat} {L : List Value} (h : Blk w B t L) : B < w.heap.size := (Array.getElem?_eq_some_iff.1 h).1
theorem Blk.at {w : World} {B t : Nat} {L : List Value} (h : Blk w B t L) (k : Nat) (u : Value) (hu : L[k]? = some u) : w.cell? ⟨B, k, none⟩ = some u ∧ w.frozen? ⟨B, k, none⟩ = false := by
  refine ⟨?_, (block_cells h k).2⟩
  rw [(block_cells h k).1]
  simpa using hu
theorem Blk.has {w : World} {B t : Nat} {L : List Value} (h : Blk w B t L) (k : Nat) (hk : k < L.length) : ∃ u, w.cell? ⟨B, k, none⟩ = some u ∧ w.frozen? ⟨B, k, none⟩ = false := ⟨_, h.at k _ (List.getElem?_eq_getElem hk)⟩
theorem Blk.set {w : World} {B t : Nat} {L : List Value} (h : Blk w B t L) (k : Nat) (u : Value) : Blk (w.setCell ⟨B, k, none⟩ u) B t (L.set k u) := by
  have := heap_setCell w B k _ _ _ u h
  unfold Blk
  rw [this]
  simp
theorem Blk.new (w : World) (t : TypeId) (L : List Value) : Blk (w.alloc (.cells L.toArray t)) w.heap.size t L := heap_alloc_new w _
theorem Blk.range {w : World} {B t : Nat} {L : List Value} (h : Blk w B t L) (o : Nat) (cs : List Value) (hc : ∀ j v, cs[j]? = some v → L[o + j]? = some v) : w.rangeAt B o cs := fun j v hv => by
  rw [(block_cells h (o + j)).1]
  simpa using hc j v hv
theorem Blk.there {w : World} {B t : Nat} {L : List Value} (h : Blk w B t L) (o n : Nat) (hn : o + n ≤ L.length) : w.there B o n := fun j hj => by
  obtain ⟨h1, h2⟩ := h.at (o + j) _ (List.getElem?_eq_getElem (by omega))
  exact ⟨by rw [h1]; rfl, h2⟩
theorem splice_cons {α : Type} (L : List α) (o : Nat) (u : α) (vs : List α) (h : o + (u :: vs).length ≤ L.length) : splice (L.set o u) (o + 1) vs = splice L o (u :: vs) := by
  simp only [List.length_cons] at h
  unfold splice
  rw [List.drop_set_of_lt (by omega), List.take_set, List.take_succ_eq_append_getElem (by omega : o < L.length), List.set_append_right _ _ (by simp; omega)]
  simp only [List.length_cons, List.length_take]
  rw [show o - min o L.length = 0 by omega, List.set_cons_zero, List.append_assoc, show o + 1 + vs.length = o + (vs.length + 1) by omega]
  rfl
theorem Blk.setCells {B t : Nat} : ∀ (vs : List Value) (w : World) (L : List Value) (o : Nat) (_ : Blk w B t L) (_ : o + vs.length ≤ L.length), Blk (w.setCells B o vs) B t (splice L o vs)
  | [], w, L, o, h, _ => by simpa [splice, World.setCells] using h
  | u :: vs, w, L, o, h, hn => by
    have := Blk.setCells vs _ (L.set o u) (o + 1) (h.set o u) (by simp only [List.length_set]; simp only [List.length_cons] at hn; omega)
    rw [splice_cons L o u vs hn] at this
    exact this
theorem Fr.setCells' (b : Nat) : ∀ (vs : List Value) (w : World) (o : Nat), Fr (One b) w (w.setCells b o vs)
  | [], _, _ => Fr.refl _ _
  | v :: vs, w, o => (Fr.setCell w ⟨b, o, none⟩ v).trans (Fr.setCells' b vs (w.setCell ⟨b, o, none⟩ v) (o + 1)) (fun _ h => h) (fun _ h => .inl h)
theorem Fr.setRow (w : World) (g : Nat) (cs : Array Value) : Fr (One g) w (w.setRow g cs) :=
  ⟨rfl, rfl, rfl, by simp [World.setRow], fun k _ hk => setRow_other w g k cs (fun e => hk e)⟩
/-- a part of a block reads as a slice -/
theorem Blk.row {w : World} {B t : Nat} {L : List Value} (h : Blk w B t L) (o c : Nat) (xs : List Value) (hc : xs.length ≤ c) (hm : c ≤ maxLen) (hx : ∀ j v, xs[j]? = some v → L[o + j]? = some v) : Row w (.slice (some ⟨B, o, none⟩) xs.length c) xs :=
  ⟨_, c, rfl, hc, hm, (by intro h; cases h), fun _ _ => ⟨B, o, rfl, fun i u hi => (h.at (o + i) u (hx i u hi)).1⟩⟩
theorem fill_ones (place : Nat → Option (Nat × Nat)) (hp : ∀ i, place i = some (i, 1)) : ∀ (us : List Value) (L R : List Value), (∀ u ∈ us, u.cells = #[u]) → R.length = us.length →
    Instr.fill place (L ++ R).toArray ((us.zipIdx L.length).map fun p => (p.2, p.1)) = some (L ++ us).toArray
  | [], L, R, _, hl => by
    obtain rfl : R = [] := List.eq_nil_of_length_eq_zero hl
    rfl
  | u :: us, L, [], _, hl => by simp at hl
  | u :: us, L, r :: R, h, hl => by
    have h1 : u.cells = #[u] := h u (by simp)
    have ih := fill_ones place hp us (L ++ [u]) R (fun v hv => h v (List.mem_cons_of_mem _ hv)) (by simpa using hl)
    simp only [List.zipIdx_cons, List.map_cons, Instr.fill, hp, h1]
    simp only [List.length_append, List.length_cons, List.length_nil, Nat.zero_add, List.append_assoc, List.singleton_append] at ih
    simp
    exact ih
theorem built_words {P : Program} {t e : TypeId} {it ie : TypeInfo} {Z : Array Value} {n : Nat} (hit : P.info? t = some it) (hz : it.zero = some (.agg Z)) (hu : P.underlying t = some (.array n e)) (hie : P.info? e = some ie) (hs : ie.size = 1) (us : List Value) (hc : ∀ u ∈ us, u.cells = #[u]) (hZ : Z.size = us.length) :
    P.built t (us.zipIdx.map fun p => (p.2, p.1)) = some us.toArray := by
  unfold Program.built
  rw [hit, hu]
  simp only [hz, hie, hs, Nat.mul_one]
  have h := fill_ones (fun i => some (i, 1)) (fun _ => rfl) us [] Z.toList hc (by simpa using hZ)
  simpa [Value.cells] using h
section
variable {P : Program}
/-- copy: only block g turns -/
theorem wp_copy_fr {o : Oper} {a : Act} {w : World} {K : Act → World → Prop} {Q : Exit → Act → World → Prop} (d s : Operand) (dT sT : TypeId)
    (ho : o.op = .call { callee := .builtin .copy, args := #[d, s], argTypes := #[dT, sT] }) (elem : TypeId) (hu : P.underlying dT = some (.slice elem)) (hsz : (P.info? elem).map (·.size) = some 1)
    (g off : Nat) (L : List Value) (t : TypeId) (hg : Blk w g t L) (dLen dCap : Nat) (v : Value) (xs : List Value) (hr : Row w v xs) (hd : a.eval d = .slice (some ⟨g, off, none⟩) dLen dCap) (hs : a.eval s = v)
    (hfit : off + dLen ≤ L.length) (h1 : ∀ v ∈ xs, v.oneCell' = true)
    (h : ∀ w', Blk w' g t (splice L off (xs.take dLen)) → Fr (One g) w w' → K (a.put o.dst (goInt (xs.take dLen).length)) w') : Oper.wp P o a w K Q := by
  obtain ⟨sp, c, rfl, q1, q2, q3, q4⟩ := hr
  have hn : (xs.take dLen).length = Nat.min xs.length dLen := by rw [List.length_take]; exact Nat.min_comm _ _
  by_cases h0 : (xs.take dLen).length = 0
  · have hrun := run_copy_none (P := P) w dT sT o.type elem (some ⟨g, off, none⟩) sp dLen dCap xs.length c hu hsz (by rw [← hn]; exact h0)
    unfold Oper.wp
    simp [execOp, ho, resolve, invoke, builtin, hd, hs, hrun, Result.andThen]
    have := h w (by rw [List.eq_nil_of_length_eq_zero h0]; simpa [splice] using hg) (Fr.refl _ _)
    rw [h0] at this
    exact this
  · have hx : 0 < xs.length := by rw [List.length_take] at h0; omega
    obtain ⟨b, off2, rfl, hc⟩ := q4 0 hx
    have hrun := run_copy_row (P := P) w dT sT o.type elem g off dLen dCap ⟨b, off2, none⟩ xs.length c L.toArray t (xs.take dLen) hu hsz hg hn (fun j v hv => by
      have hj : j < dLen := by have := (List.getElem?_eq_some_iff.1 hv).1; rw [List.length_take] at this; omega
      rw [List.getElem?_take_of_lt hj] at hv
      rw [Addr.add_lit]
      exact hc j v hv) (by rw [List.length_take]; simp; omega) (fun v hv => h1 v (List.mem_of_mem_take hv))
    unfold Oper.wp
    simp only [execOp, ho, resolve, invoke, builtin, Sem.run_bind, Sem.run_pure, Result.andThen_ok, List.map_toArray, List.map_cons, List.map_nil, hd, hs, hrun]
    refine h _ ?_ (Fr.setRow _ _ _)
    unfold Blk
    rw [show splice L off (xs.take dLen) = L.take off ++ xs.take dLen ++ L.drop (off + (xs.take dLen).length) from by simp only [splice, List.append_assoc]]
    exact setRow_heap w g _ _ t _ hg
theorem wpList_copy_fr {ops : Array Oper} {rest : List Oper} {o : Oper} {a : Act} {w : World} {Q : Exit → Act → World → Prop} (hgd : o.guard = none) (d s : Operand) (dT sT : TypeId)
    (ho : o.op = .call { callee := .builtin .copy, args := #[d, s], argTypes := #[dT, sT] }) (elem : TypeId) (hu : P.underlying dT = some (.slice elem)) (hsz : (P.info? elem).map (·.size) = some 1)
    (g off : Nat) (L : List Value) (t : TypeId) (hg : Blk w g t L) (dLen dCap : Nat) (v : Value) (xs : List Value) (hr : Row w v xs) (hd : a.eval d = .slice (some ⟨g, off, none⟩) dLen dCap) (hs : a.eval s = v)
    (hfit : off + dLen ≤ L.length) (h1 : ∀ v ∈ xs, v.oneCell' = true)
    (h : ∀ w', Blk w' g t (splice L off (xs.take dLen)) → Fr (One g) w w' → wpList P ops Q rest (a.put o.dst (goInt (xs.take dLen).length)) w') : wpList P ops Q (o :: rest) a w :=
  wpList_plain hgd fun _ hK => wp_copy_fr d s dT sT ho elem hu hsz g off L t hg dLen dCap v xs hr hd hs hfit h1 (fun w' h2 h3 => hK _ _ (h w' h2 h3))
/-- 'x[lo:]', x an array in memory -/
theorem run_arrLo {t e n : Nat} (ht : P.underlying t = some (.array n e)) (hsz : (P.info? e).map (·.size) = some 1) (B o : Nat) (k : IntKind) (L : Int) (lo : Nat) (eL : L = (lo : Int)) (h : lo < n) :
    ∀ w, (Instr.sliceAt t (.pointer (some ⟨B, o, none⟩)) (some (.int k L)) none none).run P w = .ok (.slice (some ⟨B, o + lo, none⟩) (n - lo) (n - lo)) w := by
  intro w
  subst eL
  have hn : P.arrayLen t = n := by unfold Program.arrayLen; rw [ht]
  have he : P.elem t = e := by unfold Program.elem; rw [ht]
  rw [run_sliceAt_array_l w t ⟨B, o, none⟩ (by rw [hn, he]; exact ht) k (lo : Int) (by omega) (by rw [hn]; omega), he, run_size1 w hsz, hn]
  simp only [Result.andThen, slicedAt, Int.toNat_natCast, Nat.mul_one]
  rw [if_neg (by omega), Addr.add_lit]
/-- 'x[:hi]' -/
theorem run_arrHi {t e n : Nat} (ht : P.underlying t = some (.array n e)) (hsz : (P.info? e).map (·.size) = some 1) (B o : Nat) (k : IntKind) (H : Int) (hi : Nat) (eH : H = (hi : Int)) (h : hi ≤ n) :
    ∀ w, (Instr.sliceAt t (.pointer (some ⟨B, o, none⟩)) none (some (.int k H)) none).run P w = .ok (.slice (some ⟨B, o, none⟩) hi n) w := by
  intro w
  subst eH
  have hn : P.arrayLen t = n := by unfold Program.arrayLen; rw [ht]
  have he : P.elem t = e := by unfold Program.elem; rw [ht]
  rw [run_sliceAt_array_h w t ⟨B, o, none⟩ (by rw [hn, he]; exact ht) k (hi : Int) (by omega) (by rw [hn]; omega), he, run_size1 w hsz, hn]
  simp only [Result.andThen, slicedAt, Int.toNat_natCast, Nat.sub_zero, Nat.zero_mul]
  by_cases h0 : n = 0
  · rw [if_pos h0]
  · rw [if_neg h0, Addr.add_lit, Nat.add_zero]
theorem splice_mid {α : Type} (A X Z C : List α) (p : Nat) (h : p + C.length ≤ X.length) : splice (A ++ (X ++ Z)) (A.length + p) C = A ++ (splice X p C ++ Z) := by
  unfold splice
  rw [List.take_append, List.take_of_length_le (by omega), show A.length + p - A.length = p by omega, List.take_append_of_le_length (by omega), Nat.add_assoc, List.drop_append, List.drop_of_length_le (by omega : A.length ≤ A.length + (p + C.length)), List.nil_append, show A.length + (p + C.length) - A.length = p + C.length by omega, List.drop_append_of_le_length (by omega)]
  simp only [List.append_assoc]
/-- a literal of an array or a struct -/
theorem wpList_build_as {ops : Array Oper} {rest : List Oper} {o : Oper} {a : Act} {w : World} {Q : Exit → Act → World → Prop} (hg : o.guard = none) (t : TypeId) (parts : List (Nat × Operand)) (ho : o.op = .build t parts.toArray)
    (vals : List (Nat × Value)) (cells : Array Value) (hb : P.built t vals = some cells) (hv : parts.map (fun p => (p.1, a.eval p.2)) = vals)
    (h : wpList P ops Q rest (a.put o.dst (.agg cells)) w) : wpList P ops Q (o :: rest) a w := by
  have e : (parts.toArray.map fun (i, x) => (i, a.eval x)).toList = vals := by rw [← hv]; simp
  refine wpList_build hg t parts.toArray ho (by rw [e, hb]; rfl) ?_
  rw [e, hb]
  exact h
end
end Go.Proofs.Yteokfgdennjjiaa
