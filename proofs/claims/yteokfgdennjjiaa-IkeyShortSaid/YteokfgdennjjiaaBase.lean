/- Frames of worlds, slices that read as lists: words on which the walks of this seat stand; nothing of the program. -/
import Derived.Test.YteokfgdennjjiaaRows
import Derived.WalkKit
import Derived.ProofKit
import Derived.OpenShut
import Derived.JoinedCond
import Derived.Lib.Hide
import Derived.WalkLawsBesides
import Derived.WalkSpells
import Derived.Handy
import Derived.Lib.AppendStr
import Derived.Laws.AppendOwnNone
import Derived.BigQuiet
import Derived.Deep.QuietTactic
namespace Go.Proofs.Yteokfgdennjjiaa
open Go.ChangeShapes Go.WideShapes Go.ChangeAt Go.RowKit
/-- w' is w but for the blocks of S, and new ones. -/
structure Fr (S : Nat → Prop) (w w' : World) : Prop where
  os : w'.os = w.os
  tape : w'.tape = w.tape
  output : w'.output = w.output
  size : w.heap.size ≤ w'.heap.size
  block : ∀ k, k < w.heap.size → ¬ S k → w'.heap[k]? = w.heap[k]?

def Non : Nat → Prop := fun _ => False
def One (b : Nat) : Nat → Prop := fun k => k = b
def OwnOf (v : Value) : Nat → Prop := fun k => v.ownBlock = some k

theorem Fr.refl (S : Nat → Prop) (w : World) : Fr S w w := ⟨rfl, rfl, rfl, Nat.le_refl _, fun _ _ _ => rfl⟩
theorem Fr.trans {S T U : Nat → Prop} {a b c : World} (h : Fr S a b) (k : Fr T b c) (hs : ∀ i, S i → U i) (ht : ∀ i, T i → U i ∨ a.heap.size ≤ i) : Fr U a c :=
  ⟨k.os.trans h.os, k.tape.trans h.tape, k.output.trans h.output, Nat.le_trans h.size k.size, fun i hi hu =>
    (k.block i (Nat.lt_of_lt_of_le hi h.size) (fun h' => (ht i h').elim hu (fun h'' => by omega))).trans (h.block i hi (fun h' => hu (hs i h')))⟩
theorem Fr.non {T : Nat → Prop} {a b c : World} (h : Fr Non a b) (k : Fr T b c) : Fr T a c := h.trans k (fun _ h => h.elim) (fun _ h => .inl h)
theorem Fr.thenNon {T : Nat → Prop} {a b c : World} (h : Fr T a b) (k : Fr Non b c) : Fr T a c := h.trans k (fun _ h => h) (fun _ h => h.elim)
theorem Fr.new {S T : Nat → Prop} {a b c : World} (h : Fr S a b) (k : Fr T b c) (ht : ∀ i, T i → a.heap.size ≤ i) : Fr S a c := h.trans k (fun _ h => h) (fun i h => .inr (ht i h))
theorem Fr.mono {S T : Nat → Prop} {a b : World} (h : Fr S a b) (hs : ∀ i, S i → T i) : Fr T a b := ⟨h.os, h.tape, h.output, h.size, fun i hi hu => h.block i hi (fun h' => hu (hs i h'))⟩
theorem Fr.ofGrown {a b : World} {row : Option Nat} (h : a.grownBy b row) : Fr (fun k => row = some k) a b :=
  ⟨h.os, h.tape, h.output, h.size, fun i hi hu => h.block i hi (fun e => hu e.symm)⟩
theorem Fr.ofGrownNone {a b : World} (h : a.grownBy b none) : Fr Non a b := (Fr.ofGrown h).mono (fun _ h => by cases h)
theorem Fr.below {S : Nat → Prop} {a b : World} {B : Nat} (h : Fr S a b) (hs : ∀ i, S i → B ≤ i) (hB : B ≤ a.heap.size) : Below B a b :=
  ⟨h.os, h.tape, h.output, h.size, fun i hi => h.block i (by omega) (fun h' => by have := hs i h'; omega)⟩
theorem Fr.nonBelow {a b : World} (h : Fr Non a b) : Below a.heap.size a b := h.below (fun _ h => h.elim) (Nat.le_refl _)
theorem Fr.alloc (w : World) (o : Obj) : Fr Non w (w.alloc o) := ⟨rfl, rfl, rfl, by simp, fun k hk _ => Below.heap_alloc _ _ _ hk⟩
theorem Fr.drew (w : World) : Fr Non w w.drew := ⟨rfl, rfl, rfl, Nat.le_refl _, fun _ _ _ => rfl⟩
theorem Fr.setCell (w : World) (a : Addr) (u : Value) : Fr (One a.block) w (w.setCell a u) :=
  ⟨rfl, rfl, rfl, by simp [World.setCell], fun k _ hk => Below.heap_setCell _ _ _ _ hk⟩
theorem Fr.heap {S : Nat → Prop} {w w' : World} {k : Nat} {o : Obj} (h : Fr S w w') (hc : w.heap[k]? = some o) (hn : ¬ S k) : w'.heap[k]? = some o :=
  (h.block k (Array.getElem?_eq_some_iff.1 hc).1 hn).trans hc
theorem Fr.cell {S : Nat → Prop} {w w' : World} {p : Addr} {u : Value} (h : Fr S w w') (hc : w.cell? p = some u) (hn : ¬ S p.block) : w'.cell? p = some u :=
  (World.cell?_of_block (w := w) (h.block p.block (World.block_lt_of_cell? w p hc) hn)).trans hc

/-- v is a slice whose places read xs, one cell each. -/
def Row (w : World) (v : Value) (xs : List Value) : Prop :=
  ∃ a c, v = .slice a xs.length c ∧ xs.length ≤ c ∧ c ≤ maxLen ∧ (a = none → c = 0) ∧ ∀ j, j < xs.length → ∃ b off, a = some ⟨b, off, none⟩ ∧ ∀ i u, xs[i]? = some u → w.cell? ⟨b, off + i, none⟩ = some u

/-- the block that v points into is not of S -/
def Off (S : Nat → Prop) (v : Value) : Prop := ∀ b off n c, v = .slice (some ⟨b, off, none⟩) n c → ¬ S b

theorem Row.frame {S : Nat → Prop} {w w' : World} {v : Value} {xs : List Value} (h : Row w v xs) (f : Fr S w w') (hn : Off S v) : Row w' v xs := by
  obtain ⟨a, c, rfl, h1, h2, h3, h4⟩ := h
  refine ⟨a, c, rfl, h1, h2, h3, fun j hj => ?_⟩
  obtain ⟨b, off, rfl, h5⟩ := h4 j hj
  exact ⟨b, off, rfl, fun i u hi => f.cell (h5 i u hi) (hn _ _ _ _ rfl)⟩
theorem Row.non {w w' : World} {v : Value} {xs : List Value} (h : Row w v xs) (f : Fr Non w w') : Row w' v xs := h.frame f (fun _ _ _ _ _ h => h)

theorem Row.le {w : World} {v : Value} {xs : List Value} (h : Row w v xs) : xs.length ≤ maxLen := by
  obtain ⟨_, _, _, h1, h2, _⟩ := h
  exact Nat.le_trans h1 h2
theorem Row.ofOwn {w : World} {base e : Nat} {v : Value} {xs : List Value} {n : Nat} (h : w.ownsRow base e 1 v n xs) : Row w v xs := by
  have hl : xs.length = n := by have := h.1; omega
  subst hl
  have hc := fun g hg => h.cells (g := g) hg
  rcases h.2 with ⟨rfl, h0⟩ | ⟨g, cap, cur, rfl, _, hg, h1, h2, _, _⟩
  · have : xs = [] := List.eq_nil_of_length_eq_zero h0
    subst this
    exact ⟨none, 0, rfl, Nat.le_refl _, Nat.zero_le _, fun _ => rfl, fun j hj => absurd hj (by simp)⟩
  · refine ⟨_, cap, rfl, h1, h2, (by intro h; cases h), fun j hj => ⟨g, 0, rfl, fun i u hi => ?_⟩⟩
    have := hc g rfl i u hi
    rwa [Addr.add_lit] at this

/-- bytes as cells -/
def bs (l : List UInt8) : List Value := l.map fun c => .int .u8 (c.toNat : Int)
theorem bs_length (l : List UInt8) : (bs l).length = l.length := by simp [bs]
theorem bs_append (l m : List UInt8) : bs (l ++ m) = bs l ++ bs m := by simp [bs]
theorem bs_one (l : List UInt8) : ∀ u ∈ bs l, u.oneCell' = true := by
  intro u hu
  simp only [bs, List.mem_map] at hu
  obtain ⟨c, _, rfl⟩ := hu
  rfl
/-- what v' points into is what v did, or new -/
def Moved (w : World) (v v' : Value) : Prop := ∀ k, v'.ownBlock = some k → v.ownBlock = some k ∨ w.heap.size ≤ k

/-- v is a slice of places of one cell each, in a block of the call's own from 'base' on, that hold xs. -/
def Own (w : World) (base e : Nat) (v : Value) (xs : List Value) : Prop := w.ownsRow base e 1 v xs.length xs
theorem Own.row {w : World} {base e : Nat} {v : Value} {xs : List Value} (h : Own w base e v xs) : Row w v xs := Row.ofOwn h
theorem Own.frame {S : Nat → Prop} {w w' : World} {base e : Nat} {v : Value} {xs : List Value} (h : Own w base e v xs) (f : Fr S w w') (hn : Off S v) : Own w' base e v xs := by
  refine ⟨h.1, ?_⟩
  rcases h.2 with hn | ⟨g, cap, cur, rfl, h1, hg, rest⟩
  · exact .inl hn
  · exact .inr ⟨g, cap, cur, rfl, h1, f.heap hg (hn _ _ _ _ rfl), rest⟩
theorem Own.non {w w' : World} {base e : Nat} {v : Value} {xs : List Value} (h : Own w base e v xs) (f : Fr Non w w') : Own w' base e v xs := h.frame f (fun _ _ _ _ _ h => h)
theorem Own.lt {w : World} {base e : Nat} {v : Value} {xs : List Value} (h : Own w base e v xs) : ∀ k, v.ownBlock = some k → base ≤ k ∧ k < w.heap.size := World.ownsRow.lt h
theorem Own.nil (w : World) (base e : Nat) : Own w base e (.slice none 0 0) [] := World.ownsRow_nil w base e 1
theorem Own.mono {w : World} {base base' e : Nat} {v : Value} {xs : List Value} (h : Own w base e v xs) (hb : base' ≤ base) : Own w base' e v xs := by
  refine ⟨h.1, ?_⟩
  rcases h.2 with hn | ⟨g, cap, cur, rfl, h1, rest⟩
  · exact .inl hn
  · exact .inr ⟨g, cap, cur, rfl, Nat.le_trans hb h1, rest⟩

section
variable {P : Program}

theorem run_app (w : World) (base : Nat) (t ty e : TypeId) (i : TypeInfo) (z : Value) (size bytes : Nat) (ht : P.underlying t = some (.slice e)) (hi : P.info? e = some i) (hz : i.zero = some z)
    (hsize : i.size = size) (hby : i.bytes = bytes) (hzs : z.cells.size = size) (hsz : 0 < size)
    (v : Value) (n : Nat) (xs : List Value) (hown : w.ownsRow base e size v n xs)
    (ao : Option Addr) (m c : Nat) (news : List Value) (hl : news.length = m * size) (hnone : ao = none → m = 0 ∧ c = 0) (hnews : ∀ ad, ao = some ad → ∀ j u, news[j]? = some u → w.cell? (ad.add j) = some u) (h1 : ∀ u ∈ news, u.oneCell' = true)
    (h63 : n + m ≤ maxLen) (hbytes : (n + m) * bytes ≤ 140737488355328) (hbase : base ≤ w.heap.size) :
    ∃ v' w', (Builtin.append_ #[t, t] ty #[v, .slice ao m c]).run P w = .ok v' w' ∧ w'.ownsRow base e size v' (n + m) (xs ++ news) ∧ Fr (OwnOf v) w w' ∧ Moved w v v' ∧
      (v' = .slice none 0 0 ↔ v = .slice none 0 0 ∧ m = 0) := by
  cases ao with
  | none =>
    obtain ⟨rfl, rfl⟩ := hnone rfl
    obtain rfl : news = [] := List.eq_nil_of_length_eq_zero (by simpa using hl)
    exact ⟨v, w, run_append_owned_none (P := P) (w := w) base t ty e i size ht hi v n xs hown, by simpa using hown, Fr.refl _ _, fun k h => .inl h, by simp⟩
  | some a =>
    have hnews' := hnews a rfl
    obtain ⟨v', w', hrun, ho, hg, hnil⟩ := run_append_own (P := P) w base t ty e i z size bytes ht hi hz hsize hby hzs hsz v n xs hown a m c news hl hnews' h1 h63 hbytes hbase
    refine ⟨v', w', hrun, ho, (Fr.ofGrown hg).mono (fun _ h => h), ?_, hnil⟩
    subst hsize
    subst hby
    have hsmall : n + m ≤ 9223372036854775807 := by simp only [maxLen] at h63; omega
    intro k hk
    rcases hown.2 with ⟨rfl, rfl⟩ | ⟨g, cap, cur, rfl, hbg, hgg, hnc, hcm, hcs, htake⟩
    · by_cases hm : m = 0
      · rw [hnil.2 ⟨rfl, hm⟩] at hk
        cases hk
      · have hr := run_append_nil (P := P) w t ty e i z ht hi hz a m c news hl hnews' (by omega) (by omega) (by have hb := hbytes; simp only [Nat.zero_add] at hb; omega)
        rw [hrun] at hr
        injection hr with h1 h2
        subst h1
        simp [Value.ownBlock] at hk
        exact .inr (by omega)
    · by_cases hroom : n + m ≤ cap
      · have hfit : n * i.size + news.length ≤ cur.size := by rw [hl, hcs, ← Nat.add_mul]; exact Nat.mul_le_mul_right _ hroom
        have hr := run_append_room (P := P) w t ty e i ht hi g n cap cur hgg a m c news hl hnews' h1 hroom hfit
        rw [hrun] at hr
        injection hr with h1 h2
        subst h1
        exact .inl hk
      · have hr := run_append_grow (P := P) w t ty e i z ht hi hz ⟨g, 0, none⟩ n cap xs hown.1 (hown.cells (g := g) rfl) a m c news hl hnews' (by omega) (by omega) (growslice_fits (by omega) hbytes)
        rw [hrun] at hr
        injection hr with h1 h2
        subst h1
        simp [Value.ownBlock] at hk
        exact .inr (by omega)

/-- 'append' onto what is owned, from whatever slice. -/
theorem wpList_app (w : World) {ops : Array Oper} {rest : List Oper} {o : Oper} {a : Act} {Q : Exit → Act → World → Prop} (hgd : o.guard = none) (s x : Operand) (t : TypeId)
    (ho : o.op = .call { callee := .builtin .append, args := #[s, x], argTypes := #[t, t] })
    (base e : Nat) (i : TypeInfo) (z : Value) (size bytes : Nat) (ht : P.underlying t = some (.slice e)) (hi : P.info? e = some i ∧ i.zero = some z ∧ i.size = size ∧ i.bytes = bytes) (hzs : z.cells.size = size) (hsz : 0 < size)
    (v : Value) (n : Nat) (xs : List Value) (hs : a.eval s = v) (hown : w.ownsRow base e size v n xs)
    (ao : Option Addr) (m c : Nat) (news : List Value) (hx : a.eval x = .slice ao m c) (hl : news.length = m * size) (hnone : ao = none → m = 0 ∧ c = 0) (hnews : ∀ ad, ao = some ad → ∀ j u, news[j]? = some u → w.cell? (ad.add j) = some u) (h1 : ∀ u ∈ news, u.oneCell' = true)
    (hbytes : n + m ≤ maxLen ∧ (n + m) * bytes ≤ 140737488355328) (hbase : base ≤ w.heap.size)
    (h : ∀ v' w', w'.ownsRow base e size v' (n + m) (xs ++ news) → Fr (OwnOf v) w w' → Moved w v v' → wpList P ops Q rest (a.put o.dst v') w') : wpList P ops Q (o :: rest) a w := by
  refine wpList_plain hgd fun K hK => ?_
  obtain ⟨v', w', hr, h2, h3, h4, _⟩ := run_app (P := P) w base t o.type e i z size bytes ht hi.1 hi.2.1 hi.2.2.1 hi.2.2.2 hzs hsz v n xs hown ao m c news hl hnone hnews h1 hbytes.1 hbytes.2 hbase
  unfold Oper.wp execOp
  simp only [ho, resolve, invoke, builtin, Sem.run_bind, Sem.run_pure, Result.andThen_ok, List.map_toArray, List.map_cons, List.map_nil, hs, hx, hr]
  exact hK _ _ (h v' w' h2 h3 h4)

/-- 'append(v, r...)', r a slice that reads as ys. -/
theorem wpList_appRow (w : World) {ops : Array Oper} {rest : List Oper} {o : Oper} {a : Act} {Q : Exit → Act → World → Prop} (hgd : o.guard = none) (s x : Operand) (t : TypeId)
    (ho : o.op = .call { callee := .builtin .append, args := #[s, x], argTypes := #[t, t] })
    (base e : Nat) (i : TypeInfo) (z : Value) (bytes : Nat) (ht : P.underlying t = some (.slice e)) (hi : P.info? e = some i ∧ i.zero = some z ∧ i.size = 1 ∧ i.bytes = bytes) (hzs : z.cells.size = 1)
    (v : Value) (xs : List Value) (hs : a.eval s = v) (hown : Own w base e v xs)
    (r : Value) (ys : List Value) (hx : a.eval x = r) (hr : Row w r ys) (h1 : ∀ u ∈ ys, u.oneCell' = true)
    (hbytes : (xs.length + ys.length) * bytes ≤ 140737488355328 ∧ 0 < bytes) (hbase : base ≤ w.heap.size)
    (h : ∀ v' w', Own w' base e v' (xs ++ ys) → Fr (OwnOf v) w w' → Moved w v v' → wpList P ops Q rest (a.put o.dst v') w') : wpList P ops Q (o :: rest) a w := by
  have hb : xs.length + ys.length ≤ 140737488355328 := Nat.le_trans (Nat.le_mul_of_pos_right _ hbytes.2) hbytes.1
  obtain ⟨ao, c, rfl, q1, q2, q3, q4⟩ := hr
  refine wpList_app _ hgd s x t ho base e i z 1 bytes ht hi hzs (by decide) v xs.length xs hs hown ao ys.length c ys hx (by omega) (fun h => ⟨by have := q3 h; omega, q3 h⟩) ?_ h1
    ⟨by unfold maxLen; omega, hbytes.1⟩ hbase (fun v' w' h2 h3 h4 => h v' w' ?_ h3 h4)
  · intro ad had j u hu
    obtain ⟨b, off, hab, hc⟩ := q4 j (List.getElem?_eq_some_iff.1 hu).1
    obtain rfl : ad = ⟨b, off, none⟩ := by rw [had] at hab; exact Option.some.inj hab
    rw [Addr.add_lit]
    exact hc j u hu
  · show w'.ownsRow base e 1 v' (xs ++ ys).length (xs ++ ys)
    simpa using h2

/-- 'append(v, u)', u one cell that lies in the block just made. -/
theorem wpList_push (w : World) {ops : Array Oper} {rest : List Oper} {o : Oper} {a : Act} {Q : Exit → Act → World → Prop} (hgd : o.guard = none) (s x : Operand) (t : TypeId)
    (ho : o.op = .call { callee := .builtin .append, args := #[s, x], argTypes := #[t, t] })
    (base e : Nat) (i : TypeInfo) (z : Value) (bytes : Nat) (ht : P.underlying t = some (.slice e)) (hi : P.info? e = some i ∧ i.zero = some z ∧ i.size = 1 ∧ i.bytes = bytes) (hzs : z.cells.size = 1)
    (v : Value) (xs : List Value) (hs : a.eval s = v) (hown : Own w base e v xs)
    (u : Value) (e' : Nat) (hx : a.eval x = .slice (some ⟨w.heap.size, 0, none⟩) 1 1) (h1 : u.oneCell' = true)
    (hbytes : (xs.length + 1) * bytes ≤ 140737488355328 ∧ 0 < bytes) (hbase : base ≤ w.heap.size)
    (h : ∀ v' w', Own w' base e v' (xs ++ [u]) → Fr (OwnOf v) w w' → Moved w v v' → wpList P ops Q rest (a.put o.dst v') w') :
    wpList P ops Q (o :: rest) a (w.alloc (.cells #[u] e')) := by
  have hb : xs.length + 1 ≤ 140737488355328 := Nat.le_trans (Nat.le_mul_of_pos_right _ hbytes.2) hbytes.1
  refine wpList_app _ hgd s x t ho base e i z 1 bytes ht hi hzs (by decide) v xs.length xs hs (World.ownsRow.alloc hown _) (some ⟨w.heap.size, 0, none⟩) 1 1 [u] hx rfl (by intro h; cases h) ?_ (by intro y hy; simp at hy; subst hy; exact h1)
    ⟨by unfold maxLen; omega, hbytes.1⟩ (by simp; omega) (fun v' w' h2 h3 h4 => h v' w' ?_ ((Fr.alloc w _).non h3) (fun k hk => (h4 k hk).imp id (fun hh => by simp at hh; omega)))
  · intro ad had j y hy
    cases had
    match j, hy with
    | 0, hy => simp at hy; subst hy; simp [Addr.add, go_sem]
  · show w'.ownsRow base e 1 v' (xs ++ [u]).length (xs ++ [u])
    simpa using h2

/-- 'append(v, s...)', s a text. -/
theorem wpList_appStr (w : World) {ops : Array Oper} {rest : List Oper} {o : Oper} {a : Act} {Q : Exit → Act → World → Prop} (hgd : o.guard = none) (sl x : Operand) (t u : TypeId)
    (ho : o.op = .call { callee := .builtin .append, args := #[sl, x], argTypes := #[t, u] })
    (base e : Nat) (i : TypeInfo) (ht : P.underlying t = some (.slice e)) (hu : P.underlying u = some .string) (hi : P.info? e = some i ∧ i.zero = some (.int .u8 0) ∧ i.size = 1 ∧ i.bytes = 1)
    (v : Value) (xs : List Value) (hs : a.eval sl = v) (hown : Own w base e v xs) (s : ByteArray) (hx : a.eval x = .string s)
    (hbytes : xs.length + s.size ≤ 140737488355328) (hbase : base ≤ w.heap.size)
    (h : ∀ v' w', Own w' base e v' (xs ++ bs s.data.toList) → Fr (OwnOf v) w w' → Moved w v v' → wpList P ops Q rest (a.put o.dst v') w') : wpList P ops Q (o :: rest) a w := by
  refine wpList_plain hgd fun K hK => ?_
  obtain ⟨hi1, hz, hs1, hb1⟩ := hi
  have hm : xs.length + s.size ≤ maxLen := by unfold maxLen; omega
  obtain ⟨v', w', hrun, h2, h3, h4⟩ := Lib.run_append_own_string (P := P) (w := w) base t u o.type e i ht hu hi1 hz hs1 hb1 v xs.length xs hown s hm hbytes hbase
  have hcells : Lib.strCells s = bs s.data.toList := rfl
  have hlen : (xs ++ bs s.data.toList).length = xs.length + s.size := by rw [List.length_append, bs_length]; rfl
  have hmv : Moved w v v' := by
    intro k hk
    rcases hown.2 with ⟨rfl, h0⟩ | ⟨g, cap, cur, rfl, hbg, hgg, hnc, hcm, hcs, htake⟩
    · by_cases hm0 : s.size = 0
      · rw [h4.2 ⟨rfl, hm0⟩] at hk
        cases hk
      · have hr := run_append_nil_string (P := P) w t u o.type e i (.int .u8 0) ht hu hi1 hz s (by omega) (by omega) (by rw [hb1]; omega)
        rw [hrun] at hr
        injection hr with h5 h6
        subst h5
        simp [Value.ownBlock] at hk
        exact .inr (by omega)
    · by_cases hroom : xs.length + s.size ≤ cap
      · have hr := Lib.run_append_room_string (P := P) (w := w) t u o.type e i ht hu hi1 hs1 g xs.length cap cur hgg s hroom (by omega)
        rw [hrun] at hr
        injection hr with h5 h6
        subst h5
        exact .inl hk
      · have hr := Lib.run_append_grow_string (P := P) (w := w) t u o.type e i (.int .u8 0) ht hu hi1 hz ⟨g, 0, none⟩ xs.length cap xs (by rw [hs1]; omega) (World.ownsRow.cells hown (g := g) rfl) s (by omega) (by omega) (by rw [hb1]; exact growslice_fits (by omega) (by omega))
        rw [hrun] at hr
        injection hr with h5 h6
        subst h5
        simp [Value.ownBlock] at hk
        exact .inr (by omega)
  rw [hcells] at h2
  rw [← hlen] at h2
  unfold Oper.wp execOp
  simp only [ho, resolve, invoke, builtin, Sem.run_bind, Sem.run_pure, Result.andThen_ok, List.map_toArray, List.map_cons, List.map_nil, hs, hx, hrun]
  exact hK _ _ (h v' w' h2 (Fr.ofGrown h3) hmv)
end
section
variable {P : Program}

theorem add_inj (b off i : Nat) : (⟨b, off, none⟩ : Addr).add i = ⟨b, off + i, none⟩ := Addr.add_lit b off i

/-- a part of a slice reads as the part -/
theorem Row.sliced {w : World} {a : Option Addr} {n c : Nat} {xs : List Value} (h : Row w (.slice a n c) xs) (lo hi mx : Nat) (h1 : lo ≤ hi) (h2 : hi ≤ xs.length) (h3 : hi ≤ mx) (h4 : mx ≤ c) :
    Row w (sliced a lo hi mx 1) ((xs.drop lo).take (hi - lo)) ∧ ∀ S, Off S (.slice a n c) → Off S (sliced a lo hi mx 1) := by
  obtain ⟨a', c', e, q1, q2, q3, q4⟩ := h
  injection e with e1 e2 e3
  subst e1 e2 e3
  have hlen : ((xs.drop lo).take (hi - lo)).length = hi - lo := by simp; omega
  unfold Go.sliced
  by_cases hm : mx = lo
  · rw [if_pos hm]
    have h0 : hi - lo = 0 := by omega
    rw [h0, List.take_zero]
    refine ⟨⟨a, mx - lo, rfl, Nat.zero_le _, by omega, fun hn => by have := q3 hn; omega, fun j hj => absurd hj (by simp)⟩, fun S hS b off n' c' e => ?_⟩
    injection e with e1 _ _
    exact hS b off _ _ (by rw [e1])
  · rw [if_neg hm, Nat.mul_one]
    refine ⟨⟨a.map (·.add lo), mx - lo, by rw [hlen], by rw [hlen]; omega, by omega, fun hn => ?_, fun j hj => ?_⟩, fun S hS b off n' c' e => ?_⟩
    · cases a with
      | none => have := q3 rfl; omega
      | some ad => cases hn
    · rw [hlen] at hj
      obtain ⟨b, off, rfl, hc⟩ := q4 lo (by omega)
      refine ⟨b, off + lo, by simp [Addr.add_lit], fun i u hi' => ?_⟩
      have hil : i < hi - lo := by have := (List.getElem?_eq_some_iff.1 hi').1; omega
      rw [Nat.add_assoc]
      refine hc (lo + i) u ?_
      rw [List.getElem?_take_of_lt hil, List.getElem?_drop] at hi'
      exact hi'
    · injection e with e1 _ _
      cases a with
      | none => cases e1
      | some ad =>
        obtain ⟨b0, off0, spot⟩ := ad
        simp only [Option.map_some, Option.some.injEq, Addr.add] at e1
        split at e1
        · injection e1 with f1 f2 f3
          subst f1 f3
          exact hS b0 off0 _ _ rfl
        · injection e1 with f1 f2 f3
          subst f1
          by_cases hx : 0 < xs.length
          · obtain ⟨b2, off2, e5, _⟩ := q4 0 hx
            injection e5 with e6
            injection e6 with e7 e8 e9
            subst e7 e8 e9
            exact hS _ _ _ _ rfl
          · omega

theorem run_size1 (w : World) {e : TypeId} (hsz : (P.info? e).map (·.size) = some 1) : (sizeOf e).run P w = .ok 1 w := by
  cases hi' : P.info? e with
  | none => rw [hi'] at hsz; cases hsz
  | some i => rw [hi'] at hsz; injection hsz with hs; simp [sizeOf, typeInfo, hi', hs]

/-- 'r[lo:hi]' -/
theorem run_sub {w0 : World} {v : Value} {xs : List Value} (hv : Row w0 v xs) (t e : TypeId) (ht : P.underlying t = some (.slice e)) (hsz : (P.info? e).map (·.size) = some 1) (k k' : IntKind) (L H : Int) (lo hi : Nat) (eL : L = (lo : Int)) (eH : H = (hi : Int)) (h1 : lo ≤ hi) (h2 : hi ≤ xs.length) :
    ∃ v', (∀ w, (Instr.slice t v (some (.int k L)) (some (.int k' H)) none).run P w = .ok v' w) ∧ Row w0 v' ((xs.drop lo).take (hi - lo)) ∧ (∀ S, Off S v → Off S v') := by
  subst eL eH
  obtain ⟨a0, c, rfl, q1, q2, q3, q4⟩ := id hv
  have he : P.elem t = e := by unfold Program.elem; rw [ht]
  refine ⟨sliced a0 lo hi c 1, fun w => ?_, hv.sliced lo hi c h1 h2 (by omega) (Nat.le_refl _)⟩
  rw [run_slice_lh w t a0 xs.length c (by rw [he]; exact ht) k k' lo hi (by omega) (by omega) (by omega), he, run_size1 w hsz]
  simp [Result.andThen]

/-- 'r[lo:]' -/
theorem run_subLo {w0 : World} {v : Value} {xs : List Value} (hv : Row w0 v xs) (t e : TypeId) (ht : P.underlying t = some (.slice e)) (hsz : (P.info? e).map (·.size) = some 1) (k : IntKind) (L : Int) (lo : Nat) (eL : L = (lo : Int)) (h1 : lo ≤ xs.length) :
    ∃ v', (∀ w, (Instr.slice t v (some (.int k L)) none none).run P w = .ok v' w) ∧ Row w0 v' (xs.drop lo) ∧ (∀ S, Off S v → Off S v') := by
  subst eL
  obtain ⟨a0, c, rfl, q1, q2, q3, q4⟩ := id hv
  have he : P.elem t = e := by unfold Program.elem; rw [ht]
  have hs := hv.sliced lo xs.length c h1 (Nat.le_refl _) q1 (Nat.le_refl _)
  rw [List.take_of_length_le (by simp)] at hs
  refine ⟨sliced a0 lo xs.length c 1, fun w => ?_, hs⟩
  rw [run_slice_l w t a0 xs.length c (by rw [he]; exact ht) k lo (by omega) (by omega), he, run_size1 w hsz]
  simp [Result.andThen]

/-- 'r[:hi]' -/
theorem run_subHi {w0 : World} {v : Value} {xs : List Value} (hv : Row w0 v xs) (t e : TypeId) (ht : P.underlying t = some (.slice e)) (hsz : (P.info? e).map (·.size) = some 1) (k : IntKind) (H : Int) (hi : Nat) (eH : H = (hi : Int)) (h2 : hi ≤ xs.length) :
    ∃ v', (∀ w, (Instr.slice t v none (some (.int k H)) none).run P w = .ok v' w) ∧ Row w0 v' (xs.take hi) ∧ (∀ S, Off S v → Off S v') := by
  subst eH
  obtain ⟨a0, c, rfl, q1, q2, q3, q4⟩ := id hv
  have he : P.elem t = e := by unfold Program.elem; rw [ht]
  have hs := hv.sliced 0 hi c (Nat.zero_le _) h2 (by omega) (Nat.le_refl _)
  rw [List.drop_zero, Nat.sub_zero] at hs
  refine ⟨sliced a0 0 hi c 1, fun w => ?_, hs⟩
  rw [run_slice_h w t a0 xs.length c (by rw [he]; exact ht) k hi (by omega) (by omega), he, run_size1 w hsz]
  simp [Result.andThen]

/-- 'len(r)' -/
theorem run_lenRow {w0 : World} {v : Value} {xs : List Value} (hv : Row w0 v xs) (t e : TypeId) (ht : P.underlying t = some (.slice e)) : ∀ ty w, (Builtin.len_ #[t] ty #[v]).run P w = .ok (.int .i64 xs.length) w := by
  intro ty w
  obtain ⟨a0, c, rfl, _⟩ := hv
  have he : P.elem t = e := by unfold Program.elem; rw [ht]
  simp [Builtin.len_, run_underlying ht, goInt]

/-- '&r[i]' and what lies there -/
theorem run_at {w0 : World} {v : Value} {xs : List Value} (hv : Row w0 v xs) (i : Nat) (u : Value) (hu : xs[i]? = some u) :
    ∃ b off n c, v = .slice (some ⟨b, off, none⟩) n c ∧ n = xs.length ∧ w0.cell? ⟨b, off + i, none⟩ = some u := by
  obtain ⟨a0, c, rfl, q1, q2, q3, q4⟩ := hv
  obtain ⟨b, off, rfl, h⟩ := q4 i (List.getElem?_eq_some_iff.1 hu).1
  exact ⟨b, off, _, c, rfl, rfl, h i u hu⟩

theorem run_str (w : World) (src dst e : TypeId) (v : Value) (l : List UInt8) (hv : Row w v (bs l)) (hs : P.underlying src = some (.slice e)) (he : P.underlying e = some (.int .u8)) (hd : P.underlying dst = some .string) :
    (convert src dst v).run P w = .ok (.string ⟨l.toArray⟩) w := by
  obtain ⟨a, c, rfl, q1, q2, q3, q4⟩ := hv
  rw [bs_length] at *
  cases a with
  | none =>
    have h0 : l = [] := List.eq_nil_of_length_eq_zero (by have := q3 rfl; omega)
    subst h0
    exact run_convert_bytes_nil (P := P) w src e hs he _ _ dst hd
  | some ad =>
    refine run_convert_bytes_back (P := P) w src dst e ad c l hs he hd (fun j hj => ?_)
    obtain ⟨b, off, e1, hc⟩ := q4 j hj
    injection e1 with e1
    subst e1
    rw [Addr.add_lit]
    exact hc j _ (by simp [bs, hj])
end
section
variable {P : Program}
/-- '[]byte(s)' -/
theorem run_toBytes (w : World) (src dst e : TypeId) (s : ByteArray) (hs : P.underlying src = some .string) (hd : P.underlying dst = some (.slice e)) (he : P.underlying e = some (.int .u8)) (hl : s.size ≤ 140737488355328) :
    ∃ v w', (convert src dst (.string s)).run P w = .ok v w' ∧ Row w' v (bs s.data.toList) ∧ Fr Non w w' := by
  have hr := run_bytes_of_string (P := P) w src dst e s hs hd he
  have hge := grownCap_ge w s.size 0 e
  have hle := grownCap_le_maxLen w s.size 0 e (by unfold maxLen; omega)
  refine ⟨_, _, hr, ?_, (Fr.drew w).non (Fr.alloc _ _)⟩
  have hlen : (bs s.data.toList).length = s.size := by rw [bs_length]; rfl
  refine ⟨_, _, by rw [hlen], by rw [hlen]; exact hge, hle, (by intro h; cases h), fun j hj => ⟨_, _, rfl, fun i u hi => ?_⟩⟩
  have hi' : i < s.data.size := by have := (List.getElem?_eq_some_iff.1 hi).1; rw [hlen] at this; exact this
  rw [Nat.zero_add]
  have h1 := World.cell?_alloc_mark w.drew (bytesRow s (grownCap w s.size 0 e)) e ((bytesRow s (grownCap w s.size 0 e)).size, (bytesRow s (grownCap w s.size 0 e)).size + 1) i
  rw [bytesRow_at s _ i hi'] at h1
  have h2 : (bs s.data.toList)[i]? = some (.int .u8 (s.data[i].toNat : Int)) := by
    simp [bs]
    exact ⟨_, Array.getElem?_eq_getElem hi', rfl⟩
  rw [hi] at h2
  rw [Option.some.inj h2]
  exact h1
end
end Go.Proofs.Yteokfgdennjjiaa
