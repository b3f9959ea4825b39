/- Ground: Base, Built, FixMath, ShaMath, MacMath, StreamMath, SealMath, Blk, Var, More, Step, Words, Whole, StreamMathB, Parts, Held, Laid, Shell, Bulk, Arr, ArrS, ArrW, UptoLaid, one behind the other. -/
import Derived.Test.YthfpkdbhihcniaaDoorRows
import Derived.WalkKit
import Derived.ProofKit
import Derived.OpenShut
import Derived.JoinedCond
import Derived.Lib.Hide
import Derived.WalkLawsBesides
import Derived.WalkSpells
import Derived.Handy
import Derived.Lib.AppendStr
import Derived.Laws.AppendOwnNone
import Derived.BigQuiet
import Derived.Deep.QuietTactic
import Derived.Laws.BitsAllLaws
import Derived.Deep.MidRow
import Derived.Laws.CopyOwn
import Derived.Laws.Tables
import Derived.Stop.BytesEq
import Derived.Deep.RegionHeldLaw
import Derived.LaidMore
import Derived.MakeChecks
import Derived.ShutString
import Derived.ChangeOld
import Derived.SizedLaws
import Derived.Deep.CondSized
import Derived.Deep.Strs
import Derived.Deep.DeepHandedRow
import Derived.Stop.Joined

/- Frames of worlds, slices that read as lists: words on which the walks of this seat stand; nothing of the program. -/
namespace Go.Proofs.YthfpkdbhihcniaaDoor
open Go.ChangeShapes Go.WideShapes Go.ChangeAt Go.RowKit
/-- w' is w but for the blocks of S, and new ones. -/
structure Fr (S : Nat → Prop) (w w' : World) : Prop where
  os : w'.os = w.os
  tape : w'.tape = w.tape
  output : w'.output = w.output
  size : w.heap.size ≤ w'.heap.size
  block : ∀ k, k < w.heap.size → ¬ S k → w'.heap[k]? = w.heap[k]?

def Non : Nat → Prop := fun _ => False
def One (b : Nat) : Nat → Prop := fun k => k = b
def OwnOf (v : Value) : Nat → Prop := fun k => v.ownBlock = some k

theorem Fr.refl (S : Nat → Prop) (w : World) : Fr S w w := ⟨rfl, rfl, rfl, Nat.le_refl _, fun _ _ _ => rfl⟩
theorem Fr.trans {S T U : Nat → Prop} {a b c : World} (h : Fr S a b) (k : Fr T b c) (hs : ∀ i, S i → U i) (ht : ∀ i, T i → U i ∨ a.heap.size ≤ i) : Fr U a c :=
  ⟨k.os.trans h.os, k.tape.trans h.tape, k.output.trans h.output, Nat.le_trans h.size k.size, fun i hi hu =>
    (k.block i (Nat.lt_of_lt_of_le hi h.size) (fun h' => (ht i h').elim hu (fun h'' => by omega))).trans (h.block i hi (fun h' => hu (hs i h')))⟩
theorem Fr.non {T : Nat → Prop} {a b c : World} (h : Fr Non a b) (k : Fr T b c) : Fr T a c := h.trans k (fun _ h => h.elim) (fun _ h => .inl h)
theorem Fr.thenNon {T : Nat → Prop} {a b c : World} (h : Fr T a b) (k : Fr Non b c) : Fr T a c := h.trans k (fun _ h => h) (fun _ h => h.elim)
theorem Fr.new {S T : Nat → Prop} {a b c : World} (h : Fr S a b) (k : Fr T b c) (ht : ∀ i, T i → a.heap.size ≤ i) : Fr S a c := h.trans k (fun _ h => h) (fun i h => .inr (ht i h))
theorem Fr.mono {S T : Nat → Prop} {a b : World} (h : Fr S a b) (hs : ∀ i, S i → T i) : Fr T a b := ⟨h.os, h.tape, h.output, h.size, fun i hi hu => h.block i hi (fun h' => hu (hs i h'))⟩
theorem Fr.ofGrown {a b : World} {row : Option Nat} (h : a.grownBy b row) : Fr (fun k => row = some k) a b :=
  ⟨h.os, h.tape, h.output, h.size, fun i hi hu => h.block i hi (fun e => hu e.symm)⟩
theorem Fr.ofGrownNone {a b : World} (h : a.grownBy b none) : Fr Non a b := (Fr.ofGrown h).mono (fun _ h => by cases h)
theorem Fr.below {S : Nat → Prop} {a b : World} {B : Nat} (h : Fr S a b) (hs : ∀ i, S i → B ≤ i) (hB : B ≤ a.heap.size) : Below B a b :=
  ⟨h.os, h.tape, h.output, h.size, fun i hi => h.block i (by omega) (fun h' => by have := hs i h'; omega)⟩
theorem Fr.nonBelow {a b : World} (h : Fr Non a b) : Below a.heap.size a b := h.below (fun _ h => h.elim) (Nat.le_refl _)
theorem Fr.alloc (w : World) (o : Obj) : Fr Non w (w.alloc o) := ⟨rfl, rfl, rfl, by simp, fun k hk _ => Below.heap_alloc _ _ _ hk⟩
theorem Fr.drew (w : World) : Fr Non w w.drew := ⟨rfl, rfl, rfl, Nat.le_refl _, fun _ _ _ => rfl⟩
theorem Fr.setCell (w : World) (a : Addr) (u : Value) : Fr (One a.block) w (w.setCell a u) :=
  ⟨rfl, rfl, rfl, by simp [World.setCell], fun k _ hk => Below.heap_setCell _ _ _ _ hk⟩
theorem Fr.heap {S : Nat → Prop} {w w' : World} {k : Nat} {o : Obj} (h : Fr S w w') (hc : w.heap[k]? = some o) (hn : ¬ S k) : w'.heap[k]? = some o :=
  (h.block k (Array.getElem?_eq_some_iff.1 hc).1 hn).trans hc
theorem Fr.cell {S : Nat → Prop} {w w' : World} {p : Addr} {u : Value} (h : Fr S w w') (hc : w.cell? p = some u) (hn : ¬ S p.block) : w'.cell? p = some u :=
  (World.cell?_of_block (w := w) (h.block p.block (World.block_lt_of_cell? w p hc) hn)).trans hc

/-- v is a slice whose places read xs, one cell each. -/
def Row (w : World) (v : Value) (xs : List Value) : Prop :=
  ∃ a c, v = .slice a xs.length c ∧ xs.length ≤ c ∧ c ≤ maxLen ∧ (a = none → c = 0) ∧ ∀ j, j < xs.length → ∃ b off, a = some ⟨b, off, none⟩ ∧ ∀ i u, xs[i]? = some u → w.cell? ⟨b, off + i, none⟩ = some u

/-- the block that v points into is not of S -/
def Off (S : Nat → Prop) (v : Value) : Prop := ∀ b off n c, v = .slice (some ⟨b, off, none⟩) n c → ¬ S b

theorem Row.frame {S : Nat → Prop} {w w' : World} {v : Value} {xs : List Value} (h : Row w v xs) (f : Fr S w w') (hn : Off S v) : Row w' v xs := by
  obtain ⟨a, c, rfl, h1, h2, h3, h4⟩ := h
  refine ⟨a, c, rfl, h1, h2, h3, fun j hj => ?_⟩
  obtain ⟨b, off, rfl, h5⟩ := h4 j hj
  exact ⟨b, off, rfl, fun i u hi => f.cell (h5 i u hi) (hn _ _ _ _ rfl)⟩
theorem Row.non {w w' : World} {v : Value} {xs : List Value} (h : Row w v xs) (f : Fr Non w w') : Row w' v xs := h.frame f (fun _ _ _ _ _ h => h)

theorem Row.le {w : World} {v : Value} {xs : List Value} (h : Row w v xs) : xs.length ≤ maxLen := by
  obtain ⟨_, _, _, h1, h2, _⟩ := h
  exact Nat.le_trans h1 h2
theorem Row.ofOwn {w : World} {base e : Nat} {v : Value} {xs : List Value} {n : Nat} (h : w.ownsRow base e 1 v n xs) : Row w v xs := by
  have hl : xs.length = n := by have := h.1; omega
  subst hl
  have hc := fun g hg => h.cells (g := g) hg
  rcases h.2 with ⟨rfl, h0⟩ | ⟨g, cap, cur, rfl, _, hg, h1, h2, _, _⟩
  · have : xs = [] := List.eq_nil_of_length_eq_zero h0
    subst this
    exact ⟨none, 0, rfl, Nat.le_refl _, Nat.zero_le _, fun _ => rfl, fun j hj => absurd hj (by simp)⟩
  · refine ⟨_, cap, rfl, h1, h2, (by intro h; cases h), fun j hj => ⟨g, 0, rfl, fun i u hi => ?_⟩⟩
    have := hc g rfl i u hi
    rwa [Addr.add_lit] at this

/-- bytes as cells -/
def bs (l : List UInt8) : List Value := l.map fun c => .int .u8 (c.toNat : Int)
theorem bs_length (l : List UInt8) : (bs l).length = l.length := by simp [bs]
theorem bs_append (l m : List UInt8) : bs (l ++ m) = bs l ++ bs m := by simp [bs]
theorem bs_one (l : List UInt8) : ∀ u ∈ bs l, u.oneCell' = true := by
  intro u hu
  simp only [bs, List.mem_map] at hu
  obtain ⟨c, _, rfl⟩ := hu
  rfl
/-- what v' points into is what v did, or new -/
def Moved (w : World) (v v' : Value) : Prop := ∀ k, v'.ownBlock = some k → v.ownBlock = some k ∨ w.heap.size ≤ k

/-- v is a slice of places of one cell each, in a block of the call's own from 'base' on, that hold xs. -/
def Own (w : World) (base e : Nat) (v : Value) (xs : List Value) : Prop := w.ownsRow base e 1 v xs.length xs
theorem Own.row {w : World} {base e : Nat} {v : Value} {xs : List Value} (h : Own w base e v xs) : Row w v xs := Row.ofOwn h
theorem Own.frame {S : Nat → Prop} {w w' : World} {base e : Nat} {v : Value} {xs : List Value} (h : Own w base e v xs) (f : Fr S w w') (hn : Off S v) : Own w' base e v xs := by
  refine ⟨h.1, ?_⟩
  rcases h.2 with hn | ⟨g, cap, cur, rfl, h1, hg, rest⟩
  · exact .inl hn
  · exact .inr ⟨g, cap, cur, rfl, h1, f.heap hg (hn _ _ _ _ rfl), rest⟩
theorem Own.non {w w' : World} {base e : Nat} {v : Value} {xs : List Value} (h : Own w base e v xs) (f : Fr Non w w') : Own w' base e v xs := h.frame f (fun _ _ _ _ _ h => h)
theorem Own.lt {w : World} {base e : Nat} {v : Value} {xs : List Value} (h : Own w base e v xs) : ∀ k, v.ownBlock = some k → base ≤ k ∧ k < w.heap.size := World.ownsRow.lt h
theorem Own.nil (w : World) (base e : Nat) : Own w base e (.slice none 0 0) [] := World.ownsRow_nil w base e 1
theorem Own.mono {w : World} {base base' e : Nat} {v : Value} {xs : List Value} (h : Own w base e v xs) (hb : base' ≤ base) : Own w base' e v xs := by
  refine ⟨h.1, ?_⟩
  rcases h.2 with hn | ⟨g, cap, cur, rfl, h1, rest⟩
  · exact .inl hn
  · exact .inr ⟨g, cap, cur, rfl, Nat.le_trans hb h1, rest⟩

section
variable {P : Program}

theorem run_app (w : World) (base : Nat) (t ty e : TypeId) (i : TypeInfo) (z : Value) (size bytes : Nat) (ht : P.underlying t = some (.slice e)) (hi : P.info? e = some i) (hz : i.zero = some z)
    (hsize : i.size = size) (hby : i.bytes = bytes) (hzs : z.cells.size = size) (hsz : 0 < size)
    (v : Value) (n : Nat) (xs : List Value) (hown : w.ownsRow base e size v n xs)
    (ao : Option Addr) (m c : Nat) (news : List Value) (hl : news.length = m * size) (hnone : ao = none → m = 0 ∧ c = 0) (hnews : ∀ ad, ao = some ad → ∀ j u, news[j]? = some u → w.cell? (ad.add j) = some u) (h1 : ∀ u ∈ news, u.oneCell' = true)
    (h63 : n + m ≤ maxLen) (hbytes : (n + m) * bytes ≤ 140737488355328) (hbase : base ≤ w.heap.size) :
    ∃ v' w', (Builtin.append_ #[t, t] ty #[v, .slice ao m c]).run P w = .ok v' w' ∧ w'.ownsRow base e size v' (n + m) (xs ++ news) ∧ Fr (OwnOf v) w w' ∧ Moved w v v' ∧
      (v' = .slice none 0 0 ↔ v = .slice none 0 0 ∧ m = 0) := by
  cases ao with
  | none =>
    obtain ⟨rfl, rfl⟩ := hnone rfl
    obtain rfl : news = [] := List.eq_nil_of_length_eq_zero (by simpa using hl)
    exact ⟨v, w, run_append_owned_none (P := P) (w := w) base t ty e i size ht hi v n xs hown, by simpa using hown, Fr.refl _ _, fun k h => .inl h, by simp⟩
  | some a =>
    have hnews' := hnews a rfl
    obtain ⟨v', w', hrun, ho, hg, hnil⟩ := run_append_own (P := P) w base t ty e i z size bytes ht hi hz hsize hby hzs hsz v n xs hown a m c news hl hnews' h1 h63 hbytes hbase
    refine ⟨v', w', hrun, ho, (Fr.ofGrown hg).mono (fun _ h => h), ?_, hnil⟩
    subst hsize
    subst hby
    have hsmall : n + m ≤ 9223372036854775807 := by simp only [maxLen] at h63; omega
    intro k hk
    rcases hown.2 with ⟨rfl, rfl⟩ | ⟨g, cap, cur, rfl, hbg, hgg, hnc, hcm, hcs, htake⟩
    · by_cases hm : m = 0
      · rw [hnil.2 ⟨rfl, hm⟩] at hk
        cases hk
      · have hr := run_append_nil (P := P) w t ty e i z ht hi hz a m c news hl hnews' (by omega) (by omega) (by have hb := hbytes; simp only [Nat.zero_add] at hb; omega)
        rw [hrun] at hr
        injection hr with h1 h2
        subst h1
        simp [Value.ownBlock] at hk
        exact .inr (by omega)
    · by_cases hroom : n + m ≤ cap
      · have hfit : n * i.size + news.length ≤ cur.size := by rw [hl, hcs, ← Nat.add_mul]; exact Nat.mul_le_mul_right _ hroom
        have hr := run_append_room (P := P) w t ty e i ht hi g n cap cur hgg a m c news hl hnews' h1 hroom hfit
        rw [hrun] at hr
        injection hr with h1 h2
        subst h1
        exact .inl hk
      · have hr := run_append_grow (P := P) w t ty e i z ht hi hz ⟨g, 0, none⟩ n cap xs hown.1 (hown.cells (g := g) rfl) a m c news hl hnews' (by omega) (by omega) (growslice_fits (by omega) hbytes)
        rw [hrun] at hr
        injection hr with h1 h2
        subst h1
        simp [Value.ownBlock] at hk
        exact .inr (by omega)

/-- 'append' onto what is owned, from whatever slice. -/
theorem wpList_app (w : World) {ops : Array Oper} {rest : List Oper} {o : Oper} {a : Act} {Q : Exit → Act → World → Prop} (hgd : o.guard = none) (s x : Operand) (t : TypeId)
    (ho : o.op = .call { callee := .builtin .append, args := #[s, x], argTypes := #[t, t] })
    (base e : Nat) (i : TypeInfo) (z : Value) (size bytes : Nat) (ht : P.underlying t = some (.slice e)) (hi : P.info? e = some i ∧ i.zero = some z ∧ i.size = size ∧ i.bytes = bytes) (hzs : z.cells.size = size) (hsz : 0 < size)
    (v : Value) (n : Nat) (xs : List Value) (hs : a.eval s = v) (hown : w.ownsRow base e size v n xs)
    (ao : Option Addr) (m c : Nat) (news : List Value) (hx : a.eval x = .slice ao m c) (hl : news.length = m * size) (hnone : ao = none → m = 0 ∧ c = 0) (hnews : ∀ ad, ao = some ad → ∀ j u, news[j]? = some u → w.cell? (ad.add j) = some u) (h1 : ∀ u ∈ news, u.oneCell' = true)
    (hbytes : n + m ≤ maxLen ∧ (n + m) * bytes ≤ 140737488355328) (hbase : base ≤ w.heap.size)
    (h : ∀ v' w', w'.ownsRow base e size v' (n + m) (xs ++ news) → Fr (OwnOf v) w w' → Moved w v v' → wpList P ops Q rest (a.put o.dst v') w') : wpList P ops Q (o :: rest) a w := by
  refine wpList_plain hgd fun K hK => ?_
  obtain ⟨v', w', hr, h2, h3, h4, _⟩ := run_app (P := P) w base t o.type e i z size bytes ht hi.1 hi.2.1 hi.2.2.1 hi.2.2.2 hzs hsz v n xs hown ao m c news hl hnone hnews h1 hbytes.1 hbytes.2 hbase
  unfold Oper.wp execOp
  simp only [ho, resolve, invoke, builtin, Sem.run_bind, Sem.run_pure, Result.andThen_ok, List.map_toArray, List.map_cons, List.map_nil, hs, hx, hr]
  exact hK _ _ (h v' w' h2 h3 h4)

/-- 'append(v, r...)', r a slice that reads as ys. -/
theorem wpList_appRow (w : World) {ops : Array Oper} {rest : List Oper} {o : Oper} {a : Act} {Q : Exit → Act → World → Prop} (hgd : o.guard = none) (s x : Operand) (t : TypeId)
    (ho : o.op = .call { callee := .builtin .append, args := #[s, x], argTypes := #[t, t] })
    (base e : Nat) (i : TypeInfo) (z : Value) (bytes : Nat) (ht : P.underlying t = some (.slice e)) (hi : P.info? e = some i ∧ i.zero = some z ∧ i.size = 1 ∧ i.bytes = bytes) (hzs : z.cells.size = 1)
    (v : Value) (xs : List Value) (hs : a.eval s = v) (hown : Own w base e v xs)
    (r : Value) (ys : List Value) (hx : a.eval x = r) (hr : Row w r ys) (h1 : ∀ u ∈ ys, u.oneCell' = true)
    (hbytes : (xs.length + ys.length) * bytes ≤ 140737488355328 ∧ 0 < bytes) (hbase : base ≤ w.heap.size)
    (h : ∀ v' w', Own w' base e v' (xs ++ ys) → Fr (OwnOf v) w w' → Moved w v v' → wpList P ops Q rest (a.put o.dst v') w') : wpList P ops Q (o :: rest) a w := by
  have hb : xs.length + ys.length ≤ 140737488355328 := Nat.le_trans (Nat.le_mul_of_pos_right _ hbytes.2) hbytes.1
  obtain ⟨ao, c, rfl, q1, q2, q3, q4⟩ := hr
  refine wpList_app _ hgd s x t ho base e i z 1 bytes ht hi hzs (by decide) v xs.length xs hs hown ao ys.length c ys hx (by omega) (fun h => ⟨by have := q3 h; omega, q3 h⟩) ?_ h1
    ⟨by unfold maxLen; omega, hbytes.1⟩ hbase (fun v' w' h2 h3 h4 => h v' w' ?_ h3 h4)
  · intro ad had j u hu
    obtain ⟨b, off, hab, hc⟩ := q4 j (List.getElem?_eq_some_iff.1 hu).1
    obtain rfl : ad = ⟨b, off, none⟩ := by rw [had] at hab; exact Option.some.inj hab
    rw [Addr.add_lit]
    exact hc j u hu
  · show w'.ownsRow base e 1 v' (xs ++ ys).length (xs ++ ys)
    simpa using h2

/-- 'append(v, u)', u one cell that lies in the block just made. -/
theorem wpList_push (w : World) {ops : Array Oper} {rest : List Oper} {o : Oper} {a : Act} {Q : Exit → Act → World → Prop} (hgd : o.guard = none) (s x : Operand) (t : TypeId)
    (ho : o.op = .call { callee := .builtin .append, args := #[s, x], argTypes := #[t, t] })
    (base e : Nat) (i : TypeInfo) (z : Value) (bytes : Nat) (ht : P.underlying t = some (.slice e)) (hi : P.info? e = some i ∧ i.zero = some z ∧ i.size = 1 ∧ i.bytes = bytes) (hzs : z.cells.size = 1)
    (v : Value) (xs : List Value) (hs : a.eval s = v) (hown : Own w base e v xs)
    (u : Value) (e' : Nat) (hx : a.eval x = .slice (some ⟨w.heap.size, 0, none⟩) 1 1) (h1 : u.oneCell' = true)
    (hbytes : (xs.length + 1) * bytes ≤ 140737488355328 ∧ 0 < bytes) (hbase : base ≤ w.heap.size)
    (h : ∀ v' w', Own w' base e v' (xs ++ [u]) → Fr (OwnOf v) w w' → Moved w v v' → wpList P ops Q rest (a.put o.dst v') w') :
    wpList P ops Q (o :: rest) a (w.alloc (.cells #[u] e')) := by
  have hb : xs.length + 1 ≤ 140737488355328 := Nat.le_trans (Nat.le_mul_of_pos_right _ hbytes.2) hbytes.1
  refine wpList_app _ hgd s x t ho base e i z 1 bytes ht hi hzs (by decide) v xs.length xs hs (World.ownsRow.alloc hown _) (some ⟨w.heap.size, 0, none⟩) 1 1 [u] hx rfl (by intro h; cases h) ?_ (by intro y hy; simp at hy; subst hy; exact h1)
    ⟨by unfold maxLen; omega, hbytes.1⟩ (by simp; omega) (fun v' w' h2 h3 h4 => h v' w' ?_ ((Fr.alloc w _).non h3) (fun k hk => (h4 k hk).imp id (fun hh => by simp at hh; omega)))
  · intro ad had j y hy
    cases had
    match j, hy with
    | 0, hy => simp at hy; subst hy; simp [Addr.add, go_sem]
  · show w'.ownsRow base e 1 v' (xs ++ [u]).length (xs ++ [u])
    simpa using h2

/-- 'append(v, s...)', s a text. -/
theorem wpList_appStr (w : World) {ops : Array Oper} {rest : List Oper} {o : Oper} {a : Act} {Q : Exit → Act → World → Prop} (hgd : o.guard = none) (sl x : Operand) (t u : TypeId)
    (ho : o.op = .call { callee := .builtin .append, args := #[sl, x], argTypes := #[t, u] })
    (base e : Nat) (i : TypeInfo) (ht : P.underlying t = some (.slice e)) (hu : P.underlying u = some .string) (hi : P.info? e = some i ∧ i.zero = some (.int .u8 0) ∧ i.size = 1 ∧ i.bytes = 1)
    (v : Value) (xs : List Value) (hs : a.eval sl = v) (hown : Own w base e v xs) (s : ByteArray) (hx : a.eval x = .string s)
    (hbytes : xs.length + s.size ≤ 140737488355328) (hbase : base ≤ w.heap.size)
    (h : ∀ v' w', Own w' base e v' (xs ++ bs s.data.toList) → Fr (OwnOf v) w w' → Moved w v v' → wpList P ops Q rest (a.put o.dst v') w') : wpList P ops Q (o :: rest) a w := by
  refine wpList_plain hgd fun K hK => ?_
  obtain ⟨hi1, hz, hs1, hb1⟩ := hi
  have hm : xs.length + s.size ≤ maxLen := by unfold maxLen; omega
  obtain ⟨v', w', hrun, h2, h3, h4⟩ := Lib.run_append_own_string (P := P) (w := w) base t u o.type e i ht hu hi1 hz hs1 hb1 v xs.length xs hown s hm hbytes hbase
  have hcells : Lib.strCells s = bs s.data.toList := rfl
  have hlen : (xs ++ bs s.data.toList).length = xs.length + s.size := by rw [List.length_append, bs_length]; rfl
  have hmv : Moved w v v' := by
    intro k hk
    rcases hown.2 with ⟨rfl, h0⟩ | ⟨g, cap, cur, rfl, hbg, hgg, hnc, hcm, hcs, htake⟩
    · by_cases hm0 : s.size = 0
      · rw [h4.2 ⟨rfl, hm0⟩] at hk
        cases hk
      · have hr := run_append_nil_string (P := P) w t u o.type e i (.int .u8 0) ht hu hi1 hz s (by omega) (by omega) (by rw [hb1]; omega)
        rw [hrun] at hr
        injection hr with h5 h6
        subst h5
        simp [Value.ownBlock] at hk
        exact .inr (by omega)
    · by_cases hroom : xs.length + s.size ≤ cap
      · have hr := Lib.run_append_room_string (P := P) (w := w) t u o.type e i ht hu hi1 hs1 g xs.length cap cur hgg s hroom (by omega)
        rw [hrun] at hr
        injection hr with h5 h6
        subst h5
        exact .inl hk
      · have hr := Lib.run_append_grow_string (P := P) (w := w) t u o.type e i (.int .u8 0) ht hu hi1 hz ⟨g, 0, none⟩ xs.length cap xs (by rw [hs1]; omega) (World.ownsRow.cells hown (g := g) rfl) s (by omega) (by omega) (by rw [hb1]; exact growslice_fits (by omega) (by omega))
        rw [hrun] at hr
        injection hr with h5 h6
        subst h5
        simp [Value.ownBlock] at hk
        exact .inr (by omega)
  rw [hcells] at h2
  rw [← hlen] at h2
  unfold Oper.wp execOp
  simp only [ho, resolve, invoke, builtin, Sem.run_bind, Sem.run_pure, Result.andThen_ok, List.map_toArray, List.map_cons, List.map_nil, hs, hx, hrun]
  exact hK _ _ (h v' w' h2 (Fr.ofGrown h3) hmv)
end
section
variable {P : Program}

theorem add_inj (b off i : Nat) : (⟨b, off, none⟩ : Addr).add i = ⟨b, off + i, none⟩ := Addr.add_lit b off i

/-- a part of a slice reads as the part -/
theorem Row.sliced {w : World} {a : Option Addr} {n c : Nat} {xs : List Value} (h : Row w (.slice a n c) xs) (lo hi mx : Nat) (h1 : lo ≤ hi) (h2 : hi ≤ xs.length) (h3 : hi ≤ mx) (h4 : mx ≤ c) :
    Row w (sliced a lo hi mx 1) ((xs.drop lo).take (hi - lo)) ∧ ∀ S, Off S (.slice a n c) → Off S (sliced a lo hi mx 1) := by
  obtain ⟨a', c', e, q1, q2, q3, q4⟩ := h
  injection e with e1 e2 e3
  subst e1 e2 e3
  have hlen : ((xs.drop lo).take (hi - lo)).length = hi - lo := by simp; omega
  unfold Go.sliced
  by_cases hm : mx = lo
  · rw [if_pos hm]
    have h0 : hi - lo = 0 := by omega
    rw [h0, List.take_zero]
    refine ⟨⟨a, mx - lo, rfl, Nat.zero_le _, by omega, fun hn => by have := q3 hn; omega, fun j hj => absurd hj (by simp)⟩, fun S hS b off n' c' e => ?_⟩
    injection e with e1 _ _
    exact hS b off _ _ (by rw [e1])
  · rw [if_neg hm, Nat.mul_one]
    refine ⟨⟨a.map (·.add lo), mx - lo, by rw [hlen], by rw [hlen]; omega, by omega, fun hn => ?_, fun j hj => ?_⟩, fun S hS b off n' c' e => ?_⟩
    · cases a with
      | none => have := q3 rfl; omega
      | some ad => cases hn
    · rw [hlen] at hj
      obtain ⟨b, off, rfl, hc⟩ := q4 lo (by omega)
      refine ⟨b, off + lo, by simp [Addr.add_lit], fun i u hi' => ?_⟩
      have hil : i < hi - lo := by have := (List.getElem?_eq_some_iff.1 hi').1; omega
      rw [Nat.add_assoc]
      refine hc (lo + i) u ?_
      rw [List.getElem?_take_of_lt hil, List.getElem?_drop] at hi'
      exact hi'
    · injection e with e1 _ _
      cases a with
      | none => cases e1
      | some ad =>
        obtain ⟨b0, off0, spot⟩ := ad
        simp only [Option.map_some, Option.some.injEq, Addr.add] at e1
        split at e1
        · injection e1 with f1 f2 f3
          subst f1 f3
          exact hS b0 off0 _ _ rfl
        · injection e1 with f1 f2 f3
          subst f1
          by_cases hx : 0 < xs.length
          · obtain ⟨b2, off2, e5, _⟩ := q4 0 hx
            injection e5 with e6
            injection e6 with e7 e8 e9
            subst e7 e8 e9
            exact hS _ _ _ _ rfl
          · omega

theorem run_size1 (w : World) {e : TypeId} (hsz : (P.info? e).map (·.size) = some 1) : (sizeOf e).run P w = .ok 1 w := by
  cases hi' : P.info? e with
  | none => rw [hi'] at hsz; cases hsz
  | some i => rw [hi'] at hsz; injection hsz with hs; simp [sizeOf, typeInfo, hi', hs]

/-- 'r[lo:hi]' -/
theorem run_sub {w0 : World} {v : Value} {xs : List Value} (hv : Row w0 v xs) (t e : TypeId) (ht : P.underlying t = some (.slice e)) (hsz : (P.info? e).map (·.size) = some 1) (k k' : IntKind) (L H : Int) (lo hi : Nat) (eL : L = (lo : Int)) (eH : H = (hi : Int)) (h1 : lo ≤ hi) (h2 : hi ≤ xs.length) :
    ∃ v', (∀ w, (Instr.slice t v (some (.int k L)) (some (.int k' H)) none).run P w = .ok v' w) ∧ Row w0 v' ((xs.drop lo).take (hi - lo)) ∧ (∀ S, Off S v → Off S v') := by
  subst eL eH
  obtain ⟨a0, c, rfl, q1, q2, q3, q4⟩ := id hv
  have he : P.elem t = e := by unfold Program.elem; rw [ht]
  refine ⟨sliced a0 lo hi c 1, fun w => ?_, hv.sliced lo hi c h1 h2 (by omega) (Nat.le_refl _)⟩
  rw [run_slice_lh w t a0 xs.length c (by rw [he]; exact ht) k k' lo hi (by omega) (by omega) (by omega), he, run_size1 w hsz]
  simp [Result.andThen]

/-- 'r[lo:]' -/
theorem run_subLo {w0 : World} {v : Value} {xs : List Value} (hv : Row w0 v xs) (t e : TypeId) (ht : P.underlying t = some (.slice e)) (hsz : (P.info? e).map (·.size) = some 1) (k : IntKind) (L : Int) (lo : Nat) (eL : L = (lo : Int)) (h1 : lo ≤ xs.length) :
    ∃ v', (∀ w, (Instr.slice t v (some (.int k L)) none none).run P w = .ok v' w) ∧ Row w0 v' (xs.drop lo) ∧ (∀ S, Off S v → Off S v') := by
  subst eL
  obtain ⟨a0, c, rfl, q1, q2, q3, q4⟩ := id hv
  have he : P.elem t = e := by unfold Program.elem; rw [ht]
  have hs := hv.sliced lo xs.length c h1 (Nat.le_refl _) q1 (Nat.le_refl _)
  rw [List.take_of_length_le (by simp)] at hs
  refine ⟨sliced a0 lo xs.length c 1, fun w => ?_, hs⟩
  rw [run_slice_l w t a0 xs.length c (by rw [he]; exact ht) k lo (by omega) (by omega), he, run_size1 w hsz]
  simp [Result.andThen]

/-- 'r[:hi]' -/
theorem run_subHi {w0 : World} {v : Value} {xs : List Value} (hv : Row w0 v xs) (t e : TypeId) (ht : P.underlying t = some (.slice e)) (hsz : (P.info? e).map (·.size) = some 1) (k : IntKind) (H : Int) (hi : Nat) (eH : H = (hi : Int)) (h2 : hi ≤ xs.length) :
    ∃ v', (∀ w, (Instr.slice t v none (some (.int k H)) none).run P w = .ok v' w) ∧ Row w0 v' (xs.take hi) ∧ (∀ S, Off S v → Off S v') := by
  subst eH
  obtain ⟨a0, c, rfl, q1, q2, q3, q4⟩ := id hv
  have he : P.elem t = e := by unfold Program.elem; rw [ht]
  have hs := hv.sliced 0 hi c (Nat.zero_le _) h2 (by omega) (Nat.le_refl _)
  rw [List.drop_zero, Nat.sub_zero] at hs
  refine ⟨sliced a0 0 hi c 1, fun w => ?_, hs⟩
  rw [run_slice_h w t a0 xs.length c (by rw [he]; exact ht) k hi (by omega) (by omega), he, run_size1 w hsz]
  simp [Result.andThen]

/-- 'len(r)' -/
theorem run_lenRow {w0 : World} {v : Value} {xs : List Value} (hv : Row w0 v xs) (t e : TypeId) (ht : P.underlying t = some (.slice e)) : ∀ ty w, (Builtin.len_ #[t] ty #[v]).run P w = .ok (.int .i64 xs.length) w := by
  intro ty w
  obtain ⟨a0, c, rfl, _⟩ := hv
  have he : P.elem t = e := by unfold Program.elem; rw [ht]
  simp [Builtin.len_, run_underlying ht, goInt]

/-- '&r[i]' and what lies there -/
theorem run_at {w0 : World} {v : Value} {xs : List Value} (hv : Row w0 v xs) (i : Nat) (u : Value) (hu : xs[i]? = some u) :
    ∃ b off n c, v = .slice (some ⟨b, off, none⟩) n c ∧ n = xs.length ∧ w0.cell? ⟨b, off + i, none⟩ = some u := by
  obtain ⟨a0, c, rfl, q1, q2, q3, q4⟩ := hv
  obtain ⟨b, off, rfl, h⟩ := q4 i (List.getElem?_eq_some_iff.1 hu).1
  exact ⟨b, off, _, c, rfl, rfl, h i u hu⟩

theorem run_str (w : World) (src dst e : TypeId) (v : Value) (l : List UInt8) (hv : Row w v (bs l)) (hs : P.underlying src = some (.slice e)) (he : P.underlying e = some (.int .u8)) (hd : P.underlying dst = some .string) :
    (convert src dst v).run P w = .ok (.string ⟨l.toArray⟩) w := by
  obtain ⟨a, c, rfl, q1, q2, q3, q4⟩ := hv
  rw [bs_length] at *
  cases a with
  | none =>
    have h0 : l = [] := List.eq_nil_of_length_eq_zero (by have := q3 rfl; omega)
    subst h0
    exact run_convert_bytes_nil (P := P) w src e hs he _ _ dst hd
  | some ad =>
    refine run_convert_bytes_back (P := P) w src dst e ad c l hs he hd (fun j hj => ?_)
    obtain ⟨b, off, e1, hc⟩ := q4 j hj
    injection e1 with e1
    subst e1
    rw [Addr.add_lit]
    exact hc j _ (by simp [bs, hj])
end
section
variable {P : Program}
/-- '[]byte(s)' -/
theorem run_toBytes (w : World) (src dst e : TypeId) (s : ByteArray) (hs : P.underlying src = some .string) (hd : P.underlying dst = some (.slice e)) (he : P.underlying e = some (.int .u8)) (hl : s.size ≤ 140737488355328) :
    ∃ v w', (convert src dst (.string s)).run P w = .ok v w' ∧ Row w' v (bs s.data.toList) ∧ Fr Non w w' := by
  have hr := run_bytes_of_string (P := P) w src dst e s hs hd he
  have hge := grownCap_ge w s.size 0 e
  have hle := grownCap_le_maxLen w s.size 0 e (by unfold maxLen; omega)
  refine ⟨_, _, hr, ?_, (Fr.drew w).non (Fr.alloc _ _)⟩
  have hlen : (bs s.data.toList).length = s.size := by rw [bs_length]; rfl
  refine ⟨_, _, by rw [hlen], by rw [hlen]; exact hge, hle, (by intro h; cases h), fun j hj => ⟨_, _, rfl, fun i u hi => ?_⟩⟩
  have hi' : i < s.data.size := by have := (List.getElem?_eq_some_iff.1 hi).1; rw [hlen] at this; exact this
  rw [Nat.zero_add]
  have h1 := World.cell?_alloc_mark w.drew (bytesRow s (grownCap w s.size 0 e)) e ((bytesRow s (grownCap w s.size 0 e)).size, (bytesRow s (grownCap w s.size 0 e)).size + 1) i
  rw [bytesRow_at s _ i hi'] at h1
  have h2 : (bs s.data.toList)[i]? = some (.int .u8 (s.data[i].toNat : Int)) := by
    simp [bs]
    exact ⟨_, Array.getElem?_eq_getElem hi', rfl⟩
  rw [hi] at h2
  rw [Option.some.inj h2]
  exact h1
end
end Go.Proofs.YthfpkdbhihcniaaDoor

/- slices that a literal built, parts of slices, slices of slices. Nothing of the program. -/
namespace Go.Proofs.YthfpkdbhihcniaaDoor
open Go.ChangeShapes Go.WideShapes Go.ChangeAt Go.RowKit

theorem Tryd.info5 : (Tryd.prog.info? 5).map (fun i => (i.zero, i.size, i.bytes)) = some (some (.int .u8 0), 1, 1) := by kernel_rfl
theorem block_cells {w : World} {b e : Nat} {c : Array Value} (h : w.heap[b]? = some (.cells c e (0, 0))) (j : Nat) : w.cell? ⟨b, j, none⟩ = c[j]? ∧ w.frozen? ⟨b, j, none⟩ = false := by
  constructor
  · simp [World.cell?, h]
  · simp [World.frozen?, h]

theorem Row.nil (w : World) : Row w (.slice none 0 0) [] := ⟨none, 0, rfl, Nat.le_refl _, Nat.zero_le _, fun _ => rfl, fun j hj => absurd hj (by simp)⟩

theorem Row.builtM (w : World) (us : List Value) (e n : Nat) (fr : Nat × Nat) {g : Nat} (hg : g = w.heap.size) (hn : us.length = n) (hm : n ≤ maxLen) : Row (w.alloc (.cells us.toArray e fr)) (.slice (some ⟨g, 0, none⟩) n n) us := by
  subst hn hg
  refine ⟨_, us.length, rfl, Nat.le_refl _, hm, (by intro h; cases h), fun j hj => ⟨w.heap.size, 0, rfl, fun i u hi => ?_⟩⟩
  have h1 := World.cell?_alloc_mark w us.toArray e fr (0 + i)
  rw [h1]
  simpa using hi
theorem Row.built (w : World) (us : List Value) (e n : Nat) (hn : us.length = n) (hm : n ≤ maxLen) : Row (w.alloc (.cells us.toArray e)) (.slice (some ⟨w.heap.size, 0, none⟩) n n) us :=
  Row.builtM w us e n (0, 0) rfl hn hm
theorem Off.own {S : Nat → Prop} {v : Value} (h : ∀ k, v.ownBlock = some k → ¬ S k) : Off S v := by
  intro b off n c e
  subst e
  exact h b rfl

theorem Row.hi {w : World} {a : Option Addr} {n c : Nat} {xs : List Value} (h : Row w (.slice a n c) xs) (k : Nat) (hk : k ≤ xs.length) : Row w (.slice a k c) (xs.take k) := by
  obtain ⟨a', c', e, q1, q2, q3, q4⟩ := h
  injection e with e1 e2 e3
  subst e1 e2 e3
  have hlen : (xs.take k).length = k := by simp; omega
  refine ⟨a, c, by rw [hlen], by rw [hlen]; omega, q2, q3, fun j hj => ?_⟩
  rw [hlen] at hj
  obtain ⟨b, off, rfl, hc⟩ := q4 j (by omega)
  refine ⟨b, off, rfl, fun i u hi => hc i u ?_⟩
  have hil := (List.getElem?_eq_some_iff.1 hi).1
  rw [hlen] at hil
  rwa [List.getElem?_take_of_lt hil] at hi

theorem Row.bytes {w : World} {a : Option Addr} {n c : Nat} {l : List UInt8} (h : Row w (.slice a n c) (bs l)) :
    n = l.length ∧ l.length ≤ c ∧ c ≤ maxLen ∧ (∀ j, j < l.length → ∃ b off, a = some ⟨b, off, none⟩ ∧ w.cell? ⟨b, off + j, none⟩ = some (.int .u8 ((l[j]!).toNat : Int))) := by
  obtain ⟨a', c', e, h1, h2, h3, h4⟩ := h
  injection e with e1 e2 e3
  subst e1 e3
  rw [bs_length] at *
  refine ⟨e2, h1, h2, fun j hj => ?_⟩
  obtain ⟨b, off, rfl, h5⟩ := h4 j hj
  exact ⟨b, off, rfl, h5 j _ (by simp [bs, hj])⟩

/-- v is a slice of slices of bytes that read as ls -/
def Rows2 (w : World) (v : Value) (ls : List (List UInt8)) : Prop := ∃ vs, Row w v vs ∧ vs.length = ls.length ∧ ∀ (i : Nat) (u : Value), vs[i]? = some u → Row w u (bs ls[i]!)
theorem Rows2.frame {w w' : World} {v : Value} {ls : List (List UInt8)} (h : Rows2 w v ls) (f : Fr Non w w') : Rows2 w' v ls := by
  obtain ⟨vs, h1, h2, h3⟩ := h
  exact ⟨vs, h1.non f, h2, fun i u hu => (h3 i u hu).non f⟩
/-- a literal of slices of bytes -/
theorem Rows2.built {w : World} {us : List Value} {ls : List (List UInt8)} {e n g : Nat} (hg : g = w.heap.size) (hn : us.length = n) (hm : n ≤ maxLen) (hl : us.length = ls.length) (h : ∀ (i : Nat) (u : Value), us[i]? = some u → Row w u (bs ls[i]!)) :
    Rows2 (w.alloc (.cells us.toArray e)) (.slice (some ⟨g, 0, none⟩) n n) ls :=
  ⟨us, Row.builtM w us e n (0, 0) hg hn hm, hl, fun i u hu => (h i u hu).non (Fr.alloc _ _)⟩
theorem all1 {P : Nat → Value → Prop} {a : Value} (h : P 0 a) : ∀ (i : Nat) (u : Value), [a][i]? = some u → P i u
  | 0, u, e => by simp at e; subst e; exact h
  | i + 1, u, e => by simp at e
theorem all2 {P : Nat → Value → Prop} {a b : Value} (h : P 0 a) (k : P 1 b) : ∀ (i : Nat) (u : Value), [a, b][i]? = some u → P i u
  | 0, u, e => by simp at e; subst e; exact h
  | 1, u, e => by simp at e; subst e; exact k
  | i + 2, u, e => by simp at e
theorem all3 {P : Nat → Value → Prop} {a b c : Value} (h : P 0 a) (k : P 1 b) (l : P 2 c) : ∀ (i : Nat) (u : Value), [a, b, c][i]? = some u → P i u
  | 0, u, e => by simp at e; subst e; exact h
  | 1, u, e => by simp at e; subst e; exact k
  | 2, u, e => by simp at e; subst e; exact l
  | i + 3, u, e => by simp at e
theorem heap_setCell (w : World) (g k : Nat) (cs : Array Value) (e : Nat) (fr : Nat × Nat) (u : Value) (h : w.heap[g]? = some (.cells cs e fr)) : (w.setCell ⟨g, k, none⟩ u).heap[g]? = some (.cells (cs.setIfInBounds k u) e fr) := by
  have hlt := (Array.getElem?_eq_some_iff.1 h).1
  simp [World.setCell, Array.getElem?_modify, h]
/-- a store into what is the call's own -/
theorem Own.set {w : World} {base e g n c : Nat} {xs : List Value} (h : Own w base e (.slice (some ⟨g, 0, none⟩) n c) xs) (k : Nat) (u : Value) : Own (w.setCell ⟨g, k, none⟩ u) base e (.slice (some ⟨g, 0, none⟩) n c) (xs.set k u) := by
  obtain ⟨h1, h2⟩ := h
  rcases h2 with ⟨h2, _⟩ | ⟨g', cap, cur, h2, h3, h4, h5, h6, h7, h8⟩
  · cases h2
  · injection h2 with e1 e2 e3
    injection e1 with e1
    injection e1 with e1
    subst e1 e2 e3
    refine ⟨by simp, .inr ⟨g, c, cur.setIfInBounds k u, by simp, h3, heap_setCell w g k cur e _ u h4, by simpa using h5, h6, by simpa using h7, ?_⟩⟩
    rw [Array.toList_setIfInBounds, List.length_set, List.take_set, h8]
/-- the literal of no cells -/
theorem Own.empty (w : World) (base e : Nat) (hb : base ≤ w.heap.size) : Own (w.alloc (.cells #[] e)) base e (.slice (some ⟨w.heap.size, 0, none⟩) 0 0) [] :=
  ⟨rfl, .inr ⟨w.heap.size, 0, #[], rfl, hb, heap_alloc_new w _, Nat.le_refl _, Nat.zero_le _, rfl, rfl⟩⟩
theorem Own.form {w : World} {base e : Nat} {v : Value} {xs : List Value} (h : Own w base e v xs) (hn : 0 < xs.length) : ∃ g c, v = .slice (some ⟨g, 0, none⟩) xs.length c ∧ base ≤ g ∧ xs.length ≤ c := by
  rcases h.2 with ⟨_, h0⟩ | ⟨g, cap, _, hv, h1, _, h2, _⟩
  · omega
  · exact ⟨g, cap, hv, h1, h2⟩
theorem ofNat_toNat (n : Nat) (h : n < 256) : ((UInt8.ofNat n).toNat : Int) = (n : Int) := by
  rw [UInt8.toNat_ofNat', Nat.mod_eq_of_lt h]
theorem bs_set (l : List UInt8) (k : Nat) (c : UInt8) : (bs l).set k (.int .u8 (c.toNat : Int)) = bs (l.set k c) := by
  simp [bs, List.map_set]
theorem Own.cellAt {w : World} {base e g n c : Nat} {xs : List Value} (h : Own w base e (.slice (some ⟨g, 0, none⟩) n c) xs) (k : Nat) (u : Value) (hu : xs[k]? = some u) : w.cell? ⟨g, k, none⟩ = some u ∧ w.frozen? ⟨g, k, none⟩ = false := by
  have hb : ∃ cur, w.heap[g]? = some (.cells cur e (0, 0)) := by
    rcases h.2 with ⟨h2, _⟩ | ⟨g', cap, cur, h2, h3, h4, _⟩
    · cases h2
    · injection h2 with e1 e2 e3
      injection e1 with e1
      injection e1 with e1
      subst e1
      exact ⟨cur, h4⟩
  obtain ⟨cur, hc⟩ := hb
  refine ⟨?_, (block_cells hc k).2⟩
  obtain ⟨a', c', e1, _, _, _, h5⟩ := h.row
  obtain ⟨b, off, rfl, h6⟩ := h5 k (List.getElem?_eq_some_iff.1 hu).1
  injection e1 with e2 _ _
  injection e2 with e2
  injection e2 with e3 e4
  subst e3 e4
  have := h6 k u hu
  rwa [Nat.zero_add] at this
end Go.Proofs.YthfpkdbhihcniaaDoor

/- a number's bytes, the lowest first. Nothing of the program. -/
namespace Go.Proofs.YthfpkdbhihcniaaDoor
open Go.ChangeShapes Go.WideShapes Go.ChangeAt Go.RowKit

theorem bs_single (c : UInt8) : bs [c] = [Value.int .u8 (c.toNat : Int)] := rfl
def fixF : Nat → Nat → List UInt8
  | 0, _ => []
  | k + 1, n => UInt8.ofNat (n % 256) :: fixF k (n / 256)
theorem fixF_length (k n : Nat) : (fixF k n).length = k := by
  induction k generalizing n with
  | zero => rfl
  | succ k ih => simp [fixF, ih]
def unfix : List UInt8 → Nat
  | [] => 0
  | c :: r => c.toNat + 256 * unfix r
theorem unfix_snoc (l : List UInt8) (c : UInt8) : unfix (l ++ [c]) = unfix l + c.toNat * 256 ^ l.length := by
  induction l with
  | nil => simp [unfix]
  | cons d r ih => simp only [List.cons_append, unfix, ih, List.length_cons, Nat.pow_succ]; rw [Nat.mul_add, Nat.add_assoc]; congr 2; rw [Nat.mul_left_comm, Nat.mul_comm 256]
theorem unfix_lt (l : List UInt8) : unfix l < 256 ^ l.length := by
  induction l with
  | nil => simp [unfix]
  | cons d r ih =>
    have := d.toNat_lt
    simp only [unfix, List.length_cons, Nat.pow_succ]
    omega
theorem unfix_fixF : ∀ k n, unfix (fixF k n) = n % 256 ^ k
  | 0, n => by simp [unfix, fixF, Nat.mod_one]
  | k + 1, n => by
    have h := unfix_fixF k (n / 256)
    have h1 : (UInt8.ofNat (n % 256)).toNat = n % 256 := by rw [UInt8.toNat_ofNat']; exact Nat.mod_eq_of_lt (Nat.mod_lt _ (by omega))
    simp only [fixF, unfix, h, h1]
    rw [Nat.pow_succ, Nat.mul_comm (256 ^ k) 256, Nat.mod_mul]
theorem fixF_unfix : ∀ l : List UInt8, fixF l.length (unfix l) = l
  | [] => rfl
  | c :: r => by
    have h := fixF_unfix r
    have hc := c.toNat_lt
    have h1 : (unfix (c :: r)) % 256 = c.toNat := by simp only [unfix]; omega
    have h2 : (unfix (c :: r)) / 256 = unfix r := by simp only [unfix]; omega
    simp only [List.length_cons, fixF, h1, h2, h, UInt8.ofNat_toNat]
theorem fixF_back {k n : Nat} (h : n < 256 ^ k) : unfix (fixF k n) = n := by rw [unfix_fixF, Nat.mod_eq_of_lt h]
theorem fixF_inj {k m n : Nat} (hm : m < 256 ^ k) (hn : n < 256 ^ k) (h : fixF k m = fixF k n) : m = n := by rw [← fixF_back hm, h, fixF_back hn]
def clamp8 (m : Int) : Nat := if m < 0 then 0 else if 8 < m then 8 else m.toNat

end Go.Proofs.YthfpkdbhihcniaaDoor

/- package sha, plain: the digest on numbers -/
namespace Go.Proofs.YthfpkdbhihcniaaDoor

/-- x with its lowest k bits moved to the top -/
def rotr (k x : Nat) : Nat := x / 2 ^ k + x % 2 ^ k * 2 ^ (32 - k)
theorem rotr_lt {k x : Nat} (hk : k ≤ 32) (hx : x < 4294967296) : rotr k x < 4294967296 := by
  unfold rotr
  have e : (2 : Nat) ^ 32 = 2 ^ k * 2 ^ (32 - k) := by rw [← Nat.pow_add]; congr 1; omega
  have h1 : x / 2 ^ k < 2 ^ (32 - k) := by
    rw [Nat.div_lt_iff_lt_mul (Nat.two_pow_pos k), Nat.mul_comm, ← e]; omega
  have h2 : x % 2 ^ k ≤ 2 ^ k - 1 := by have := Nat.mod_lt x (Nat.two_pow_pos k); omega
  have h3 : x % 2 ^ k * 2 ^ (32 - k) ≤ (2 ^ k - 1) * 2 ^ (32 - k) := Nat.mul_le_mul_right _ h2
  rw [Nat.sub_mul, ← e] at h3
  have h4 : (2 : Nat) ^ (32 - k) ≤ 2 ^ 32 := Nat.pow_le_pow_right (by omega) (by omega)
  omega
/-- how the shifts come to it -/
theorem rotr_or {k x : Nat} (hk : k ≤ 32) (hx : x < 4294967296) : (x / 2 ^ k) ||| (x * 2 ^ (32 - k) % 4294967296) = rotr k x := by
  have e : (2 : Nat) ^ 32 = 2 ^ k * 2 ^ (32 - k) := by rw [← Nat.pow_add]; congr 1; omega
  have h1 : x / 2 ^ k < 2 ^ (32 - k) := by
    rw [Nat.div_lt_iff_lt_mul (Nat.two_pow_pos k), Nat.mul_comm, ← e]; omega
  have h2 : x * 2 ^ (32 - k) % 4294967296 = x % 2 ^ k * 2 ^ (32 - k) := by
    rw [show (4294967296 : Nat) = 2 ^ k * 2 ^ (32 - k) from by rw [← e], Nat.mul_mod_mul_right]
  rw [h2]
  have := Nat.two_pow_add_eq_or_of_lt h1 (x % 2 ^ k)
  rw [Nat.or_comm, Nat.mul_comm (x % 2 ^ k), ← this]
  unfold rotr
  rw [Nat.mul_comm, Nat.add_comm]

def sha_s0 (x : Nat) : Nat := rotr 7 x ^^^ rotr 18 x ^^^ (x / 8)
def sha_s1 (x : Nat) : Nat := rotr 17 x ^^^ rotr 19 x ^^^ (x / 1024)
def sha_S0 (x : Nat) : Nat := rotr 2 x ^^^ rotr 13 x ^^^ rotr 22 x
def sha_S1 (x : Nat) : Nat := rotr 6 x ^^^ rotr 11 x ^^^ rotr 25 x
def sha_ch (e f g : Nat) : Nat := (e &&& f) ^^^ ((4294967295 - e) &&& g)
def sha_mj (a b c : Nat) : Nat := (a &&& b) ^^^ (a &&& c) ^^^ (b &&& c)
theorem xor_lt32 {x y : Nat} (hx : x < 4294967296) (hy : y < 4294967296) : x ^^^ y < 4294967296 := Nat.xor_lt_two_pow (n := 32) hx hy
theorem and_lt32 {x y : Nat} (hx : x < 4294967296) : x &&& y < 4294967296 := Nat.lt_of_le_of_lt Nat.and_le_left hx
theorem sha_s0_lt {x : Nat} (hx : x < 4294967296) : sha_s0 x < 4294967296 := xor_lt32 (xor_lt32 (rotr_lt (by omega) hx) (rotr_lt (by omega) hx)) (by omega)
theorem sha_s1_lt {x : Nat} (hx : x < 4294967296) : sha_s1 x < 4294967296 := xor_lt32 (xor_lt32 (rotr_lt (by omega) hx) (rotr_lt (by omega) hx)) (by omega)
theorem sha_S0_lt {x : Nat} (hx : x < 4294967296) : sha_S0 x < 4294967296 := xor_lt32 (xor_lt32 (rotr_lt (by omega) hx) (rotr_lt (by omega) hx)) (rotr_lt (by omega) hx)
theorem sha_S1_lt {x : Nat} (hx : x < 4294967296) : sha_S1 x < 4294967296 := xor_lt32 (xor_lt32 (rotr_lt (by omega) hx) (rotr_lt (by omega) hx)) (rotr_lt (by omega) hx)
theorem sha_ch_lt {e f g : Nat} (he : e < 4294967296) : sha_ch e f g < 4294967296 := xor_lt32 (and_lt32 he) (and_lt32 (by omega))
theorem sha_mj_lt {a b c : Nat} (ha : a < 4294967296) (hb : b < 4294967296) : sha_mj a b c < 4294967296 := xor_lt32 (xor_lt32 (and_lt32 ha) (and_lt32 ha)) (and_lt32 hb)

def shaK : List Nat := [1116352408, 1899447441, 3049323471, 3921009573, 961987163, 1508970993, 2453635748, 2870763221, 3624381080, 310598401, 607225278, 1426881987, 1925078388, 2162078206, 2614888103, 3248222580,
  3835390401, 4022224774, 264347078, 604807628, 770255983, 1249150122, 1555081692, 1996064986, 2554220882, 2821834349, 2952996808, 3210313671, 3336571891, 3584528711, 113926993, 338241895,
  666307205, 773529912, 1294757372, 1396182291, 1695183700, 1986661051, 2177026350, 2456956037, 2730485921, 2820302411, 3259730800, 3345764771, 3516065817, 3600352804, 4094571909, 275423344,
  430227734, 506948616, 659060556, 883997877, 958139571, 1322822218, 1537002063, 1747873779, 1955562222, 2024104815, 2227730452, 2361852424, 2428436474, 2756734187, 3204031479, 3329325298]
theorem shaK_length : shaK.length = 64 := by decide +kernel
theorem shaK_lt : ∀ i, i < 64 → shaK[i]! < 4294967296 := by decide +kernel

/-- four bytes as a word, the highest first -/
def be4 (l : List UInt8) (i : Nat) : Nat := l[i]!.toNat * 16777216 + l[i + 1]!.toNat * 65536 + l[i + 2]!.toNat * 256 + l[i + 3]!.toNat
theorem be4_lt (l : List UInt8) (i : Nat) : be4 l i < 4294967296 := by
  unfold be4
  have h0 := l[i]!.toNat_lt
  have h1 := l[i + 1]!.toNat_lt
  have h2 := l[i + 2]!.toNat_lt
  have h3 := l[i + 3]!.toNat_lt
  omega
/-- the word that comes next -/
def shaNext (w : List Nat) : Nat := (w[w.length - 16]! + sha_s0 w[w.length - 15]! + w[w.length - 7]! + sha_s1 w[w.length - 2]!) % 4294967296
def shaFill : Nat → List Nat → List Nat
  | 0, w => w
  | k + 1, w => shaFill k (w ++ [shaNext w])
def shaFirst (b : List UInt8) : Nat → List Nat
  | 0 => []
  | k + 1 => shaFirst b k ++ [be4 b (4 * k)]
/-- a block's 64 words -/
def shaWords (b : List UInt8) : List Nat := shaFill 48 (shaFirst b 16)
theorem shaFill_snoc (k : Nat) (w : List Nat) : shaFill (k + 1) w = shaFill k w ++ [shaNext (shaFill k w)] := by
  induction k generalizing w with
  | zero => rfl
  | succ k ih => rw [shaFill, ih]; rfl
theorem shaFirst_length (b : List UInt8) (k : Nat) : (shaFirst b k).length = k := by
  induction k with
  | zero => rfl
  | succ k ih => simp [shaFirst, ih]
theorem shaFill_length (k : Nat) (w : List Nat) : (shaFill k w).length = k + w.length := by
  induction k generalizing w with
  | zero => simp [shaFill]
  | succ k ih => rw [shaFill, ih]; simp; omega
theorem shaFirst_lt (b : List UInt8) (k : Nat) : ∀ x ∈ shaFirst b k, x < 4294967296 := by
  induction k with
  | zero => simp [shaFirst]
  | succ k ih =>
    intro x hx
    simp only [shaFirst, List.mem_append, List.mem_singleton] at hx
    rcases hx with hx | rfl
    · exact ih x hx
    · exact be4_lt _ _
theorem shaFill_lt (k : Nat) (w : List Nat) (h : ∀ x ∈ w, x < 4294967296) : ∀ x ∈ shaFill k w, x < 4294967296 := by
  induction k generalizing w with
  | zero => exact h
  | succ k ih =>
    refine ih _ (fun x hx => ?_)
    simp only [List.mem_append, List.mem_singleton] at hx
    rcases hx with hx | rfl
    · exact h x hx
    · exact Nat.mod_lt _ (by omega)
theorem shaWords_length (b : List UInt8) : (shaWords b).length = 64 := by rw [shaWords, shaFill_length, shaFirst_length]
theorem shaWords_lt (b : List UInt8) : ∀ x ∈ shaWords b, x < 4294967296 := shaFill_lt _ _ (shaFirst_lt _ _)
theorem get_lt {w : List Nat} (h : ∀ x ∈ w, x < 4294967296) (i : Nat) : w[i]! < 4294967296 := by
  by_cases hi : i < w.length
  · rw [getElem!_pos w i hi]; exact h _ (List.getElem_mem hi)
  · rw [getElem!_neg w i hi]; decide

/-- eight words -/
structure St8 where
  a : Nat
  b : Nat
  c : Nat
  d : Nat
  e : Nat
  f : Nat
  g : Nat
  h : Nat
def St8.ok (s : St8) : Prop := s.a < 4294967296 ∧ s.b < 4294967296 ∧ s.c < 4294967296 ∧ s.d < 4294967296 ∧ s.e < 4294967296 ∧ s.f < 4294967296 ∧ s.g < 4294967296 ∧ s.h < 4294967296
def St8.list (s : St8) : List Nat := [s.a, s.b, s.c, s.d, s.e, s.f, s.g, s.h]
def shaT (s : St8) (k w : Nat) : Nat := (s.h + sha_S1 s.e + sha_ch s.e s.f s.g + k + w) % 4294967296
def shaU (s : St8) : Nat := (sha_S0 s.a + sha_mj s.a s.b s.c) % 4294967296
def shaRound (s : St8) (k w : Nat) : St8 := ⟨(shaT s k w + shaU s) % 4294967296, s.a, s.b, s.c, (s.d + shaT s k w) % 4294967296, s.e, s.f, s.g⟩
def shaRounds (s : St8) (w : List Nat) : Nat → St8
  | 0 => s
  | k + 1 => shaRound (shaRounds s w k) shaK[k]! w[k]!
def St8.plus (x s : St8) : St8 := ⟨(x.a + s.a) % 4294967296, (x.b + s.b) % 4294967296, (x.c + s.c) % 4294967296, (x.d + s.d) % 4294967296, (x.e + s.e) % 4294967296, (x.f + s.f) % 4294967296, (x.g + s.g) % 4294967296, (x.h + s.h) % 4294967296⟩
/-- the state behind a block -/
def shaBlock (s : St8) (b : List UInt8) : St8 := (shaRounds s (shaWords b) 64).plus s
theorem shaRound_ok {s : St8} (h : s.ok) (k w : Nat) : (shaRound s k w).ok := by
  obtain ⟨h1, h2, h3, h4, h5, h6, h7, h8⟩ := h
  exact ⟨Nat.mod_lt _ (by omega), h1, h2, h3, Nat.mod_lt _ (by omega), h5, h6, h7⟩
theorem shaRounds_ok {s : St8} (h : s.ok) (w : List Nat) (k : Nat) : (shaRounds s w k).ok := by
  induction k with
  | zero => exact h
  | succ k ih => exact shaRound_ok ih _ _
theorem plus_ok (x s : St8) : (x.plus s).ok := by
  refine ⟨?_, ?_, ?_, ?_, ?_, ?_, ?_, ?_⟩ <;> exact Nat.mod_lt _ (by omega)
theorem shaBlock_ok (s : St8) (b : List UInt8) : (shaBlock s b).ok := plus_ok _ _

/-- so many blocks -/
def shaRun : Nat → St8 → List UInt8 → St8
  | 0, s, _ => s
  | n + 1, s, l => shaRun n (shaBlock s (l.take 64)) (l.drop 64)
theorem shaRun_ok (n : Nat) {s : St8} (h : s.ok) (l : List UInt8) : (shaRun n s l).ok := by
  induction n generalizing s l with
  | zero => exact h
  | succ n ih => exact ih (shaBlock_ok _ _) _
theorem shaRun_snoc (n : Nat) (s : St8) (l : List UInt8) : shaRun (n + 1) s l = shaBlock (shaRun n s l) ((l.drop (64 * n)).take 64) := by
  induction n generalizing s l with
  | zero => simp [shaRun]
  | succ n ih =>
    rw [shaRun, ih, List.drop_drop]
    rw [show 64 + 64 * n = 64 * (n + 1) by omega]
    rfl
theorem shaRun_append (n m : Nat) (s : St8) (l : List UInt8) : shaRun (n + m) s l = shaRun m (shaRun n s l) (l.drop (64 * n)) := by
  induction n generalizing s l with
  | zero => simp [shaRun]
  | succ n ih =>
    rw [show n + 1 + m = (n + m) + 1 by omega, shaRun, ih, List.drop_drop, show 64 + 64 * n = 64 * (n + 1) by omega]
    rfl
/-- what stands behind whole blocks has no part -/
theorem shaRun_front (n : Nat) (s : St8) (l m : List UInt8) (h : 64 * n ≤ l.length) : shaRun n s (l ++ m) = shaRun n s l := by
  induction n generalizing s l with
  | zero => rfl
  | succ n ih =>
    rw [shaRun, shaRun, List.take_append_of_le_length (by omega), List.drop_append_of_le_length (by omega)]
    exact ih _ _ (by rw [List.length_drop]; omega)

def shaInit : St8 := ⟨1779033703, 3144134277, 1013904242, 2773480762, 1359893119, 2600822924, 528734635, 1541459225⟩
theorem shaInit_ok : shaInit.ok := by unfold St8.ok; decide
/-- a number as bytes, the highest first -/
def beBytes : Nat → Nat → List UInt8
  | 0, _ => []
  | k + 1, n => beBytes k (n / 256) ++ [UInt8.ofNat (n % 256)]
theorem beBytes_length (k n : Nat) : (beBytes k n).length = k := by
  induction k generalizing n with
  | zero => rfl
  | succ k ih => simp [beBytes, ih]
/-- how many bytes 0 -/
def shaZeros (n : Nat) : Nat := (119 - n % 64) % 64
def shaPad (n : Nat) : List UInt8 := 128 :: List.replicate (shaZeros n) 0 ++ beBytes 8 (n * 8)
theorem shaPad_length (n : Nat) : (shaPad n).length = shaZeros n + 9 := by simp [shaPad, beBytes_length]
theorem shaPad_mod (n : Nat) : (n + (shaPad n).length) % 64 = 0 := by rw [shaPad_length]; unfold shaZeros; omega
def St8.bytes (s : St8) : List UInt8 := beBytes 4 s.a ++ beBytes 4 s.b ++ beBytes 4 s.c ++ beBytes 4 s.d ++ beBytes 4 s.e ++ beBytes 4 s.f ++ beBytes 4 s.g ++ beBytes 4 s.h
/-- the state of all bytes so far, and what stands behind them -/
def shaEnd (l : List UInt8) : St8 := shaRun ((l.length + (shaPad l.length).length) / 64) shaInit (l ++ shaPad l.length)
/-- the digest -/
def sha (l : List UInt8) : List UInt8 := (shaEnd l).bytes
theorem sha_length (l : List UInt8) : (sha l).length = 32 := by simp [sha, St8.bytes, beBytes_length]
end Go.Proofs.YthfpkdbhihcniaaDoor

/- package mac, plain: keyed digests on lists of bytes -/
namespace Go.Proofs.YthfpkdbhihcniaaDoor

/-- the key's 64 bytes -/
def macKey (key : List UInt8) : List UInt8 := (if 64 < key.length then sha key else key) ++ List.replicate (64 - (if 64 < key.length then sha key else key).length) 0
theorem macKey_length (key : List UInt8) : (macKey key).length = 64 := by
  unfold macKey
  split
  · rw [List.length_append, List.length_replicate, sha_length]
  · rw [List.length_append, List.length_replicate]; omega
def macCross (key : List UInt8) (by_ : UInt8) : List UInt8 := (macKey key).map (· ^^^ by_)
theorem macCross_length (key : List UInt8) (b : UInt8) : (macCross key b).length = 64 := by rw [macCross, List.length_map, macKey_length]
/-- P4.1 -/
def macSum (key b : List UInt8) : List UInt8 := sha (macCross key 92 ++ sha (macCross key 54 ++ b))
theorem macSum_length (key b : List UInt8) : (macSum key b).length = 32 := sha_length _
/-- t1, t2, ..: the last one, and all so far -/
def macLast (key use : List UInt8) : Nat → List UInt8
  | 0 => []
  | k + 1 => macSum key (macLast key use k ++ use ++ [UInt8.ofNat (k + 1)])
def macAll (key use : List UInt8) : Nat → List UInt8
  | 0 => []
  | k + 1 => macAll key use k ++ macLast key use (k + 1)
theorem macAll_length (key use : List UInt8) (k : Nat) : (macAll key use k).length = 32 * k := by
  induction k with
  | zero => rfl
  | succ k ih => rw [macAll, List.length_append, ih, macLast, macSum_length]; omega
theorem macAll_add (key use : List UInt8) (k j : Nat) : ∃ m, macAll key use (k + j) = macAll key use k ++ m := by
  induction j with
  | zero => exact ⟨[], by simp⟩
  | succ j ih =>
    obtain ⟨m, hm⟩ := ih
    exact ⟨m ++ macLast key use (k + j + 1), by rw [show k + (j + 1) = (k + j) + 1 from rfl, macAll, hm, List.append_assoc]⟩
/-- how many there must be -/
def macRounds (n : Nat) : Nat := (n + 31) / 32
/-- P4.2 -/
def macExpand (key use : List UInt8) (n : Nat) : List UInt8 := (macAll key use (macRounds n)).take n
theorem macExpand_length (key use : List UInt8) (n : Nat) : (macExpand key use n).length = n := by
  rw [macExpand, List.length_take, macAll_length, macRounds]; omega
theorem macExpand_less (key use : List UInt8) (m n : Nat) (h : m ≤ n) : (macExpand key use n).take m = macExpand key use m := by
  unfold macExpand
  have hr : macRounds m ≤ macRounds n := by unfold macRounds; omega
  obtain ⟨r, hr2⟩ := macAll_add key use (macRounds m) (macRounds n - macRounds m)
  rw [show macRounds m + (macRounds n - macRounds m) = macRounds n by omega] at hr2
  rw [List.take_take, Nat.min_eq_left h, hr2, List.take_append_of_le_length (by rw [macAll_length, macRounds]; omega)]
theorem macKey_more (key : List UInt8) (h : key.length ≤ 64) : macKey (key ++ List.replicate (64 - key.length) 0) = macKey key := by
  have h1 : (key ++ List.replicate (64 - key.length) (0 : UInt8)).length = 64 := by rw [List.length_append, List.length_replicate]; omega
  unfold macKey
  rw [if_neg (by omega), if_neg (by omega), h1]
  simp
theorem macSum_more (key b : List UInt8) (h : key.length ≤ 64) : macSum (key ++ List.replicate (64 - key.length) 0) b = macSum key b := by
  unfold macSum macCross; rw [macKey_more key h]
theorem macKey_long (key : List UInt8) (h : 64 < key.length) : macKey (sha key) = macKey key := by
  unfold macKey
  rw [if_pos h, if_neg (by rw [sha_length]; omega)]
theorem macSum_long (key b : List UInt8) (h : 64 < key.length) : macSum (sha key) b = macSum key b := by
  unfold macSum macCross; rw [macKey_long key h]
end Go.Proofs.YthfpkdbhihcniaaDoor

/- package stream, plain: blocks and crossed bytes on numbers -/
namespace Go.Proofs.YthfpkdbhihcniaaDoor

/-- x with its highest k bits moved to the bottom -/
def rotl (k x : Nat) : Nat := rotr (32 - k) x
theorem rotl_lt {k x : Nat} (hx : x < 4294967296) : rotl k x < 4294967296 := rotr_lt (by omega) hx
theorem rotl_or {k x : Nat} (hk : k ≤ 32) (hx : x < 4294967296) : (x * 2 ^ k % 4294967296) ||| (x / 2 ^ (32 - k)) = rotl k x := by
  have h := rotr_or (k := 32 - k) (x := x) (by omega) hx
  rw [show 32 - (32 - k) = k by omega] at h
  rw [Nat.or_comm]
  exact h

/-- what a quarter makes of its four words -/
structure Qu where
  a : Nat
  b : Nat
  c : Nat
  d : Nat
def Qu.ok (q : Qu) : Prop := q.a < 4294967296 ∧ q.b < 4294967296 ∧ q.c < 4294967296 ∧ q.d < 4294967296
def Qu.ab (q : Qu) : Qu := ⟨(q.a + q.b) % 4294967296, q.b, q.c, q.d⟩
def Qu.da (k : Nat) (q : Qu) : Qu := ⟨q.a, q.b, q.c, rotl k (q.d ^^^ q.a)⟩
def Qu.cd (q : Qu) : Qu := ⟨q.a, q.b, (q.c + q.d) % 4294967296, q.d⟩
def Qu.bc (k : Nat) (q : Qu) : Qu := ⟨q.a, rotl k (q.b ^^^ q.c), q.c, q.d⟩
def Qu.all (q : Qu) : Qu := ((((((((q.ab).da 16).cd).bc 12).ab).da 8).cd).bc 7)
theorem Qu.ab_ok {q : Qu} (h : q.ok) : q.ab.ok := ⟨Nat.mod_lt _ (by omega), h.2.1, h.2.2.1, h.2.2.2⟩
theorem Qu.da_ok {q : Qu} (k : Nat) (h : q.ok) : (q.da k).ok := ⟨h.1, h.2.1, h.2.2.1, rotl_lt (xor_lt32 h.2.2.2 h.1)⟩
theorem Qu.cd_ok {q : Qu} (h : q.ok) : q.cd.ok := ⟨h.1, h.2.1, Nat.mod_lt _ (by omega), h.2.2.2⟩
theorem Qu.bc_ok {q : Qu} (k : Nat) (h : q.ok) : (q.bc k).ok := ⟨h.1, rotl_lt (xor_lt32 h.2.1 h.2.2.1), h.2.2.1, h.2.2.2⟩
theorem Qu.all_ok {q : Qu} (h : q.ok) : q.all.ok := Qu.bc_ok _ (Qu.cd_ok (Qu.da_ok _ (Qu.ab_ok (Qu.bc_ok _ (Qu.cd_ok (Qu.da_ok _ (Qu.ab_ok h)))))))

/-- four unlike places of sixteen -/
structure Four (a b c d : Nat) : Prop where
  ha : a < 16
  hb : b < 16
  hc : c < 16
  hd : d < 16
  ab : a ≠ b
  ac : a ≠ c
  ad : a ≠ d
  bc : b ≠ c
  bd : b ≠ d
  cd : c ≠ d
def put4 (L : List Nat) (a b c d : Nat) (q : Qu) : List Nat := (((L.set a q.a).set b q.b).set c q.c).set d q.d
def get4 (L : List Nat) (a b c d : Nat) : Qu := ⟨L[a]!, L[b]!, L[c]!, L[d]!⟩
def quarter (L : List Nat) (a b c d : Nat) : List Nat := put4 L a b c d (get4 L a b c d).all
theorem put4_length (L : List Nat) (a b c d : Nat) (q : Qu) : (put4 L a b c d q).length = L.length := by simp [put4]
theorem set_self (L : List Nat) (a : Nat) : L.set a L[a]! = L := by
  by_cases h : a < L.length
  · rw [getElem!_pos L a h]; exact List.set_getElem_self h
  · exact List.set_eq_of_length_le (by omega)
theorem put4_get4 (L : List Nat) (a b c d : Nat) : put4 L a b c d (get4 L a b c d) = L := by
  unfold put4 get4
  simp only [set_self]
section
variable {L : List Nat} {a b c d : Nat} (h : Four a b c d)
include h
theorem put4_a (hL : L.length = 16) (q : Qu) : (put4 L a b c d q)[a]? = some q.a := by
  have h1 := h.ab; have h2 := h.ac; have h3 := h.ad; have h4 := h.ha
  unfold put4
  rw [List.getElem?_set_ne (by omega), List.getElem?_set_ne (by omega), List.getElem?_set_ne (by omega), List.getElem?_set_self (by omega)]
theorem put4_b (hL : L.length = 16) (q : Qu) : (put4 L a b c d q)[b]? = some q.b := by
  have h2 := h.bc; have h3 := h.bd; have h4 := h.hb
  unfold put4
  rw [List.getElem?_set_ne (by omega), List.getElem?_set_ne (by omega), List.getElem?_set_self (by simp; omega)]
theorem put4_c (hL : L.length = 16) (q : Qu) : (put4 L a b c d q)[c]? = some q.c := by
  have h3 := h.cd; have h4 := h.hc
  unfold put4
  rw [List.getElem?_set_ne (by omega), List.getElem?_set_self (by simp; omega)]
theorem put4_d (hL : L.length = 16) (q : Qu) : (put4 L a b c d q)[d]? = some q.d := by
  have h4 := h.hd
  unfold put4
  rw [List.getElem?_set_self (by simp; omega)]
theorem put4_setA (q : Qu) (x : Nat) : (put4 L a b c d q).set a x = put4 L a b c d ⟨x, q.b, q.c, q.d⟩ := by
  have h1 := h.ab; have h2 := h.ac; have h3 := h.ad
  unfold put4
  dsimp only
  rw [List.set_comm _ _ (Ne.symm h3), List.set_comm _ _ (Ne.symm h2), List.set_comm _ _ (Ne.symm h1), List.set_set]
theorem put4_setB (q : Qu) (x : Nat) : (put4 L a b c d q).set b x = put4 L a b c d ⟨q.a, x, q.c, q.d⟩ := by
  have h2 := h.bc; have h3 := h.bd
  unfold put4
  dsimp only
  rw [List.set_comm _ _ (Ne.symm h3), List.set_comm _ _ (Ne.symm h2), List.set_set]
theorem put4_setC (q : Qu) (x : Nat) : (put4 L a b c d q).set c x = put4 L a b c d ⟨q.a, q.b, x, q.d⟩ := by
  have h3 := h.cd
  unfold put4
  dsimp only
  rw [List.set_comm _ _ (Ne.symm h3), List.set_set]
omit h in
theorem put4_setD (q : Qu) (x : Nat) : (put4 L a b c d q).set d x = put4 L a b c d ⟨q.a, q.b, q.c, x⟩ := by
  unfold put4
  dsimp only
  rw [List.set_set]
end
theorem get4_ok {L : List Nat} (h : ∀ x ∈ L, x < 4294967296) (a b c d : Nat) : (get4 L a b c d).ok := ⟨get_lt h _, get_lt h _, get_lt h _, get_lt h _⟩
theorem put4_lt {L : List Nat} (h : ∀ x ∈ L, x < 4294967296) (a b c d : Nat) {q : Qu} (hq : q.ok) : ∀ x ∈ put4 L a b c d q, x < 4294967296 := by
  intro x hx
  unfold put4 at hx
  obtain ⟨h1, h2, h3, h4⟩ := hq
  rcases List.mem_or_eq_of_mem_set hx with hx | rfl
  · rcases List.mem_or_eq_of_mem_set hx with hx | rfl
    · rcases List.mem_or_eq_of_mem_set hx with hx | rfl
      · rcases List.mem_or_eq_of_mem_set hx with hx | rfl
        · exact h x hx
        · exact h1
      · exact h2
    · exact h3
  · exact h4
/-- sixteen words -/
def Ws (L : List Nat) : Prop := L.length = 16 ∧ ∀ x ∈ L, x < 4294967296
theorem quarter_ok {L : List Nat} (h : Ws L) (a b c d : Nat) : Ws (quarter L a b c d) := ⟨by rw [quarter, put4_length, h.1], put4_lt h.2 a b c d (Qu.all_ok (get4_ok h.2 a b c d))⟩
def downs : Nat → List Nat → List Nat
  | 0, y => y
  | k + 1, y => quarter (downs k y) k (4 + k) (8 + k) (12 + k)
def aslant : Nat → List Nat → List Nat
  | 0, y => y
  | k + 1, y => quarter (aslant k y) k (4 + (k + 1) % 4) (8 + (k + 2) % 4) (12 + (k + 3) % 4)
def stirs : Nat → List Nat → List Nat
  | 0, y => y
  | k + 1, y => aslant 4 (downs 4 (stirs k y))
theorem downs_ok {L : List Nat} (h : Ws L) (k : Nat) : Ws (downs k L) := by
  induction k with
  | zero => exact h
  | succ k ih => exact quarter_ok ih _ _ _ _
theorem aslant_ok {L : List Nat} (h : Ws L) (k : Nat) : Ws (aslant k L) := by
  induction k with
  | zero => exact h
  | succ k ih => exact quarter_ok ih _ _ _ _
theorem stirs_ok {L : List Nat} (h : Ws L) (k : Nat) : Ws (stirs k L) := by
  induction k with
  | zero => exact h
  | succ k ih => exact aslant_ok (downs_ok ih _) _
/-- four bytes as a word, the lowest first -/
def le4 (l : List UInt8) (i : Nat) : Nat := l[i]!.toNat + l[i + 1]!.toNat * 256 + l[i + 2]!.toNat * 65536 + l[i + 3]!.toNat * 16777216
theorem le4_lt (l : List UInt8) (i : Nat) : le4 l i < 4294967296 := by
  unfold le4
  have h0 := l[i]!.toNat_lt
  have h1 := l[i + 1]!.toNat_lt
  have h2 := l[i + 2]!.toNat_lt
  have h3 := l[i + 3]!.toNat_lt
  omega
/-- k words of bytes, the lowest first -/
def leWords (l : List UInt8) : Nat → List Nat
  | 0 => []
  | k + 1 => leWords l k ++ [le4 l (4 * k)]
theorem leWords_length (l : List UInt8) (k : Nat) : (leWords l k).length = k := by
  induction k with
  | zero => rfl
  | succ k ih => simp [leWords, ih]
theorem leWords_lt (l : List UInt8) (k : Nat) : ∀ x ∈ leWords l k, x < 4294967296 := by
  induction k with
  | zero => simp [leWords]
  | succ k ih =>
    intro x hx
    simp only [leWords, List.mem_append, List.mem_singleton] at hx
    rcases hx with hx | rfl
    · exact ih x hx
    · exact le4_lt _ _
def streamStart : List Nat := [1634760805, 857760878, 2036477234, 1797285236]
/-- the words that a block is made of -/
def begun (key nonce : List UInt8) (count : Nat) : List Nat := streamStart ++ leWords key 8 ++ [count] ++ leWords nonce 3
theorem begun_ok (key nonce : List UInt8) {count : Nat} (h : count < 4294967296) : Ws (begun key nonce count) := by
  refine ⟨by simp [begun, streamStart, leWords_length], fun x hx => ?_⟩
  simp only [begun, List.mem_append, List.mem_singleton] at hx
  rcases hx with ((hx | hx) | rfl) | hx
  · revert x; decide
  · exact leWords_lt _ _ x hx
  · exact h
  · exact leWords_lt _ _ x hx
/-- byte i of words, the lowest first -/
def wordByte (y : List Nat) (i : Nat) : UInt8 := UInt8.ofNat (y[i / 4]! / 2 ^ (8 * (i % 4)))
def wordBytes (y : List Nat) : Nat → List UInt8
  | 0 => []
  | k + 1 => wordBytes y k ++ [wordByte y k]
theorem wordBytes_length (y : List Nat) (k : Nat) : (wordBytes y k).length = k := by
  induction k with
  | zero => rfl
  | succ k ih => simp [wordBytes, ih]
/-- k places of y with those of x added -/
def plusTo (y x : List Nat) (k : Nat) : List Nat := (List.range k).map (fun i => (y[i]! + x[i]!) % 4294967296) ++ y.drop k
theorem plusTo_length (y x : List Nat) (k : Nat) (hk : k ≤ y.length) : (plusTo y x k).length = y.length := by simp [plusTo]; omega
theorem plusTo_at (y x : List Nat) (k : Nat) (hk : k < y.length) : (plusTo y x k)[k]? = some y[k]! := by
  unfold plusTo
  rw [List.getElem?_append_right (by simp), getElem!_pos y k hk]
  simp [hk]
theorem plusTo_set (y x : List Nat) (k : Nat) (hk : k < y.length) : (plusTo y x k).set k ((y[k]! + x[k]!) % 4294967296) = plusTo y x (k + 1) := by
  unfold plusTo
  rw [List.set_append_right _ _ (by simp), List.length_map, List.length_range, Nat.sub_self, List.drop_eq_getElem_cons hk, List.set_cons_zero, List.range_succ, List.map_append, List.append_assoc]
  rfl
theorem plusTo_lt {y : List Nat} (x : List Nat) (k : Nat) (hy : ∀ z ∈ y, z < 4294967296) : ∀ z ∈ plusTo y x k, z < 4294967296 := by
  intro z hz
  simp only [plusTo, List.mem_append, List.mem_map] at hz
  rcases hz with ⟨_, _, rfl⟩ | hz
  · exact Nat.mod_lt _ (by omega)
  · exact hy z (List.mem_of_mem_drop hz)
/-- 64 bytes of a key, a nonce and a count -/
def streamBlock (key nonce : List UInt8) (count : Nat) : List UInt8 := wordBytes (plusTo (stirs 10 (begun key nonce count)) (begun key nonce count) 16) 64
theorem streamBlock_length (key nonce : List UInt8) (count : Nat) : (streamBlock key nonce count).length = 64 := wordBytes_length _ _
/-- the stream's byte at a place -/
def streamAt (key nonce : List UInt8) (count i : Nat) : UInt8 := (streamBlock key nonce ((count + i / 64) % 4294967296))[i % 64]!
/-- the first k bytes crossed -/
def crossTo (key nonce : List UInt8) (count : Nat) (b : List UInt8) : Nat → List UInt8
  | 0 => []
  | k + 1 => crossTo key nonce count b k ++ [b[k]! ^^^ streamAt key nonce count k]
def streamCross (key nonce : List UInt8) (count : Nat) (b : List UInt8) : List UInt8 := crossTo key nonce count b b.length
theorem crossTo_length (key nonce : List UInt8) (count : Nat) (b : List UInt8) (k : Nat) : (crossTo key nonce count b k).length = k := by
  induction k with
  | zero => rfl
  | succ k ih => simp [crossTo, ih]
theorem streamCross_length (key nonce : List UInt8) (count : Nat) (b : List UInt8) : (streamCross key nonce count b).length = b.length := crossTo_length _ _ _ _ _
theorem crossTo_at (key nonce : List UInt8) (count : Nat) (b : List UInt8) (k i : Nat) (h : i < k) : (crossTo key nonce count b k)[i]! = b[i]! ^^^ streamAt key nonce count i := by
  induction k with
  | zero => omega
  | succ k ih =>
    have hl := crossTo_length key nonce count b k
    rw [crossTo]
    by_cases hi : i < k
    · rw [← ih hi, getElem!_pos _ i (by simp; omega), getElem!_pos _ i (by omega), List.getElem_append_left (by omega)]
    · obtain rfl : i = k := by omega
      rw [getElem!_pos _ i (by simp; omega), List.getElem_append_right (by omega)]
      simp [hl]
theorem streamCross_at (key nonce : List UInt8) (count : Nat) (b : List UInt8) (i : Nat) (h : i < b.length) : (streamCross key nonce count b)[i]! = b[i]! ^^^ streamAt key nonce count i := crossTo_at _ _ _ _ _ _ h
theorem ext_get! {a b : List UInt8} (h : a.length = b.length) (h2 : ∀ i, i < a.length → a[i]! = b[i]!) : a = b := by
  refine List.ext_getElem h fun i h3 h4 => ?_
  have := h2 i h3
  rwa [getElem!_pos a i h3, getElem!_pos b i h4] at this
/-- crossed twice, bytes are as they were -/
theorem streamCross_twice (key nonce : List UInt8) (count : Nat) (b : List UInt8) : streamCross key nonce count (streamCross key nonce count b) = b := by
  refine ext_get! (by rw [streamCross_length, streamCross_length]) fun i h => ?_
  rw [streamCross_length, streamCross_length] at h
  rw [streamCross_at _ _ _ _ _ (by rw [streamCross_length]; exact h), streamCross_at _ _ _ _ _ h, UInt8.xor_assoc, UInt8.xor_self, UInt8.xor_zero]
theorem drop_get! (l : List UInt8) (n i : Nat) : (l.drop n)[i]! = l[n + i]! := by
  by_cases h : n + i < l.length
  · rw [getElem!_pos (l.drop n) i (by simp; omega), getElem!_pos l (n + i) h, List.getElem_drop]
  · rw [getElem!_neg (l.drop n) i (by simp; omega), getElem!_neg l (n + i) h]
/-- bytes that begin at a block's beginning -/
theorem streamCross_later (key nonce : List UInt8) (count n : Nat) (b : List UInt8) : (streamCross key nonce count b).drop (64 * n) = streamCross key nonce ((count + n) % 4294967296) (b.drop (64 * n)) := by
  refine ext_get! (by rw [streamCross_length, List.length_drop, List.length_drop, streamCross_length]) fun i h => ?_
  rw [List.length_drop, streamCross_length] at h
  rw [drop_get!, streamCross_at _ _ _ _ _ (by omega), streamCross_at _ _ _ _ _ (by rw [List.length_drop]; exact h), drop_get!]
  refine congrArg (b[64 * n + i]! ^^^ ·) ?_
  unfold streamAt
  have h1 : (count + (64 * n + i) / 64) % 4294967296 = ((count + n) % 4294967296 + i / 64) % 4294967296 := by omega
  have h2 : (64 * n + i) % 64 = i % 64 := by omega
  generalize streamBlock key nonce = f
  rw [h1, h2]
/-- they differ just where these do -/
theorem streamCross_places (key nonce : List UInt8) (count : Nat) (a b : List UInt8) (i : Nat) (h1 : i < a.length) (h2 : i < b.length) :
    (streamCross key nonce count a)[i]! ^^^ (streamCross key nonce count b)[i]! = a[i]! ^^^ b[i]! := by
  rw [streamCross_at _ _ _ _ _ h1, streamCross_at _ _ _ _ _ h2]
  generalize streamAt key nonce count i = s
  rw [UInt8.xor_assoc, UInt8.xor_comm b[i]! s, ← UInt8.xor_assoc s s, UInt8.xor_self, UInt8.zero_xor]
set_option maxRecDepth 100000 in
theorem stream_shown : (streamBlock ((List.range 32).map UInt8.ofNat) [0, 0, 0, 9, 0, 0, 0, 74, 0, 0, 0, 0] 1).take 8 = [16, 241, 231, 228, 209, 59, 89, 21] := by kernel_rfl
end Go.Proofs.YthfpkdbhihcniaaDoor

/- package seal, plain: sealed texts on lists of bytes -/
namespace Go.Proofs.YthfpkdbhihcniaaDoor

/-- P6.1: what a tag is made of -/
def sealIn (nonce ad x : List UInt8) : List UInt8 := fixF 8 ad.length ++ ad ++ nonce ++ x
/-- P6.1 -/
def sealTag (mac nonce ad x : List UInt8) : List UInt8 := (macSum mac (sealIn nonce ad x)).take 16
theorem sealTag_length (mac nonce ad x : List UInt8) : (sealTag mac nonce ad x).length = 16 := by unfold sealTag; rw [List.length_take, macSum_length]; rfl
/-- P6.2 -/
def sealSeal (enc mac nonce ad text : List UInt8) : List UInt8 := streamCross enc nonce 1 text ++ sealTag mac nonce ad (streamCross enc nonce 1 text)
theorem sealSeal_length (enc mac nonce ad text : List UInt8) : (sealSeal enc mac nonce ad text).length = text.length + 16 := by unfold sealSeal; rw [List.length_append, streamCross_length, sealTag_length]
theorem sealSeal_take (enc mac nonce ad text : List UInt8) : (sealSeal enc mac nonce ad text).take text.length = streamCross enc nonce 1 text := by
  unfold sealSeal; rw [List.take_append_of_le_length (by rw [streamCross_length]; exact Nat.le_refl _), List.take_of_length_le (by rw [streamCross_length]; exact Nat.le_refl _)]
theorem sealSeal_drop (enc mac nonce ad text : List UInt8) : (sealSeal enc mac nonce ad text).drop text.length = sealTag mac nonce ad (streamCross enc nonce 1 text) := by
  unfold sealSeal
  have h := streamCross_length enc nonce 1 text
  rw [List.drop_append_of_le_length (by omega), List.drop_of_length_le (by omega), List.nil_append]
/-- whether bytes are told to be whole -/
def sealGood (mac nonce ad b : List UInt8) : Bool := decide (16 ≤ b.length) && (sealTag mac nonce ad (b.take (b.length - 16)) == b.drop (b.length - 16))
/-- P6.3: what is opened, where it is told to be whole -/
def sealText (enc nonce b : List UInt8) : List UInt8 := streamCross enc nonce 1 (b.take (b.length - 16))
theorem sealText_length (enc nonce b : List UInt8) : (sealText enc nonce b).length = b.length - 16 := by unfold sealText; rw [streamCross_length, List.length_take]; omega
/-- P6.4 -/
theorem seal_good (enc mac nonce ad text : List UInt8) : sealGood mac nonce ad (sealSeal enc mac nonce ad text) = true := by
  unfold sealGood
  rw [sealSeal_length, Nat.add_sub_cancel, sealSeal_take, sealSeal_drop]
  simp
theorem seal_back (enc mac nonce ad text : List UInt8) : sealText enc nonce (sealSeal enc mac nonce ad text) = text := by
  unfold sealText
  rw [sealSeal_length, Nat.add_sub_cancel, sealSeal_take, streamCross_twice]
theorem seal_once (enc mac nonce ad b : List UInt8) (h : sealGood mac nonce ad b = true) : sealSeal enc mac nonce ad (sealText enc nonce b) = b := by
  unfold sealGood at h
  simp only [Bool.and_eq_true, decide_eq_true_eq, beq_iff_eq] at h
  unfold sealSeal sealText
  rw [streamCross_twice, h.2, List.take_append_drop]
/-- bytes of which just so many stand ahead of the tag -/
theorem seal_told (mac nonce ad b : List UInt8) (n : Nat) (h : b.length = n + 16) : sealGood mac nonce ad b = (sealTag mac nonce ad (b.take n) == b.drop n) := by
  unfold sealGood
  rw [h, Nat.add_sub_cancel]
  simp
end Go.Proofs.YthfpkdbhihcniaaDoor

/- blocks that hold lists of cells. Nothing of the program. -/
namespace Go.Proofs.YthfpkdbhihcniaaDoor
open Go.ChangeShapes Go.WideShapes Go.ChangeAt Go.RowKit

/-- block B holds the cells L -/
def Blk (w : World) (B : Nat) (t : TypeId) (L : List Value) : Prop := w.heap[B]? = some (.cells L.toArray t (0, 0))
theorem Blk.frame {w w' : World} {B t : Nat} {L : List Value} (h : Blk w B t L) {S : Nat → Prop} (f : Fr S w w') (hn : ¬ S B) : Blk w' B t L := f.heap h hn
theorem Blk.non {w w' : World} {B t : Nat} {L : List Value} (h : Blk w B t L) (f : Fr Non w w') : Blk w' B t L := f.heap h (fun h => h)
theorem Blk.lt {w : World} {B t : Nat} {L : List Value} (h : Blk w B t L) : B < w.heap.size := (Array.getElem?_eq_some_iff.1 h).1
theorem Blk.at {w : World} {B t : Nat} {L : List Value} (h : Blk w B t L) (k : Nat) (u : Value) (hu : L[k]? = some u) : w.cell? ⟨B, k, none⟩ = some u ∧ w.frozen? ⟨B, k, none⟩ = false := by
  refine ⟨?_, (block_cells h k).2⟩
  rw [(block_cells h k).1]
  simpa using hu
theorem Blk.has {w : World} {B t : Nat} {L : List Value} (h : Blk w B t L) (k : Nat) (hk : k < L.length) : ∃ u, w.cell? ⟨B, k, none⟩ = some u ∧ w.frozen? ⟨B, k, none⟩ = false := ⟨_, h.at k _ (List.getElem?_eq_getElem hk)⟩
theorem Blk.set {w : World} {B t : Nat} {L : List Value} (h : Blk w B t L) (k : Nat) (u : Value) : Blk (w.setCell ⟨B, k, none⟩ u) B t (L.set k u) := by
  have := heap_setCell w B k _ _ _ u h
  unfold Blk
  rw [this]
  simp
theorem Blk.new (w : World) (t : TypeId) (L : List Value) : Blk (w.alloc (.cells L.toArray t)) w.heap.size t L := heap_alloc_new w _
theorem Blk.range {w : World} {B t : Nat} {L : List Value} (h : Blk w B t L) (o : Nat) (cs : List Value) (hc : ∀ j v, cs[j]? = some v → L[o + j]? = some v) : w.rangeAt B o cs := fun j v hv => by
  rw [(block_cells h (o + j)).1]
  simpa using hc j v hv
theorem Blk.there {w : World} {B t : Nat} {L : List Value} (h : Blk w B t L) (o n : Nat) (hn : o + n ≤ L.length) : w.there B o n := fun j hj => by
  obtain ⟨h1, h2⟩ := h.at (o + j) _ (List.getElem?_eq_getElem (by omega))
  exact ⟨by rw [h1]; rfl, h2⟩
theorem splice_cons {α : Type} (L : List α) (o : Nat) (u : α) (vs : List α) (h : o + (u :: vs).length ≤ L.length) : splice (L.set o u) (o + 1) vs = splice L o (u :: vs) := by
  simp only [List.length_cons] at h
  unfold splice
  rw [List.drop_set_of_lt (by omega), List.take_set, List.take_succ_eq_append_getElem (by omega : o < L.length), List.set_append_right _ _ (by simp; omega)]
  simp only [List.length_cons, List.length_take]
  rw [show o - min o L.length = 0 by omega, List.set_cons_zero, List.append_assoc, show o + 1 + vs.length = o + (vs.length + 1) by omega]
  rfl
theorem Blk.setCells {B t : Nat} : ∀ (vs : List Value) (w : World) (L : List Value) (o : Nat) (_ : Blk w B t L) (_ : o + vs.length ≤ L.length), Blk (w.setCells B o vs) B t (splice L o vs)
  | [], w, L, o, h, _ => by simpa [splice, World.setCells] using h
  | u :: vs, w, L, o, h, hn => by
    have := Blk.setCells vs _ (L.set o u) (o + 1) (h.set o u) (by simp only [List.length_set]; simp only [List.length_cons] at hn; omega)
    rw [splice_cons L o u vs hn] at this
    exact this
theorem Fr.setCells' (b : Nat) : ∀ (vs : List Value) (w : World) (o : Nat), Fr (One b) w (w.setCells b o vs)
  | [], _, _ => Fr.refl _ _
  | v :: vs, w, o => (Fr.setCell w ⟨b, o, none⟩ v).trans (Fr.setCells' b vs (w.setCell ⟨b, o, none⟩ v) (o + 1)) (fun _ h => h) (fun _ h => .inl h)
theorem Fr.setRow (w : World) (g : Nat) (cs : Array Value) : Fr (One g) w (w.setRow g cs) :=
  ⟨rfl, rfl, rfl, by simp [World.setRow], fun k _ hk => setRow_other w g k cs (fun e => hk e)⟩
/-- a part of a block reads as a slice -/
theorem Blk.row {w : World} {B t : Nat} {L : List Value} (h : Blk w B t L) (o c : Nat) (xs : List Value) (hc : xs.length ≤ c) (hm : c ≤ maxLen) (hx : ∀ j v, xs[j]? = some v → L[o + j]? = some v) : Row w (.slice (some ⟨B, o, none⟩) xs.length c) xs :=
  ⟨_, c, rfl, hc, hm, (by intro h; cases h), fun _ _ => ⟨B, o, rfl, fun i u hi => (h.at (o + i) u (hx i u hi)).1⟩⟩
theorem fill_ones (place : Nat → Option (Nat × Nat)) (hp : ∀ i, place i = some (i, 1)) : ∀ (us : List Value) (L R : List Value), (∀ u ∈ us, u.cells = #[u]) → R.length = us.length →
    Instr.fill place (L ++ R).toArray ((us.zipIdx L.length).map fun p => (p.2, p.1)) = some (L ++ us).toArray
  | [], L, R, _, hl => by
    obtain rfl : R = [] := List.eq_nil_of_length_eq_zero hl
    rfl
  | u :: us, L, [], _, hl => by simp at hl
  | u :: us, L, r :: R, h, hl => by
    have h1 : u.cells = #[u] := h u (by simp)
    have ih := fill_ones place hp us (L ++ [u]) R (fun v hv => h v (List.mem_cons_of_mem _ hv)) (by simpa using hl)
    simp only [List.zipIdx_cons, List.map_cons, Instr.fill, hp, h1]
    simp only [List.length_append, List.length_cons, List.length_nil, Nat.zero_add, List.append_assoc, List.singleton_append] at ih
    simp
    exact ih
theorem built_words {P : Program} {t e : TypeId} {it ie : TypeInfo} {Z : Array Value} {n : Nat} (hit : P.info? t = some it) (hz : it.zero = some (.agg Z)) (hu : P.underlying t = some (.array n e)) (hie : P.info? e = some ie) (hs : ie.size = 1) (us : List Value) (hc : ∀ u ∈ us, u.cells = #[u]) (hZ : Z.size = us.length) :
    P.built t (us.zipIdx.map fun p => (p.2, p.1)) = some us.toArray := by
  unfold Program.built
  rw [hit, hu]
  simp only [hz, hie, hs, Nat.mul_one]
  have h := fill_ones (fun i => some (i, 1)) (fun _ => rfl) us [] Z.toList hc (by simpa using hZ)
  simpa [Value.cells] using h
section
variable {P : Program}
/-- copy: only block g turns -/
theorem wp_copy_fr {o : Oper} {a : Act} {w : World} {K : Act → World → Prop} {Q : Exit → Act → World → Prop} (d s : Operand) (dT sT : TypeId)
    (ho : o.op = .call { callee := .builtin .copy, args := #[d, s], argTypes := #[dT, sT] }) (elem : TypeId) (hu : P.underlying dT = some (.slice elem)) (hsz : (P.info? elem).map (·.size) = some 1)
    (g off : Nat) (L : List Value) (t : TypeId) (hg : Blk w g t L) (dLen dCap : Nat) (v : Value) (xs : List Value) (hr : Row w v xs) (hd : a.eval d = .slice (some ⟨g, off, none⟩) dLen dCap) (hs : a.eval s = v)
    (hfit : off + dLen ≤ L.length) (h1 : ∀ v ∈ xs, v.oneCell' = true)
    (h : ∀ w', Blk w' g t (splice L off (xs.take dLen)) → Fr (One g) w w' → K (a.put o.dst (goInt (xs.take dLen).length)) w') : Oper.wp P o a w K Q := by
  obtain ⟨sp, c, rfl, q1, q2, q3, q4⟩ := hr
  have hn : (xs.take dLen).length = Nat.min xs.length dLen := by rw [List.length_take]; exact Nat.min_comm _ _
  by_cases h0 : (xs.take dLen).length = 0
  · have hrun := run_copy_none (P := P) w dT sT o.type elem (some ⟨g, off, none⟩) sp dLen dCap xs.length c hu hsz (by rw [← hn]; exact h0)
    unfold Oper.wp
    simp [execOp, ho, resolve, invoke, builtin, hd, hs, hrun, Result.andThen]
    have := h w (by rw [List.eq_nil_of_length_eq_zero h0]; simpa [splice] using hg) (Fr.refl _ _)
    rw [h0] at this
    exact this
  · have hx : 0 < xs.length := by rw [List.length_take] at h0; omega
    obtain ⟨b, off2, rfl, hc⟩ := q4 0 hx
    have hrun := run_copy_row (P := P) w dT sT o.type elem g off dLen dCap ⟨b, off2, none⟩ xs.length c L.toArray t (xs.take dLen) hu hsz hg hn (fun j v hv => by
      have hj : j < dLen := by have := (List.getElem?_eq_some_iff.1 hv).1; rw [List.length_take] at this; omega
      rw [List.getElem?_take_of_lt hj] at hv
      rw [Addr.add_lit]
      exact hc j v hv) (by rw [List.length_take]; simp; omega) (fun v hv => h1 v (List.mem_of_mem_take hv))
    unfold Oper.wp
    simp only [execOp, ho, resolve, invoke, builtin, Sem.run_bind, Sem.run_pure, Result.andThen_ok, List.map_toArray, List.map_cons, List.map_nil, hd, hs, hrun]
    refine h _ ?_ (Fr.setRow _ _ _)
    unfold Blk
    rw [show splice L off (xs.take dLen) = L.take off ++ xs.take dLen ++ L.drop (off + (xs.take dLen).length) from by simp only [splice, List.append_assoc]]
    exact setRow_heap w g _ _ t _ hg
theorem wpList_copy_fr {ops : Array Oper} {rest : List Oper} {o : Oper} {a : Act} {w : World} {Q : Exit → Act → World → Prop} (hgd : o.guard = none) (d s : Operand) (dT sT : TypeId)
    (ho : o.op = .call { callee := .builtin .copy, args := #[d, s], argTypes := #[dT, sT] }) (elem : TypeId) (hu : P.underlying dT = some (.slice elem)) (hsz : (P.info? elem).map (·.size) = some 1)
    (g off : Nat) (L : List Value) (t : TypeId) (hg : Blk w g t L) (dLen dCap : Nat) (v : Value) (xs : List Value) (hr : Row w v xs) (hd : a.eval d = .slice (some ⟨g, off, none⟩) dLen dCap) (hs : a.eval s = v)
    (hfit : off + dLen ≤ L.length) (h1 : ∀ v ∈ xs, v.oneCell' = true)
    (h : ∀ w', Blk w' g t (splice L off (xs.take dLen)) → Fr (One g) w w' → wpList P ops Q rest (a.put o.dst (goInt (xs.take dLen).length)) w') : wpList P ops Q (o :: rest) a w :=
  wpList_plain hgd fun _ hK => wp_copy_fr d s dT sT ho elem hu hsz g off L t hg dLen dCap v xs hr hd hs hfit h1 (fun w' h2 h3 => hK _ _ (h w' h2 h3))
/-- 'x[lo:]', x an array in memory -/
theorem run_arrLo {t e n : Nat} (ht : P.underlying t = some (.array n e)) (hsz : (P.info? e).map (·.size) = some 1) (B o : Nat) (k : IntKind) (L : Int) (lo : Nat) (eL : L = (lo : Int)) (h : lo < n) :
    ∀ w, (Instr.sliceAt t (.pointer (some ⟨B, o, none⟩)) (some (.int k L)) none none).run P w = .ok (.slice (some ⟨B, o + lo, none⟩) (n - lo) (n - lo)) w := by
  intro w
  subst eL
  have hn : P.arrayLen t = n := by unfold Program.arrayLen; rw [ht]
  have he : P.elem t = e := by unfold Program.elem; rw [ht]
  rw [run_sliceAt_array_l w t ⟨B, o, none⟩ (by rw [hn, he]; exact ht) k (lo : Int) (by omega) (by rw [hn]; omega), he, run_size1 w hsz, hn]
  simp only [Result.andThen, slicedAt, Int.toNat_natCast, Nat.mul_one]
  rw [if_neg (by omega), Addr.add_lit]
/-- 'x[:hi]' -/
theorem run_arrHi {t e n : Nat} (ht : P.underlying t = some (.array n e)) (hsz : (P.info? e).map (·.size) = some 1) (B o : Nat) (k : IntKind) (H : Int) (hi : Nat) (eH : H = (hi : Int)) (h : hi ≤ n) :
    ∀ w, (Instr.sliceAt t (.pointer (some ⟨B, o, none⟩)) none (some (.int k H)) none).run P w = .ok (.slice (some ⟨B, o, none⟩) hi n) w := by
  intro w
  subst eH
  have hn : P.arrayLen t = n := by unfold Program.arrayLen; rw [ht]
  have he : P.elem t = e := by unfold Program.elem; rw [ht]
  rw [run_sliceAt_array_h w t ⟨B, o, none⟩ (by rw [hn, he]; exact ht) k (hi : Int) (by omega) (by rw [hn]; omega), he, run_size1 w hsz, hn]
  simp only [Result.andThen, slicedAt, Int.toNat_natCast, Nat.sub_zero, Nat.zero_mul]
  by_cases h0 : n = 0
  · rw [if_pos h0]
  · rw [if_neg h0, Addr.add_lit, Nat.add_zero]
theorem splice_mid {α : Type} (A X Z C : List α) (p : Nat) (h : p + C.length ≤ X.length) : splice (A ++ (X ++ Z)) (A.length + p) C = A ++ (splice X p C ++ Z) := by
  unfold splice
  rw [List.take_append, List.take_of_length_le (by omega), show A.length + p - A.length = p by omega, List.take_append_of_le_length (by omega), Nat.add_assoc, List.drop_append, List.drop_of_length_le (by omega : A.length ≤ A.length + (p + C.length)), List.nil_append, show A.length + (p + C.length) - A.length = p + C.length by omega, List.drop_append_of_le_length (by omega)]
  simp only [List.append_assoc]
/-- a literal of an array or a struct -/
theorem wpList_build_as {ops : Array Oper} {rest : List Oper} {o : Oper} {a : Act} {w : World} {Q : Exit → Act → World → Prop} (hg : o.guard = none) (t : TypeId) (parts : List (Nat × Operand)) (ho : o.op = .build t parts.toArray)
    (vals : List (Nat × Value)) (cells : Array Value) (hb : P.built t vals = some cells) (hv : parts.map (fun p => (p.1, a.eval p.2)) = vals)
    (h : wpList P ops Q rest (a.put o.dst (.agg cells)) w) : wpList P ops Q (o :: rest) a w := by
  have e : (parts.toArray.map fun (i, x) => (i, a.eval x)).toList = vals := by rw [← hv]; simp
  refine wpList_build hg t parts.toArray ho (by rw [e, hb]; rfl) ?_
  rw [e, hb]
  exact h
end
end Go.Proofs.YthfpkdbhihcniaaDoor

/- a variable of an array that is made and written at once. Nothing of the program. -/
namespace Go.Proofs.YthfpkdbhihcniaaDoor
open Go.ChangeShapes Go.WideShapes Go.ChangeAt Go.RowKit
theorem size_setCells (b : Nat) : ∀ (vs : List Value) (w : World) (o : Nat), (w.setCells b o vs).heap.size = w.heap.size
  | [], _, _ => rfl
  | v :: vs, w, o => (size_setCells b vs (w.setCell ⟨b, o, none⟩ v) (o + 1)).trans (by simp [World.setCell])
section
variable {P : Program}
theorem wpList_allocZ {w : World} {ops : Array Oper} {rest : List Oper} {o : Oper} {a : Act} {Q : Exit → Act → World → Prop} (hg : o.guard = none) (t : TypeId) (ho : o.op = .alloc t)
    (z : List Value) (hz : ∀ w, (zeroValue t).run P w = .ok (.agg z.toArray) w)
    (h : ∀ w', Blk w' w.heap.size t z → Fr Non w w' → w'.heap.size = w.heap.size + 1 → wpList P ops Q rest (a.put o.dst (.pointer (some ⟨w.heap.size, 0, none⟩))) w') : wpList P ops Q (o :: rest) a w := by
  refine wpList_plain hg fun K hK => ?_
  unfold Oper.wp
  simp [execOp, ho, Instr.alloc, newVar, hz, go_sem, Value.cells]
  exact hK _ _ (h _ (Blk.new w t z) (Fr.alloc _ _) (by simp))
theorem splice_all {α : Type} (L ys : List α) (h : L.length = ys.length) : splice L 0 ys = ys := by
  simp only [splice, List.take_zero, List.nil_append, Nat.zero_add]
  rw [List.drop_of_length_le (by omega), List.append_nil]
/-- 'd := ..', an array, whose address is taken -/
theorem wpList_var {w : World} {ops : Array Oper} {rest : List Oper} {o1 o2 : Oper} {Q : Exit → Act → World → Prop} {l : List Value} {df : List Deferred} (g1 : o1.guard = none) (g2 : o2.guard = none) (t : TypeId) (d : Nat) (y : Operand) (ho1 : o1.op = .alloc t) (hd1 : o1.dst = some d) (ho2 : o2.op = .store t (.tmp d) y) (hd2 : o2.dst = none)
    (z ys : List Value) (hz : ∀ w, (zeroValue t).run P w = .ok (.agg z.toArray) w) (hzl : z.length = ys.length) (hi : (P.info? t).map (·.size) = some ys.length) (h1 : ∀ v ∈ ys, v.oneCell' = true) (hl : d < l.length) (hy : ∀ u, Act.eval ⟨(l.set d u).toArray, df⟩ y = .agg ys.toArray)
    (h : ∀ w', Blk w' w.heap.size t ys → Fr Non w w' → w'.heap.size = w.heap.size + 1 → wpList P ops Q rest ⟨(l.set d (.pointer (some ⟨w.heap.size, 0, none⟩))).toArray, df⟩ w') : wpList P ops Q (o1 :: o2 :: rest) ⟨l.toArray, df⟩ w := by
  refine wpList_allocZ g1 t ho1 z hz fun w1 hb hf hs => ?_
  rw [hd1]
  simp only [Act.put, List.setIfInBounds_toArray]
  refine wpList_store_mid g2 t (.tmp d) y ho2 w.heap.size 0 ys.toArray (by simp [Act.eval, hl]) (hy _) (by have := hb.there 0 ys.length (by omega); simpa using this) (by rw [List.size_toArray]; exact hi) (all_oneCell_toArray h1) ?_
  rw [hd2]
  simp only [Act.put]
  have hb2 := Blk.setCells ys w1 z 0 hb (by omega)
  rw [splice_all _ _ hzl] at hb2
  have hf2 := Fr.setCells' w.heap.size ys w1 0
  refine h _ hb2 (hf.new hf2 (fun i h => by have h1 : i = w.heap.size := h; omega)) ?_
  rw [← hs]
  exact (size_setCells _ _ _ _)
end
end Go.Proofs.YthfpkdbhihcniaaDoor

/- frames step by step, rows that lie elsewhere, digests compared -/
namespace Go.Proofs.YthfpkdbhihcniaaDoor
open Go.ChangeShapes Go.WideShapes Go.ChangeAt Go.RowKit
def vlen : Value → Nat
  | .slice _ n _ => n
  | _ => 0
theorem Own.vlen {w : World} {base e : Nat} {v : Value} {xs : List Value} (h : Own w base e v xs) : vlen v = xs.length := by
  obtain ⟨a, c, rfl, _⟩ := h.row
  rfl
theorem Fr.toAlloc {S : Nat → Prop} {a b : World} (h : Fr S a b) (o : Obj) : Fr S a (b.alloc o) := h.thenNon (Fr.alloc b o)
theorem Fr.toDrew {S : Nat → Prop} {a b : World} (h : Fr S a b) : Fr S a b.drew := h.thenNon (Fr.drew b)
theorem Fr.range {S : Nat → Prop} {a b : World} (h : Fr S a b) {g o : Nat} {cs : List Value} (hr : a.rangeAt g o cs) (hn : ¬ S g) : b.rangeAt g o cs := fun j v hv => h.cell (hr j v hv) hn
theorem Rows2.toAlloc {w : World} {v : Value} {ls : List (List UInt8)} (h : Rows2 w v ls) (o : Obj) : Rows2 (w.alloc o) v ls := h.frame (Fr.alloc _ _)
theorem Rows2.toDrew {w : World} {v : Value} {ls : List (List UInt8)} (h : Rows2 w v ls) : Rows2 w.drew v ls := h.frame (Fr.drew _)
theorem Row.offNew {w : World} {v : Value} {l : List UInt8} {O : Nat → Prop} (h : Row w v (bs l)) (ho : ∀ i, O i → w.heap.size ≤ i) (hn : l ≠ []) : Off O v := by
  obtain ⟨a, c, rfl, _, _, _, h4⟩ := h
  intro b off n c' e hb
  have hl : 0 < (bs l).length := by rw [bs_length]; exact List.length_pos_iff.2 hn
  obtain ⟨b', off', rfl, hc⟩ := h4 0 hl
  injection e with e1 _ _
  injection e1 with e1
  injection e1 with e2 e3
  subst e2 e3
  have h2 := hc 0 _ (List.getElem?_eq_getElem hl)
  have h3 : b' < w.heap.size := World.block_lt_of_cell? _ _ h2
  have := ho _ hb
  omega
theorem Row.blockLt {w : World} {l : List UInt8} {b off n c : Nat} (h : Row w (.slice (some ⟨b, off, none⟩) n c) (bs l)) (hn : l ≠ []) : b < w.heap.size := by
  obtain ⟨a', c', e, _, _, _, h4⟩ := h
  have hl : 0 < (bs l).length := by rw [bs_length]; exact List.length_pos_iff.2 hn
  obtain ⟨b', off', rfl, hc⟩ := h4 0 hl
  injection e with e1 _ _
  injection e1 with e1
  injection e1 with e2 e3
  subst e2 e3
  have h2 := hc 0 _ (List.getElem?_eq_getElem hl)
  exact World.block_lt_of_cell? _ _ h2
/-- what was not appended to lies elsewhere still -/
theorem Row.offMoved {w : World} {v v' r : Value} {l : List UInt8} (hr : Row w r (bs l)) (hl : l ≠ []) (ho : Off (OwnOf v) r) (hm : Moved w v v') : Off (OwnOf v') r := by
  intro b off n c e h
  subst e
  rcases hm b h with h1 | h1
  · exact ho _ _ _ _ rfl h1
  · have := hr.blockLt hl; omega
theorem Row.frameNe {S : Nat → Prop} {w w' : World} {v : Value} {l : List UInt8} (h : Row w v (bs l)) (f : Fr S w w') (hn : l ≠ [] → Off S v) : Row w' v (bs l) := by
  by_cases h0 : l = []
  · subst h0
    obtain ⟨a, c, rfl, q1, q2, q3, q4⟩ := h
    exact ⟨a, c, rfl, q1, q2, q3, fun j hj => absurd hj (by simp [bs])⟩
  · exact h.frame f (hn h0)
theorem Row.vlen {w : World} {v : Value} {xs : List Value} (h : Row w v xs) : vlen v = xs.length := by
  obtain ⟨a, c, rfl, _⟩ := h
  rfl
theorem size25 : ∀ w, (sizeOf 5).run Tryd.prog w = .ok 1 w := fun w => run_size1 w (by kernel_rfl)
/-- digests are compared byte by byte -/
theorem eqDigest (w : World) (x y : List UInt8) (hx : x.length = 32) (hy : y.length = 32) : (binOp .eql 46 (.agg (bs x).toArray) (.agg (bs y).toArray)).run Tryd.prog w = .ok (.bool (x == y)) w :=
  run_eql_bytes (P := Tryd.prog) w 46 5 32 Tryd.underlying46 Tryd.underlying5 size25 x y hx hy
theorem neqDigest_same (l : List UInt8) (w : World) : (binOp .neq 46 (.agg (bs (sha l)).toArray) (.agg (bs (sha l)).toArray)).run Tryd.prog w = .ok (.bool false) w := by
  have h := run_equalIn_bytes (P := Tryd.prog) w 9998 46 5 32 Tryd.underlying46 Tryd.underlying5 size25 (sha l) (sha l) (sha_length l) (sha_length l)
  have h2 : (Op.equalIn 10000 46 (.agg (bs (sha l)).toArray) (.agg (bs (sha l)).toArray)).run Tryd.prog w = .ok (sha l == sha l) w := h
  simp only [binOp]
  simp [Op.equal, Op.maxDepth, h2]
theorem eqDigest_same (l : List UInt8) (w : World) : (binOp .eql 46 (.agg (bs (sha l)).toArray) (.agg (bs (sha l)).toArray)).run Tryd.prog w = .ok (.bool true) w := by
  rw [eqDigest w _ _ (sha_length l) (sha_length l)]; simp
end Go.Proofs.YthfpkdbhihcniaaDoor

/- append at a step of a region that draws its order. Nothing of the program. -/
namespace Go.Proofs.YthfpkdbhihcniaaDoor
open Go.ChangeShapes Go.WideShapes Go.ChangeAt Go.RowKit
section
variable {P : Program}

theorem cell_alloc0 (w : World) (u : Value) (e : Nat) : (w.alloc (.cells #[u] e)).cell? ⟨w.heap.size, 0, none⟩ = some u := by
  have h1 := World.cell?_alloc_mark w #[u] e (0, 0) 0
  rw [h1]; rfl
theorem cell_alloc0d (w : World) (u : Value) (e : Nat) : (w.alloc (.cells #[u] e)).drew.cell? ⟨w.heap.size, 0, none⟩ = some u := cell_alloc0 w u e

/-- the old cells of what was appended to are as they were -/
def Kept (w' : World) (v : Value) (xs : List Value) : Prop := ∀ g, v.ownBlock = some g → ∀ j u, xs[j]? = some u → w'.cell? ⟨g, j, none⟩ = some u
theorem kept_of {w w' : World} {base : Nat} {t ty e : TypeId} {i : TypeInfo} {z : Value} {size bytes : Nat} (ht : P.underlying t = some (.slice e)) (hi : P.info? e = some i) (hz : i.zero = some z) (hsize : i.size = size) (hby : i.bytes = bytes)
    {v : Value} {n : Nat} {xs : List Value} (hown : w.ownsRow base e size v n xs) {a : Addr} {m c : Nat} {news : List Value} (hl : news.length = m * size) (hnews : ∀ j u, news[j]? = some u → w.cell? (a.add j) = some u) (h1 : ∀ u ∈ news, u.oneCell' = true)
    (h63 : n + m ≤ maxLen) (hbytes : (n + m) * bytes ≤ 140737488355328) {v' : Value} (hrun : (Builtin.append_ #[t, t] ty #[v, .slice (some a) m c]).run P w = .ok v' w') (ho : w'.ownsRow base e size v' (n + m) (xs ++ news)) : Kept w' v xs := by
  subst hsize
  subst hby
  have hsmall : n + m ≤ 9223372036854775807 := by simp only [maxLen] at h63; omega
  intro g hg j u hu
  rcases hown.2 with ⟨rfl, rfl⟩ | ⟨g', cap, cur, rfl, hbg, hgg, hnc, hcm, hcs, htake⟩
  · cases hg
  · obtain rfl : g' = g := by simpa [Value.ownBlock] using hg
    by_cases hroom : n + m ≤ cap
    · have hfit : n * i.size + news.length ≤ cur.size := by rw [hl, hcs, ← Nat.add_mul]; exact Nat.mul_le_mul_right _ hroom
      have hr := run_append_room (P := P) w t ty e i ht hi g' n cap cur hgg a m c news hl hnews h1 hroom hfit
      rw [hrun] at hr
      injection hr with h1 h2
      subst h1
      have := World.ownsRow.cells ho (g := g') rfl j u (by rw [List.getElem?_append_left (List.getElem?_eq_some_iff.1 hu).1]; exact hu)
      rwa [Addr.add_lit, Nat.zero_add] at this
    · have hr := run_append_grow (P := P) w t ty e i z ht hi hz ⟨g', 0, none⟩ n cap xs hown.1 (hown.cells (g := g') rfl) a m c news hl hnews (by omega) (by omega) (growslice_fits (by omega) hbytes)
      rw [hrun] at hr
      injection hr with h1 h2
      subst h2
      have h3 := World.ownsRow.cells hown (g := g') rfl j u hu
      rw [Addr.add_lit, Nat.zero_add] at h3
      exact (Fr.non (Fr.drew w) (Fr.alloc _ _)).cell h3 (fun h => h)

theorem wp_app (w : World) {o : Oper} {a : Act} {K : Act → World → Prop} {Q : Exit → Act → World → Prop} (s x : Operand) (t : TypeId)
    (ho : o.op = .call { callee := .builtin .append, args := #[s, x], argTypes := #[t, t] })
    (base e : Nat) (i : TypeInfo) (z : Value) (size bytes : Nat) (ht : P.underlying t = some (.slice e)) (hi : P.info? e = some i ∧ i.zero = some z ∧ i.size = size ∧ i.bytes = bytes) (hzs : z.cells.size = size) (hsz : 0 < size)
    (v : Value) (n : Nat) (xs : List Value) (hs : a.eval s = v) (hown : w.ownsRow base e size v n xs)
    (ao : Option Addr) (m c : Nat) (news : List Value) (hx : a.eval x = .slice ao m c) (hl : news.length = m * size) (hnone : ao = none → m = 0 ∧ c = 0) (hnews : ∀ ad, ao = some ad → ∀ j u, news[j]? = some u → w.cell? (ad.add j) = some u) (h1 : ∀ u ∈ news, u.oneCell' = true)
    (hbytes : n + m ≤ maxLen ∧ (n + m) * bytes ≤ 140737488355328) (hbase : base ≤ w.heap.size)
    (h : ∀ v' w', w'.ownsRow base e size v' (n + m) (xs ++ news) → Fr (OwnOf v) w w' → Moved w v v' → Kept w' v xs → K (a.put o.dst v') w') : Oper.wp P o a w K Q := by
  obtain ⟨v', w', hr, h2, h3, h4, _⟩ := run_app (P := P) w base t o.type e i z size bytes ht hi.1 hi.2.1 hi.2.2.1 hi.2.2.2 hzs hsz v n xs hown ao m c news hl hnone hnews h1 hbytes.1 hbytes.2 hbase
  unfold Oper.wp execOp
  simp only [ho, resolve, invoke, builtin, Sem.run_bind, Sem.run_pure, Result.andThen_ok, List.map_toArray, List.map_cons, List.map_nil, hs, hx, hr]
  refine h v' w' h2 h3 h4 ?_
  cases ao with
  | some ad => exact kept_of (P := P) ht hi.1 hi.2.1 hi.2.2.1 hi.2.2.2 hown hl (hnews ad rfl) h1 hbytes.1 hbytes.2 hr h2
  | none =>
    obtain ⟨rfl, rfl⟩ := hnone rfl
    have hr2 := run_append_owned_none (P := P) (w := w) base t o.type e i size ht hi.1 v n xs hown
    rw [hr] at hr2
    injection hr2 with e1 e2
    subst e1 e2
    intro g hg j u hu
    rcases hown.2 with ⟨rfl, rfl⟩ | ⟨g', cap, cur, rfl, _⟩
    · cases hg
    · obtain rfl : g' = g := by simpa [Value.ownBlock] using hg
      have h3 := World.ownsRow.cells hown (g := g') rfl j u hu
      rwa [Addr.add_lit, Nat.zero_add] at h3

/-- 'append(v, u)' at a step, u one cell that lies in a block. -/
theorem step_push_w {w : World} {ops : Array Oper} {o : Oper} {a : Act} {K : Act → World → Prop} {Q : Exit → Act → World → Prop} {E : Prop} (hw : Region.wanted o (yielded ops a.tmps) = true) (s x : Operand) (t : TypeId)
    (ho : o.op = .call { callee := .builtin .append, args := #[s, x], argTypes := #[t, t] })
    (base e : Nat) (i : TypeInfo) (z : Value) (bytes : Nat) (ht : P.underlying t = some (.slice e)) (hi : P.info? e = some i ∧ i.zero = some z ∧ i.size = 1 ∧ i.bytes = bytes) (hzs : z.cells.size = 1)
    (v : Value) (xs : List Value) (hs : a.eval s = v) (hown : Own w base e v xs)
    (u : Value) (B : Nat) (hx : a.eval x = .slice (some ⟨B, 0, none⟩) 1 1) (hB : w.cell? ⟨B, 0, none⟩ = some u) (h1 : u.oneCell' = true)
    (hbytes : (xs.length + 1) * bytes ≤ 140737488355328 ∧ 0 < bytes) (hbase : base ≤ w.heap.size)
    (h : ∀ v' w', Own w' base e v' (xs ++ [u]) → Fr (OwnOf v) w w' → Moved w v v' → Kept w' v xs → K (a.put o.dst v') w') :
    if Region.wanted o (yielded ops a.tmps) = true then Oper.wp P o a w K Q else E := by
  rw [if_pos hw]
  have hb : xs.length + 1 ≤ 140737488355328 := Nat.le_trans (Nat.le_mul_of_pos_right _ hbytes.2) hbytes.1
  refine wp_app w s x t ho base e i z 1 bytes ht hi hzs (by decide) v xs.length xs hs hown (some ⟨B, 0, none⟩) 1 1 [u] hx rfl (by intro h; cases h) ?_ (by intro y hy; simp at hy; subst hy; exact h1)
    ⟨by unfold maxLen; omega, hbytes.1⟩ hbase (fun v' w' h2 h3 h4 h5 => h v' w' ?_ h3 h4 h5)
  · intro ad had j y hy
    cases had
    match j, hy with
    | 0, hy => simp at hy; subst hy; simpa [Addr.add, go_sem] using hB
  · show w'.ownsRow base e 1 v' (xs ++ [u]).length (xs ++ [u])
    simpa using h2
theorem step_push {w : World} {ops : Array Oper} {o : Oper} {a : Act} {K : Act → World → Prop} {Q : Exit → Act → World → Prop} {E : Prop} (hgd : o.guard = none) (s x : Operand) (t : TypeId)
    (ho : o.op = .call { callee := .builtin .append, args := #[s, x], argTypes := #[t, t] })
    (base e : Nat) (i : TypeInfo) (z : Value) (bytes : Nat) (ht : P.underlying t = some (.slice e)) (hi : P.info? e = some i ∧ i.zero = some z ∧ i.size = 1 ∧ i.bytes = bytes) (hzs : z.cells.size = 1)
    (v : Value) (xs : List Value) (hs : a.eval s = v) (hown : Own w base e v xs)
    (u : Value) (B : Nat) (hx : a.eval x = .slice (some ⟨B, 0, none⟩) 1 1) (hB : w.cell? ⟨B, 0, none⟩ = some u) (h1 : u.oneCell' = true)
    (hbytes : (xs.length + 1) * bytes ≤ 140737488355328 ∧ 0 < bytes) (hbase : base ≤ w.heap.size)
    (h : ∀ v' w', Own w' base e v' (xs ++ [u]) → Fr (OwnOf v) w w' → Moved w v v' → Kept w' v xs → K (a.put o.dst v') w') :
    if Region.wanted o (yielded ops a.tmps) = true then Oper.wp P o a w K Q else E := by
  exact step_push_w (by simp [Region.wanted, hgd]) s x t ho base e i z bytes ht hi hzs v xs hs hown u B hx hB h1 hbytes hbase h
/-- the one cell that a slice of a block's beginning reads -/
theorem _root_.Go.Proofs.YthfpkdbhihcniaaDoor.Row.cell0 {w : World} {g n c : Nat} {u : Value} {xs : List Value} (h : Row w (.slice (some ⟨g, 0, none⟩) n c) (u :: xs)) : w.cell? ⟨g, 0, none⟩ = some u := by
  obtain ⟨a', c', e, q1, q2, q3, q4⟩ := h
  obtain ⟨b', o', rfl, hc⟩ := q4 0 (by simp)
  injection e with e1 _ _
  injection e1 with e1
  injection e1 with e2 e3
  subst e2 e3
  have := hc 0 u rfl
  simpa using this
end
end Go.Proofs.YthfpkdbhihcniaaDoor

/- words as cells, and small things that several packages' walks share. Nothing of the program. -/
namespace Go.Proofs.YthfpkdbhihcniaaDoor
open Go.ChangeShapes Go.WideShapes Go.ChangeAt Go.RowKit

theorem retInt {k : IntKind} {a b : Int} (h : a = b) : Ending.returned (.int k a) = .returned (.int k b) := by rw [h]
theorem Fr.drewN (w : World) (n : Nat) : Fr Non w (w.drewN n) := ⟨rfl, rfl, rfl, Nat.le_refl _, fun _ _ _ => rfl⟩
/-- words as cells -/
def us (l : List Nat) : List Value := l.map fun x : Nat => .int .u32 (x : Int)
theorem us_length (l : List Nat) : (us l).length = l.length := by simp [us]
theorem us_append (l m : List Nat) : us (l ++ m) = us l ++ us m := by simp [us]
theorem us_at (l : List Nat) (i : Nat) (h : i < l.length) : (us l)[i]? = some (.int .u32 (l[i]! : Int)) := by simp [us, h]
theorem us_at? (l : List Nat) (i x : Nat) (h : l[i]? = some x) : (us l)[i]? = some (.int .u32 (x : Int)) := by simp [us, h]
theorem us_set (l : List Nat) (i x : Nat) : (us l).set i (.int .u32 (x : Int)) = us (l.set i x) := by simp [us, List.map_set]
theorem us_one (l : List Nat) : ∀ v ∈ us l, v.oneCell' = true := by
  intro v hv
  simp only [us, List.mem_map] at hv
  obtain ⟨c, _, rfl⟩ := hv
  rfl
theorem all_one {l : List Value} (h : ∀ v ∈ l, v.oneCell' = true) : (l.toArray.all fun v => v.oneCell') = true := by
  rw [Array.all_eq_true_iff_forall_mem]; intro v hv; exact h v (by simpa using hv)
theorem bs_snoc (l : List UInt8) (c : UInt8) : bs (l ++ [c]) = bs l ++ [.int .u8 (c.toNat : Int)] := by rw [bs_append]; rfl
theorem u8xor (a b : UInt8) : bits BinOp.xor IntKind.u8 (a.toNat : Int) (b.toNat : Int) = ((a ^^^ b).toNat : Int) := by
  rw [u8_xor_nat _ _ a.toNat_lt b.toNat_lt, UInt8.toNat_xor]
end Go.Proofs.YthfpkdbhihcniaaDoor

/- whole arrays that are loaded, stored, handed back. Nothing of the program. -/
namespace Go.Proofs.YthfpkdbhihcniaaDoor
open Go.ChangeShapes Go.WideShapes Go.ChangeAt Go.RowKit
section
variable {P : Program}
/-- 'd = y', y an array known whole -/
theorem wpList_put {w : World} {ops : Array Oper} {rest : List Oper} {o : Oper} {a : Act} {Q : Exit → Act → World → Prop} (hg : o.guard = none) (t : TypeId) (x y : Operand) (ho : o.op = .store t x y) (hd : o.dst = none)
    (R t2 : Nat) (zs ys : List Value) (hR : Blk w R t2 zs) (hl : zs.length = ys.length) (hi : (P.info? t).map (·.size) = some ys.length) (h1 : ∀ v ∈ ys, v.oneCell' = true) (hx : a.eval x = .pointer (some ⟨R, 0, none⟩)) (hy : a.eval y = .agg ys.toArray)
    (h : ∀ w', Blk w' R t2 ys → Fr (One R) w w' → w'.heap.size = w.heap.size → wpList P ops Q rest a w') : wpList P ops Q (o :: rest) a w := by
  refine wpList_store_mid hg t x y ho R 0 ys.toArray hx hy (by have := hR.there 0 ys.length (by omega); simpa using this) (by rw [List.size_toArray]; exact hi) (all_oneCell_toArray h1) ?_
  rw [hd]
  simp only [Act.put]
  have hb2 := Blk.setCells ys w zs 0 hR (by omega)
  rw [splice_all _ _ hl] at hb2
  exact h _ hb2 (Fr.setCells' R ys w 0) (size_setCells _ _ _ _)
/-- 'r = s', arrays both, s known whole -/
theorem wpList_whole {w : World} {ops : Array Oper} {rest : List Oper} {o1 o2 : Oper} {Q : Exit → Act → World → Prop} {l : List Value} {df : List Deferred} (g1 : o1.guard = none) (g2 : o2.guard = none) (t d : Nat) (x r : Operand) (ho1 : o1.op = .load t x) (hd1 : o1.dst = some d) (ho2 : o2.op = .store t r (.tmp d)) (hd2 : o2.dst = none)
    (B R t1 t2 : Nat) (ys zs : List Value) (hB : Blk w B t1 ys) (hR : Blk w R t2 zs) (hl : zs.length = ys.length) (dsc : TypeDesc) (hu : P.underlying t = some dsc) (hrow : dsc.isRow = true) (hi : (P.info? t).map (·.size) = some ys.length) (h1 : ∀ v ∈ ys, v.oneCell' = true)
    (hdl : d < l.length) (hx : Act.eval ⟨l.toArray, df⟩ x = .pointer (some ⟨B, 0, none⟩)) (hr : ∀ u, Act.eval ⟨(l.set d u).toArray, df⟩ r = .pointer (some ⟨R, 0, none⟩))
    (h : ∀ w', Blk w' R t2 ys → Fr (One R) w w' → w'.heap.size = w.heap.size → wpList P ops Q rest ⟨(l.set d (.agg ys.toArray)).toArray, df⟩ w') : wpList P ops Q (o1 :: o2 :: rest) ⟨l.toArray, df⟩ w := by
  refine wpList_load_mid g1 t x ho1 B 0 hx ys dsc (hB.range 0 _ (fun j v hv => by simpa using hv)) hu hrow hi ?_
  rw [hd1]
  simp only [Act.put, List.setIfInBounds_toArray]
  exact wpList_put g2 t r (.tmp d) ho2 hd2 R t2 zs ys hR hl hi h1 (hr _) (by simp [Act.eval, hdl]) h
theorem Blk.loadVar {w : World} {R t2 : Nat} {ys : List Value} (h : Blk w R t2 ys) (t : TypeId) (dsc : TypeDesc) (hu : P.underlying t = some dsc) (hrow : dsc.isRow = true) (hi : (P.info? t).map (·.size) = some ys.length) :
    (Go.loadVar t ⟨R, 0, none⟩).run P w = .ok (.agg ys.toArray) w :=
  run_loadVar_mid w R 0 t ys dsc (h.range 0 _ (fun j v hv => by simpa using hv)) hu hrow hi
end
end Go.Proofs.YthfpkdbhihcniaaDoor

/- package stream, plain: words that are laid one by one -/
namespace Go.Proofs.YthfpkdbhihcniaaDoor
/-- m of sixteen words are there -/
def fillTo (b : List Nat) (m : Nat) : List Nat := b.take m ++ List.replicate (16 - m) 0
theorem fillTo_length (b : List Nat) (hb : b.length = 16) (m : Nat) (hm : m ≤ 16) : (fillTo b m).length = 16 := by simp [fillTo]; omega
theorem fillTo_0 (b : List Nat) : fillTo b 0 = List.replicate 16 0 := by simp [fillTo]
theorem fillTo_16 (b : List Nat) (hb : b.length = 16) : fillTo b 16 = b := by simp [fillTo, List.take_of_length_le (Nat.le_of_eq hb)]
theorem fillTo_set (b : List Nat) (hb : b.length = 16) (m : Nat) (hm : m < 16) : (fillTo b m).set m b[m]! = fillTo b (m + 1) := by
  unfold fillTo
  rw [show 16 - m = (16 - (m + 1)) + 1 by omega, List.replicate_succ, List.set_append_right _ _ (by simp; omega), List.length_take, Nat.min_eq_left (by omega), Nat.sub_self, List.set_cons_zero, List.take_succ_eq_append_getElem (by omega), List.append_assoc, getElem!_pos b m (by omega)]
  rfl
theorem leWords_at (l : List UInt8) (k i : Nat) (h : i < k) : (leWords l k)[i]? = some (le4 l (4 * i)) := by
  induction k with
  | zero => omega
  | succ k ih =>
    have hl := leWords_length l k
    rw [leWords]
    by_cases hi : i < k
    · rw [List.getElem?_append_left (by omega)]; exact ih hi
    · obtain rfl : i = k := by omega
      rw [List.getElem?_append_right (by omega), hl, Nat.sub_self]
      rfl
theorem get!_of? {l : List Nat} {i x : Nat} (h : l[i]? = some x) : l[i]! = x := by
  obtain ⟨h1, h2⟩ := List.getElem?_eq_some_iff.1 h
  rw [getElem!_pos l i h1, h2]
theorem begun_start (key nonce : List UInt8) (count k : Nat) (h : k < 4) : (begun key nonce count)[k]! = streamStart[k]! := by
  have h4 : streamStart.length = 4 := rfl
  refine get!_of? ?_
  unfold begun
  rw [List.append_assoc, List.append_assoc, List.getElem?_append_left (by omega), List.getElem?_eq_getElem (by omega), getElem!_pos streamStart k (by omega)]
theorem begun_key (key nonce : List UInt8) (count k : Nat) (h : k < 8) : (begun key nonce count)[4 + k]! = le4 key (4 * k) := by
  have h4 : streamStart.length = 4 := rfl
  have h8 := leWords_length key 8
  refine get!_of? ?_
  unfold begun
  rw [List.append_assoc, List.append_assoc, List.getElem?_append_right (by omega), List.getElem?_append_left (by omega), h4, Nat.add_sub_cancel_left]
  exact leWords_at key 8 k h
theorem begun_count (key nonce : List UInt8) (count : Nat) : (begun key nonce count)[12]! = count := by
  have h4 : streamStart.length = 4 := rfl
  have h8 := leWords_length key 8
  refine get!_of? ?_
  unfold begun
  rw [List.append_assoc, List.append_assoc, List.getElem?_append_right (by omega), List.getElem?_append_right (by omega), h4, h8]
  rfl
theorem begun_nonce (key nonce : List UInt8) (count k : Nat) (h : k < 3) : (begun key nonce count)[13 + k]! = le4 nonce (4 * k) := by
  have h4 : streamStart.length = 4 := rfl
  have h8 := leWords_length key 8
  have h3 := leWords_at nonce 3 k h
  refine get!_of? ?_
  unfold begun
  rw [List.append_assoc, List.append_assoc, List.getElem?_append_right (by omega), List.getElem?_append_right (by omega), h4, h8, List.getElem?_append_right (by simp; omega), ← h3]
  congr 1
  simp; omega
theorem plusTo_16 (y x : List Nat) (j : Nat) (h : j < 16) : (plusTo y x 16)[j]! = (y[j]! + x[j]!) % 4294967296 := by
  refine get!_of? ?_
  unfold plusTo
  rw [List.getElem?_append_left (by simpa using h), List.getElem?_map, List.getElem?_range h]
  rfl
theorem wordByte_nat (y : List Nat) (i : Nat) : (wordByte y i).toNat = y[i / 4]! / 2 ^ (8 * (i % 4)) % 256 := by
  unfold wordByte
  simp
end Go.Proofs.YthfpkdbhihcniaaDoor

/- a literal of parts of several cells each; a guard that is met. Nothing of the program. -/
namespace Go.Proofs.YthfpkdbhihcniaaDoor
open Go.ChangeShapes Go.WideShapes Go.ChangeAt Go.RowKit
theorem fold_set : ∀ (X : List Value) (k o : Nat) (L : List Value), o + k + X.length ≤ L.length → (X.zipIdx k).foldl (fun (cs : Array Value) (p : Value × Nat) => cs.setIfInBounds (o + p.2) p.1) L.toArray = (splice L (o + k) X).toArray
  | [], k, o, L, _ => by simp [splice]
  | x :: X, k, o, L, h => by
    simp only [List.length_cons] at h
    have ih := fold_set X (k + 1) o (L.set (o + k) x) (by simp; omega)
    rw [List.zipIdx_cons, List.foldl_cons, List.setIfInBounds_toArray, ih, ← Nat.add_assoc, splice_cons L (o + k) x X (by simp; omega)]
theorem fill_one (place : Nat → Option (Nat × Nat)) (L : List Value) (i o n : Nat) (X : List Value) (rest : List (Nat × Value)) (hp : place i = some (o, n)) (hn : X.length = n) (hL : o + n ≤ L.length) :
    Instr.fill place L.toArray ((i, .agg X.toArray) :: rest) = Instr.fill place (splice L o X).toArray rest := by
  have h := fold_set X 0 o L (by omega)
  rw [Instr.fill, hp]
  simp only [Value.cells, List.size_toArray]
  rw [if_neg (by simp; omega), ← Array.foldl_toList, Array.toList_zipIdx]
  rw [Nat.add_zero] at h
  rw [← h]
theorem splice_two {α : Type} (L X Y : List α) (h : L.length = X.length + Y.length) : splice (splice L 0 X) X.length Y = X ++ Y := by
  unfold splice
  rw [List.take_zero, List.nil_append, Nat.zero_add, List.take_left, List.drop_of_length_le (by simp; omega), List.append_nil]
section
variable {P : Program}
theorem built_two {t : TypeId} {it : TypeInfo} {fs : Array Field} {Z : List Value} {n m : Nat} (hit : P.info? t = some it) (hz : it.zero = some (.agg Z.toArray)) (hu : P.underlying t = some (.struct fs))
    (hpl : fs.toList.mapM (fun f => (P.info? f.type).map fun i => (f.offset, i.size)) = some [(0, n), (n, m)]) (X Y : List Value) (hX : X.length = n) (hY : Y.length = m) (hZ : Z.length = n + m) :
    P.built t [(0, .agg X.toArray), (1, .agg Y.toArray)] = some (X ++ Y).toArray := by
  unfold Program.built
  rw [hit, hu]
  simp only [hz, hpl, Value.cells]
  rw [fill_one _ Z 0 0 n X _ rfl hX (by omega), fill_one _ _ 1 n m Y _ rfl hY (by simp [splice]; omega)]
  subst hX
  rw [splice_two Z X Y (by omega)]
  rfl
theorem exec_build {o : Oper} {ρ : Operand → Value} (t : TypeId) (parts : List (Nat × Operand)) (ho : o.op = .build t parts.toArray) (vals : List (Nat × Value)) (cells : Array Value) (hb : P.built t vals = some cells) (hv : parts.map (fun p => (p.1, ρ p.2)) = vals) (w : World) :
    (execOp ρ o).run P w = .ok (.value (.agg cells)) w := by
  have h := run_build (P := P) w t (parts.map (fun p => (p.1, ρ p.2))).toArray cells (by rw [hv]; exact hb)
  unfold execOp
  simp [ho]
  rw [show (parts.map fun p => (p.1, ρ p.2)).toArray = (parts.map fun p => (p.1, ρ p.2)).toArray from rfl]
  simp [h]
theorem wpList_unguard {ops : Array Oper} {rest : List Oper} {a : Act} {w : World} {Q : Exit → Act → World → Prop} {d : Option Tmp} {op : Op} {ty : TypeId} {pos : String} {aft : Array Edge} {g : Nat × Bool}
    (hw : Region.wanted ⟨d, op, ty, pos, aft, some g⟩ (yielded ops a.tmps) = true) (h : wpList P ops Q (⟨d, op, ty, pos, aft, none⟩ :: rest) a w) : wpList P ops Q (⟨d, op, ty, pos, aft, some g⟩ :: rest) a w := by
  have h2 : Region.wanted ⟨d, op, ty, pos, aft, none⟩ (yielded ops a.tmps) = true := rfl
  simp only [wpList, hw, h2] at h ⊢
  exact h
end
end Go.Proofs.YthfpkdbhihcniaaDoor

/- a drawn region taken operation by operation, by hand. Nothing of the program. -/
namespace Go.Proofs.YthfpkdbhihcniaaDoor
open Go.ChangeShapes Go.WideShapes Go.ChangeAt Go.RowKit
section
variable {P : Program} {md : Region.Mode} {ops : Array Oper} {Q : Exit → Act → World → Prop} {S : World → Prop}
theorem wpAnyH_takeL {i : Nat} {oi : Oper} (d : Nat) {v : Value} {fuel : Nat} {listed : Array Bool} {l : List Value} {df : List Deferred} {w : World} (hi : ops[i]? = some oi) (hd : oi.dst = some d)
    (hs : Region.noSelect ops = true) (hf : Region.free md ops listed i = true) (hr : (Region.ready md ops listed).contains i = true)
    (hQ : ∀ c a w, Q (.panic c) (a.put oi.dst v) w → Q (.panic c) a w) (hS : S w) (hy : YieldsIf P ops S oi v ⟨l.toArray, df⟩)
    (h : wpAnyH P md ops Q S fuel (listed.setIfInBounds i true) ⟨(l.set d v).toArray, df⟩ w) : wpAnyH P md ops Q S (fuel + 1) listed ⟨l.toArray, df⟩ w := by
  refine wpAnyH_take hi hs hf hr hQ hy hS ?_
  rw [hd]
  simpa only [Act.put, List.setIfInBounds_toArray] using h
end
end Go.Proofs.YthfpkdbhihcniaaDoor

/- package-level tables of numbers that the row lists: what the condition gives the walks. Nothing of the program. -/
namespace Go.Proofs.YthfpkdbhihcniaaDoor
open Go.ChangeShapes Go.WideShapes Go.ChangeAt Go.RowKit
section
variable {P : Program} {W : World}

/-- a table of numbers reads as its cells -/
theorem laid_cells {enc : TypeId × Value → Unit} {sp : Nat → Bool} {held : Bool} {t e : TypeId} {n fuel : Nat} {k : IntKind} {zs : List Int} {cs : List Value} {pl : List MemPlace}
    (ht : P.underlying t = some (.array n e)) (he : P.underlying e = some (.int k)) (hc : P.cellsOf e = 1)
    (h : DataW.trod enc P W 0 sp held fuel t cs = some (.agg (zs.map fun z => .lit (.int k z)), pl)) :
    ∀ (i : Nat) (z : Int), zs[i]? = some z → cs[i]? = some (.int k z) := by
  obtain ⟨xs, m, rfl, hx, _, hn, hel⟩ := DataW.trod_array ht h
  intro i z hi
  injection hx with h1 _
  injection h1 with h1
  have hlen : xs.length = zs.length := by have := congrArg List.length h1; simpa using this.symm
  have hil := (List.getElem?_eq_some_iff.1 hi).1
  have h2 := hel i (by omega)
  have hxi : xs[i]? = some (xs[i]'(by omega)) := List.getElem?_eq_getElem _
  rw [hxi, hc] at h2
  obtain ⟨q, e1, e2, _⟩ := DataW.trod_int he h2
  have h3 : (zs.map fun z => DataW.lit (H := Unit) (Lit.int k z))[i]? = (xs.map (·.1))[i]? := by rw [h1]
  rw [List.getElem?_map, List.getElem?_map, hi, hxi, e2] at h3
  simp at h3
  subst h3
  rw [Nat.mul_one] at e1
  have h4 : ((cs.drop i).take 1)[0]? = some (Value.int k z) := by rw [e1]; rfl
  rw [List.getElem?_take_of_lt (by omega), List.getElem?_drop] at h4
  simpa using h4

theorem laid_cons {name : String} {d : DataW Unit} {rest : List (String × DataW Unit)} {ps : List MemPlace} (h : DataW.LaidVars P W ((name, d) :: rest) ps) : (∃ qs, DataW.LaidVars P W rest qs) ∧
    ∀ {g t n e : Nat} {k : IntKind} {zs : List Int} (_ : d = .agg (zs.map fun z => .lit (.int k z))) (_ : P.globalNamed name = some g) (_ : (P.globals[g]?).map (·.type) = some t) (_ : P.underlying t = some (.array n e)) (_ : P.underlying e = some (.int k)) (_ : P.cellsOf e = 1),
      ∀ (i : Nat) (z : Int), zs[i]? = some z → W.cell? ⟨g, i, none⟩ = some (.int k z) := by
  obtain ⟨g0, t0, cs0, f0, p0, q0, hg0, ht0, hv0, hd0, hr, _⟩ := h
  refine ⟨⟨_, hr⟩, ?_⟩
  intro g t n e k zs hd hg ht hu he hc i z hi
  subst hd
  obtain rfl := Option.some.inj (hg.symm.trans hg0)
  obtain rfl := Option.some.inj (ht.symm.trans ht0)
  rw [World.var?_cell hg0 hv0 i]
  have := laid_cells hu he hc hd0 i z hi
  simpa using this
end
end Go.Proofs.YthfpkdbhihcniaaDoor

/- Arguments opened into rows: the frame of a law's proof stands on these. Nothing of the program. -/
namespace Go.Proofs.YthfpkdbhihcniaaDoor
open Go.ChangeShapes Go.WideShapes Go.ChangeAt Go.RowKit

theorem laidOut : laidOutB Tryd.prog = true := by kernel_rfl
theorem ownKn : ownKnob Tryd.prog.godebug = none := by kernel_rfl

section
variable {P : Program} {H : Type} {enc : TypeId × Value → H} {W : World}

theorem row_of {a : Addr} {len cap : Nat} {us : List Value} (hl : len ≤ cap) (hm : cap ≤ maxLen) (hu : us.length = cap) (hc : ∀ i, i < us.length → W.cell? (a.add i) = us[i]?) : Row W (.slice (some a) len cap) (us.take len) := by
  have hlen : (us.take len).length = len := by simp; omega
  refine ⟨some a, cap, by rw [hlen], by rw [hlen]; exact hl, hm, (by intro h; cases h), fun j hj => ?_⟩
  obtain ⟨b, off, spot⟩ := a
  have hspot : spot = none := by
    have h0 := hc 0 (by omega)
    rw [List.getElem?_eq_getElem (by omega)] at h0
    simpa [Addr.add] using World.cell?_spot h0
  subst hspot
  refine ⟨b, off, rfl, fun i u hi => ?_⟩
  have hil := (List.getElem?_eq_some_iff.1 hi).1
  rw [hlen] at hil
  rw [List.getElem?_take_of_lt hil] at hi
  rw [← Addr.add_lit, hc i (by omega)]
  exact hi

/-- a slice of integers that came in reads as a list -/
theorem open_rowInts {t e : TypeId} {k : IntKind} {v : Value} {d : DataW H} {p : List MemPlace} (ht : P.underlying t = some (.slice e)) (he : P.underlying e = some (.int k)) (hc : P.cellsOf e = 1)
    (hv : ∃ a len cap, v = .slice a len cap) (h : DataW.Trod enc P W 0 (fun _ => true) true t v d p) :
    ∃ zs : List Int, Row W v (zs.map (Value.int k)) ∧ (∀ z ∈ zs, (Lit.int k z).wf = true) ∧ ((d = .nil ∧ zs = []) ∨ ∃ spare, d = .slice (lits k zs) spare) := by
  obtain ⟨a, len, cap, rfl⟩ := hv
  obtain ⟨fuel, hf⟩ := h
  rcases open_ints ht he hc hf with ⟨hcs, hx⟩ | ⟨x, l, c, zs, hcs, _, hl, hm, hz, hx, hcell, hwz⟩
  · simp [Value.cells] at hcs
    obtain ⟨rfl, rfl, rfl⟩ := hcs
    injection hx with hx1 hx2
    exact ⟨[], ⟨none, 0, rfl, Nat.le_refl _, Nat.zero_le _, fun _ => rfl, fun j hj => absurd hj (by simp)⟩, by simp, .inl ⟨hx1, rfl⟩⟩
  · simp [Value.cells] at hcs
    obtain ⟨rfl, rfl, rfl⟩ := hcs
    injection hx with hx1 hx2
    have hz' : zs.length = cap := by simpa using hz
    refine ⟨zs.take len, ?_, fun z hz => hwz z (List.mem_of_mem_take hz), .inr ⟨_, hx1⟩⟩
    rw [List.map_take]
    refine row_of hl hm (by simpa using hz') (fun i hi => ?_)
    have hi' : i < zs.length := by simpa using hi
    rw [hcell i hi']
    simp [List.getD, hi']

theorem bytes_of_wf (zs : List Int) (h : ∀ z ∈ zs, (Lit.int .u8 z).wf = true) : zs.map (Value.int .u8) = bs (zs.map fun z => UInt8.ofNat z.toNat) := by
  unfold bs
  rw [List.map_map]
  refine List.map_congr_left fun z hz => ?_
  have hw := h z hz
  have e1 : IntKind.u8.min = 0 := by decide
  have e2 : IntKind.u8.max = 255 := by decide
  simp only [Lit.wf, Bool.and_eq_true, decide_eq_true_eq, e1, e2] at hw
  show Value.int .u8 z = Value.int .u8 ((UInt8.ofNat z.toNat).toNat : Int)
  rw [UInt8.toNat_ofNat', Nat.mod_eq_of_lt (by omega)]
  congr 1
  omega

theorem open_rowBytes {t e : TypeId} {v : Value} {d : DataW H} {p : List MemPlace} (ht : P.underlying t = some (.slice e)) (he : P.underlying e = some (.int .u8)) (hc : P.cellsOf e = 1)
    (hv : ∃ a len cap, v = .slice a len cap) (h : DataW.Trod enc P W 0 (fun _ => true) true t v d p) :
    ∃ l : List UInt8, Row W v (bs l) ∧ ((d = .nil ∧ l = []) ∨ ∃ elems spare, d = .slice elems spare ∧ elems.length = l.length) := by
  obtain ⟨zs, h1, h2, h3⟩ := open_rowInts ht he hc hv h
  rw [bytes_of_wf zs h2] at h1
  refine ⟨_, h1, ?_⟩
  rcases h3 with ⟨h4, rfl⟩ | ⟨spare, h4⟩
  · exact .inl ⟨h4, rfl⟩
  · exact .inr ⟨_, spare, h4, by simp [lits]⟩

/-- a slice of texts that came in -/
theorem open_rowStrs {t e : TypeId} {v : Value} {d : DataW H} {p : List MemPlace} (ht : P.underlying t = some (.slice e)) (he : P.underlying e = some .string) (hc : P.cellsOf e = 1)
    (hv : ∃ a len cap, v = .slice a len cap) (h : DataW.Trod enc P W 0 (fun _ => true) true t v d p) :
    ∃ ss : List ByteArray, Row W v (ss.map Value.string) ∧ (∀ s ∈ ss, s.size ≤ maxLen) ∧ ((d = .nil ∧ ss = []) ∨ ∃ spare, d = .slice (strs ss) spare) := by
  obtain ⟨a, len, cap, rfl⟩ := hv
  obtain ⟨fuel, hf⟩ := h
  rcases open_strings ht he hc hf with ⟨hcs, hx⟩ | ⟨x, l, c, ss, hcs, _, hl, hm, hz, hx, hcell, hwz⟩
  · simp [Value.cells] at hcs
    obtain ⟨rfl, rfl, rfl⟩ := hcs
    injection hx with hx1 hx2
    exact ⟨[], ⟨none, 0, rfl, Nat.le_refl _, Nat.zero_le _, fun _ => rfl, fun j hj => absurd hj (by simp)⟩, by simp, .inl ⟨hx1, rfl⟩⟩
  · simp [Value.cells] at hcs
    obtain ⟨rfl, rfl, rfl⟩ := hcs
    injection hx with hx1 hx2
    have hz' : ss.length = cap := by simpa using hz
    refine ⟨ss.take len, ?_, fun z hz => hwz z (List.mem_of_mem_take hz), .inr ⟨_, hx1⟩⟩
    rw [List.map_take]
    refine row_of hl hm (by simpa using hz') (fun i hi => ?_)
    have hi' : i < ss.length := by simpa using hi
    rw [hcell i hi']
    simp [List.getD, hi']

theorem nat_of_wf {k : IntKind} {z : Int} (h : (Lit.int k z).wf = true) (hk : k.min = 0) : ∃ n : Nat, z = (n : Int) ∧ (n : Int) ≤ k.max := by
  simp only [Lit.wf, Bool.and_eq_true, decide_eq_true_eq, hk] at h
  exact ⟨z.toNat, by omega, by omega⟩
theorem int_of_wf {k : IntKind} {z : Int} (h : (Lit.int k z).wf = true) : k.min ≤ z ∧ z ≤ k.max := by
  simpa only [Lit.wf, Bool.and_eq_true, decide_eq_true_eq] using h
theorem cap_of_sized {ts : List TypeId} {ds : List (DataW H)} (h : (DataW.weightsEach P ts ds).all (· ≤ reachBytes) = true) {j : Nat} {t e : TypeId} {d : DataW H} {n : Nat} (ht : ts[j]? = some t) (hd : ds[j]? = some d) (hu : P.underlying t = some (.slice e))
    (hn : (d = .nil ∧ n = 0) ∨ ∃ elems spare, d = .slice elems spare ∧ elems.length = n) : n * P.bytesOf e ≤ 140737488351232 := by
  rcases hn with ⟨_, rfl⟩ | ⟨elems, spare, rfl, rfl⟩
  · simp
  · have := sized_slice h ht hd hu
    rw [Nat.add_mul] at this
    have hr : reachBytes = 140737488351232 := by decide
    omega
end
end Go.Proofs.YthfpkdbhihcniaaDoor

/- what the bound on a reading's bulk says of its parts -/
namespace Go.Proofs.YthfpkdbhihcniaaDoor.bulks

theorem pos {H : Type} : ∀ d : DataW H, 0 < Rows.uptoBulk d
  | .lit l => by cases l <;> simp [Rows.uptoBulk]
  | .nil => by simp [Rows.uptoBulk]
  | .ptr _ => by simp [Rows.uptoBulk]
  | .slice _ _ => by simp [Rows.uptoBulk]
  | .agg _ => by simp [Rows.uptoBulk]
  | .iface _ _ => by simp [Rows.uptoBulk]
  | .map _ => by simp [Rows.uptoBulk]
  | .held _ => by simp [Rows.uptoBulk]

theorem part_le {H : Type} {d : DataW H} : ∀ {l : List (DataW H)}, d ∈ l → Rows.uptoBulk d ≤ Rows.uptoBulkAll l
  | [], h => by cases h
  | x :: r, h => by
    simp only [Rows.uptoBulkAll]
    rcases List.mem_cons.1 h with rfl | h
    · exact Nat.le_add_right _ _
    · exact Nat.le_trans (part_le h) (Nat.le_add_left _ _)

theorem length_le {H : Type} : ∀ l : List (DataW H), l.length ≤ Rows.uptoBulkAll l
  | [] => Nat.zero_le _
  | x :: r => by
    have h1 := pos x
    have h2 := length_le r
    simp only [Rows.uptoBulkAll, List.length_cons]
    omega

theorem slice_le {H : Type} (elems spare : List (DataW H)) : elems.length + 1 ≤ Rows.uptoBulk (.slice elems spare) := by
  have h1 := length_le elems
  simp only [Rows.uptoBulk]
  omega
theorem slice_elems {H : Type} (elems spare : List (DataW H)) : Rows.uptoBulkAll elems + 1 ≤ Rows.uptoBulk (.slice elems spare) := by
  simp only [Rows.uptoBulk]
  omega
theorem string_eq {H : Type} (b : List UInt8) : Rows.uptoBulk (DataW.lit (H := H) (.string b)) = b.length + 1 := by simp [Rows.uptoBulk]
theorem agg_part {H : Type} {d : DataW H} {parts : List (DataW H)} (h : d ∈ parts) : Rows.uptoBulk d ≤ Rows.uptoBulk (.agg parts) := by
  have h1 := part_le h
  simp only [Rows.uptoBulk]
  omega
end Go.Proofs.YthfpkdbhihcniaaDoor.bulks

/- arrays of numbers that came in. Nothing of the program. -/
namespace Go.Proofs.YthfpkdbhihcniaaDoor
open Go.ChangeShapes Go.WideShapes Go.ChangeAt Go.RowKit
section
variable {P : Program} {H : Type} {enc : TypeId × Value → H} {W : World}
theorem okWide_array {n : Nat} {e t : TypeId} {w : World} {r : Reach} {base : Nat} {v : Value} (ht : P.underlying t = some (.array n e)) (h : Value.okWide P w r base t v) : ∃ cs, v = .agg cs ∧ cs.size = P.cellsOf t := by
  unfold Value.okWide at h
  rw [ht] at h
  cases v <;> simp_all
/-- an array of integers that came in -/
theorem open_arrInts {t e : TypeId} {n : Nat} {k : IntKind} {v : Value} {d : DataW H} {p : List MemPlace} (ht : P.underlying t = some (.array n e)) (he : P.underlying e = some (.int k)) (hc : P.cellsOf e = 1)
    (hv : ∃ cs, v = .agg cs ∧ cs.size = P.cellsOf t) (hn : P.cellsOf t = n) (h : DataW.Trod enc P W 0 (fun _ => true) true t v d p) :
    ∃ zs : List Int, v = .agg (zs.map (Value.int k)).toArray ∧ zs.length = n ∧ (∀ z ∈ zs, (Lit.int k z).wf = true) := by
  obtain ⟨cs, rfl, hs⟩ := hv
  obtain ⟨fuel, hf⟩ := h
  obtain ⟨xs, m, rfl, hx, hl, hxn, hel⟩ := DataW.trod_array ht hf
  simp only [Value.cells] at hl hel
  have hcs : ∀ i, i < n → ∃ z, cs.toList[i]? = some (.int k z) ∧ (Lit.int k z).wf = true := fun i hi => by
    have h2 := hel i hi
    have hxi : xs[i]? = some (xs[i]'(by omega)) := List.getElem?_eq_getElem _
    rw [hxi, hc] at h2
    obtain ⟨q, e1, e2, e3⟩ := DataW.trod_int he h2
    refine ⟨q, ?_, e3⟩
    rw [Nat.mul_one] at e1
    have h4 : ((cs.toList.drop i).take 1)[0]? = some (Value.int k q) := by rw [e1]; rfl
    rw [List.getElem?_take_of_lt (by omega), List.getElem?_drop] at h4
    simpa using h4
  let f : Value → Int := fun v => match v with | .int _ z => z | _ => 0
  have hlen : cs.toList.length = n := by rw [hl, hn]
  refine ⟨cs.toList.map f, ?_, by simpa using hlen, fun z hz => ?_⟩
  · congr 1
    apply Array.ext'
    simp only [List.map_map]
    apply List.ext_getElem?
    intro i
    by_cases hi : i < n
    · obtain ⟨z, h1, _⟩ := hcs i hi
      rw [h1, List.getElem?_map, h1]
      rfl
    · rw [List.getElem?_eq_none (by omega), List.getElem?_eq_none (by simp only [List.length_map]; omega)]
  · obtain ⟨u, hu, rfl⟩ := List.mem_map.1 hz
    obtain ⟨i, hi⟩ := List.mem_iff_getElem?.1 hu
    have hi2 : i < n := by have := (List.getElem?_eq_some_iff.1 hi).1; omega
    obtain ⟨z, h1, h2⟩ := hcs i hi2
    rw [hi] at h1
    cases h1
    exact h2
theorem open_arrBytes {t e : TypeId} {n : Nat} {v : Value} {d : DataW H} {p : List MemPlace} (ht : P.underlying t = some (.array n e)) (he : P.underlying e = some (.int .u8)) (hc : P.cellsOf e = 1)
    (hv : ∃ cs, v = .agg cs ∧ cs.size = P.cellsOf t) (hn : P.cellsOf t = n) (h : DataW.Trod enc P W 0 (fun _ => true) true t v d p) :
    ∃ l : List UInt8, v = .agg (bs l).toArray ∧ l.length = n := by
  obtain ⟨zs, rfl, h1, h2⟩ := open_arrInts ht he hc hv hn h
  exact ⟨_, by rw [bytes_of_wf zs h2], by simpa using h1⟩
end
end Go.Proofs.YthfpkdbhihcniaaDoor

/- a struct of two arrays of bytes and a number that came in. Nothing of the program. -/
namespace Go.Proofs.YthfpkdbhihcniaaDoor
open Go.ChangeShapes Go.WideShapes Go.ChangeAt Go.RowKit
section
variable {P : Program} {H : Type} {enc : TypeId × Value → H} {W : World}
theorem open_two {t e : TypeId} {f0 f1 f2 : Field} {n m : Nat} {k : IntKind} {v : Value} {d : DataW H} {p : List MemPlace} (ht : P.underlying t = some (.struct #[f0, f1, f2])) (o0 : f0.offset = 0) (o1 : f1.offset = n) (o2 : f2.offset = n + m)
    (u0 : P.underlying f0.type = some (.array n e)) (u1 : P.underlying f1.type = some (.array m e)) (u2 : P.underlying f2.type = some (.int k)) (he : P.underlying e = some (.int .u8)) (hc : P.cellsOf e = 1) (c0 : P.cellsOf f0.type = n) (c1 : P.cellsOf f1.type = m) (c2 : P.cellsOf f2.type = 1) (ct : P.cellsOf t = n + m + 1)
    (hv : ∃ cs, v = .agg cs ∧ cs.size = P.cellsOf t) (h : DataW.Trod enc P W 0 (fun _ => true) true t v d p) :
    ∃ (l0 l1 : List UInt8) (z : Int), v = .agg (bs l0 ++ bs l1 ++ [Value.int k z]).toArray ∧ l0.length = n ∧ l1.length = m ∧ (Lit.int k z).wf = true := by
  obtain ⟨cs, rfl, hs⟩ := hv
  obtain ⟨fuel, hf⟩ := h
  obtain ⟨y0, y1, y2, q, _, hl, h0, h1, h2⟩ := Go.Deep.trod_struct3 ht hf
  simp only [Value.cells] at hl h0 h1 h2
  rw [o0, c0, List.drop_zero] at h0
  rw [o1, c1] at h1
  rw [o2, c2] at h2
  have hlen : cs.toList.length = n + m + 1 := by rw [hl, ct]
  obtain ⟨l0, e0, n0⟩ := open_arrBytes (v := .agg (cs.toList.take n).toArray) (d := y0.1) (p := y0.2) u0 he hc ⟨_, rfl, by rw [c0]; simp at hlen ⊢; omega⟩ c0 ⟨q, by simpa [Value.cells] using h0⟩
  obtain ⟨l1, e1, n1⟩ := open_arrBytes (v := .agg ((cs.toList.drop n).take m).toArray) (d := y1.1) (p := y1.2) u1 he hc ⟨_, rfl, by rw [c1]; simp at hlen ⊢; omega⟩ c1 ⟨q, by simpa [Value.cells] using h1⟩
  obtain ⟨z, e2, _, wz⟩ := DataW.trod_int u2 h2
  injection e0 with e0
  injection e1 with e1
  have e0' : cs.toList.take n = bs l0 := by simpa using congrArg Array.toList e0
  have e1' : (cs.toList.drop n).take m = bs l1 := by simpa using congrArg Array.toList e1
  refine ⟨l0, l1, z, ?_, n0, n1, wz⟩
  congr 1
  apply Array.ext'
  rw [List.toList_toArray, ← e0', ← e1', ← e2]
  have h3 : (cs.toList.drop (n + m)).take 1 = cs.toList.drop (n + m) := List.take_of_length_le (by rw [List.length_drop]; omega)
  rw [h3, ← List.drop_drop, List.append_assoc, List.take_append_drop, List.take_append_drop]
end
end Go.Proofs.YthfpkdbhihcniaaDoor

/- a struct of a key, a nonce and a slice of bytes that came in. Nothing of the program. -/
namespace Go.Proofs.YthfpkdbhihcniaaDoor
open Go.ChangeShapes Go.WideShapes Go.ChangeAt Go.RowKit
section
variable {P : Program} {H : Type} {enc : TypeId × Value → H} {W : World}
theorem sized_parts {ts : List TypeId} {ds parts : List (DataW H)} (h : (DataW.weightsEach P ts ds).all (· ≤ reachBytes) = true) {j : Nat} {t : TypeId} {fs : Array Field} (ht : ts[j]? = some t) (hd : ds[j]? = some (.agg parts)) (hu : P.underlying t = some (.struct fs)) :
    (DataW.weightsEach P (fs.toList.map (·.type)) parts).all (· ≤ reachBytes) = true := by
  rw [List.all_eq_true]
  intro n hn
  exact List.all_eq_true.1 h _ (DataW.weights_mem_each ht hd n (by simp only [DataW.weights, hu]; exact hn))
theorem cell_slice {t e : TypeId} {cs : List Value} {y : DataW H × List MemPlace} {fuel : Nat} (ht : P.underlying t = some (.slice e)) (he : P.underlying e = some (.int .u8)) (hc : P.cellsOf e = 1) (h : DataW.trod enc P W 0 (fun _ => true) true fuel t cs = some y) :
    ∃ a len cap, cs = [.slice a len cap] := by
  rcases open_ints ht he hc h with ⟨hcs, hx⟩ | ⟨x, l, c, zs, hcs, _⟩
  · exact ⟨_, _, _, hcs⟩
  · exact ⟨_, _, _, hcs⟩
theorem open_with {t e : TypeId} {f0 f1 f2 g0 g1 : Field} {v : Value} {d : DataW H} {p : List MemPlace} (ht : P.underlying t = some (.struct #[f0, f1, f2])) (o0 : f0.offset = 0) (o1 : f1.offset = 64) (o2 : f2.offset = 76)
    (u0 : P.underlying f0.type = some (.struct #[g0, g1])) (p0 : g0.offset = 0) (p1 : g1.offset = 32) (v0 : P.underlying g0.type = some (.array 32 e)) (v1 : P.underlying g1.type = some (.array 32 e)) (u1 : P.underlying f1.type = some (.array 12 e)) (u2 : P.underlying f2.type = some (.slice e))
    (he : P.underlying e = some (.int .u8)) (hc : P.cellsOf e = 1) (c0 : P.cellsOf f0.type = 64) (d0 : P.cellsOf g0.type = 32) (d1 : P.cellsOf g1.type = 32) (c1 : P.cellsOf f1.type = 12) (c2 : P.cellsOf f2.type = 1) (ct : P.cellsOf t = 77)
    (hv : ∃ cs, v = .agg cs ∧ cs.size = P.cellsOf t) (h : DataW.Trod enc P W 0 (fun _ => true) true t v d p) :
    ∃ (k0 k1 no l : List UInt8) (a : Value) (y0 y1 y2 : DataW H), v = .agg (bs k0 ++ bs k1 ++ bs no ++ [a]).toArray ∧ k0.length = 32 ∧ k1.length = 32 ∧ no.length = 12 ∧ Row W a (bs l) ∧ d = .agg [y0, y1, y2] ∧
      ((y2 = .nil ∧ l.length = 0) ∨ ∃ elems spare, y2 = .slice elems spare ∧ elems.length = l.length) := by
  obtain ⟨cs, rfl, hs⟩ := hv
  obtain ⟨fuel, hf⟩ := h
  obtain ⟨y0, y1, y2, q, hd, hl, h0, h1, h2⟩ := Go.Deep.trod_struct3 ht hf
  simp only [Value.cells] at hl h0 h1 h2
  rw [o0, c0, List.drop_zero] at h0
  rw [o1, c1] at h1
  rw [o2, c2] at h2
  have hlen : cs.toList.length = 77 := by rw [hl, ct]
  obtain ⟨z0, z1, r, _, _, j0, j1⟩ := trod_struct2 u0 h0
  rw [p0, d0, List.drop_zero] at j0
  rw [p1, d1] at j1
  have L0 : ((cs.toList.take 64).take 32).length = 32 := by simp at hlen ⊢; omega
  have L1 : (((cs.toList.take 64).drop 32).take 32).length = 32 := by simp at hlen ⊢; omega
  have L2 : ((cs.toList.drop 64).take 12).length = 12 := by simp at hlen ⊢; omega
  obtain ⟨l0, e0, n0⟩ := open_arrBytes (v := .agg ((cs.toList.take 64).take 32).toArray) (d := z0.1) (p := z0.2) v0 he hc ⟨_, rfl, by rw [d0, List.size_toArray, L0]⟩ d0 ⟨r, by simpa [Value.cells] using j0⟩
  obtain ⟨l1, e1, n1⟩ := open_arrBytes (v := .agg (((cs.toList.take 64).drop 32).take 32).toArray) (d := z1.1) (p := z1.2) v1 he hc ⟨_, rfl, by rw [d1, List.size_toArray, L1]⟩ d1 ⟨r, by simpa [Value.cells] using j1⟩
  obtain ⟨l2, e2, n2⟩ := open_arrBytes (v := .agg ((cs.toList.drop 64).take 12).toArray) (d := y1.1) (p := y1.2) u1 he hc ⟨_, rfl, by rw [c1, List.size_toArray, L2]⟩ c1 ⟨q, by simpa [Value.cells] using h1⟩
  obtain ⟨a, len, cap, e3⟩ := cell_slice u2 he hc h2
  rw [e3] at h2
  obtain ⟨l3, r3, k3⟩ := open_rowBytes (v := .slice a len cap) (d := y2.1) (p := y2.2) u2 he hc ⟨_, _, _, rfl⟩ ⟨q, by simpa [Value.cells] using h2⟩
  injection e0 with e0
  injection e1 with e1
  injection e2 with e2
  have e0' : (cs.toList.take 64).take 32 = bs l0 := by simpa using congrArg Array.toList e0
  have e1' : ((cs.toList.take 64).drop 32).take 32 = bs l1 := by simpa using congrArg Array.toList e1
  have e2' : (cs.toList.drop 64).take 12 = bs l2 := by simpa using congrArg Array.toList e2
  injection hd with hd1 hd2
  refine ⟨l0, l1, l2, l3, .slice a len cap, y0.1, y1.1, y2.1, ?_, n0, n1, n2, r3, hd1, k3.imp (fun h => ⟨h.1, by rw [h.2]; rfl⟩) id⟩
  congr 1
  apply Array.ext'
  rw [List.toList_toArray, ← e0', ← e1', ← e2', ← e3]
  have t1 : ((cs.toList.take 64).drop 32).take 32 = (cs.toList.take 64).drop 32 := List.take_of_length_le (by simp; omega)
  have t3 : (cs.toList.drop 76).take 1 = cs.toList.drop 76 := List.take_of_length_le (by simp at hlen ⊢; omega)
  rw [t1, List.take_append_drop, t3, List.append_assoc, show (76 : Nat) = 64 + 12 from rfl, ← List.drop_drop, List.take_append_drop, List.take_append_drop]
end
end Go.Proofs.YthfpkdbhihcniaaDoor

/- a witness for a row that lists variables and bears a bound on bulk. Nothing of the program. -/
namespace Go.Proofs.YthfpkdbhihcniaaDoor
theorem witness_row_shaped {H : Type} {enc : TypeId × Value → H} {C : Checked} {os : Os} {f : FuncId} {fn : Func} {s : OpenSpec} {conds : List PathCond} {apart : Bool} {laid : List (String × DataW Unit)} (modest : Bool) (w0 : World) (args : Array Value) (hos : w0.os = os)
    (hsh : (w0.forCall (fun _ _ => 0) ⟨#[], args, []⟩).Shaped C.prog)
    (hok : Input.okWideB C.prog (w0.forCall (fun _ _ => 0) ⟨#[], args, []⟩) f ⟨#[], args, []⟩ = true)
    (hrow : s.preRow enc C.prog fn conds apart laid (w0.forCall (fun _ _ => 0) ⟨#[], args, []⟩).memory args) :
    ∃ (w : World) (tape : Tape) (i : Input), w.os = os ∧ (w.forCall tape i).Shaped C.prog ∧ i.vars = [] ∧ Input.okWide C.prog (w.forCall tape i) .any w.heap.size f i ∧
      s.preRow enc C.prog fn conds apart laid (w.forCall tape i).memory i.args ∧ ({ modest := modest } : Assume).holds C.prog (lone (Frame.enter C.prog f i.args .normal) [] (w.forCall tape i)) :=
  ⟨w0, fun _ _ => 0, ⟨#[], args, []⟩, hos, hsh, (Input.okWide_of_okWideB (base := 0) hok).1, (Input.okWide_of_okWideB hok).2, hrow, by
    simp only [Assume.holds]
    exact ⟨by simp, by simp, fun _ => Modest.zero, by simp, by simp⟩⟩
end Go.Proofs.YthfpkdbhihcniaaDoor
