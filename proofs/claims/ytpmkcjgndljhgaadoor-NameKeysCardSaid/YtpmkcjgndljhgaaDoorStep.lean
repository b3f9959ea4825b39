/- append at a step of a region that draws its order. Nothing of the program. -/
import Derived.Test.YtpmkcjgndljhgaaDoorBuilt
import Derived.Deep.RegionHeldLaw

namespace Go.Proofs.YtpmkcjgndljhgaaDoor
open Go.ChangeShapes Go.WideShapes Go.ChangeAt Go.RowKit
section
variable {P : Program}

theorem cell_alloc0 (w : World) (u : Value) (e : Nat) : (w.alloc (.cells #[u] e)).cell? ⟨w.heap.size, 0, none⟩ = some u := by
  have h1 := World.cell?_alloc_mark w #[u] e (0, 0) 0
  rw [h1]; rfl
theorem cell_alloc0d (w : World) (u : Value) (e : Nat) : (w.alloc (.cells #[u] e)).drew.cell? ⟨w.heap.size, 0, none⟩ = some u := cell_alloc0 w u e

/-- the old cells of what was appended to are as they were -/
def Kept (w' : World) (v : Value) (xs : List Value) : Prop := ∀ g, v.ownBlock = some g → ∀ j u, xs[j]? = some u → w'.cell? ⟨g, j, none⟩ = some u
theorem kept_of {w w' : World} {base : Nat} {t ty e : TypeId} {i : TypeInfo} {z : Value} {size bytes : Nat} (ht : P.underlying t = some (.slice e)) (hi : P.info? e = some i) (hz : i.zero = some z) (hsize : i.size = size) (hby : i.bytes = bytes)
    {v : Value} {n : Nat} {xs : List Value} (hown : w.ownsRow base e size v n xs) {a : Addr} {m c : Nat} {news : List Value} (hl : news.length = m * size) (hnews : ∀ j u, news[j]? = some u → w.cell? (a.add j) = some u) (h1 : ∀ u ∈ news, u.oneCell' = true)
    (h63 : n + m ≤ maxLen) (hbytes : (n + m) * bytes ≤ 140737488355328) {v' : Value} (hrun : (Builtin.append_ #[t, t] ty #[v, .slice (some a) m c]).run P w = .ok v' w') (ho : w'.ownsRow base e size v' (n + m) (xs ++ news)) : Kept w' v xs := by
  subst hsize
  subst hby
  have hsmall : n + m ≤ 9223372036854775807 := by simp only [maxLen] at h63; omega
  intro g hg j u hu
  rcases hown.2 with ⟨rfl, rfl⟩ | ⟨g', cap, cur, rfl, hbg, hgg, hnc, hcm, hcs, htake⟩
  · cases hg
  · obtain rfl : g' = g := by simpa [Value.ownBlock] using hg
    by_cases hroom : n + m ≤ cap
    · have hfit : n * i.size + news.length ≤ cur.size := by rw [hl, hcs, ← Nat.add_mul]; exact Nat.mul_le_mul_right _ hroom
      have hr := run_append_room (P := P) w t ty e i ht hi g' n cap cur hgg a m c news hl hnews h1 hroom hfit
      rw [hrun] at hr
      injection hr with h1 h2
      subst h1
      have := World.ownsRow.cells ho (g := g') rfl j u (by rw [List.getElem?_append_left (List.getElem?_eq_some_iff.1 hu).1]; exact hu)
      rwa [Addr.add_lit, Nat.zero_add] at this
    · have hr := run_append_grow (P := P) w t ty e i z ht hi hz ⟨g', 0, none⟩ n cap xs hown.1 (hown.cells (g := g') rfl) a m c news hl hnews (by omega) (by omega) (growslice_fits (by omega) hbytes)
      rw [hrun] at hr
      injection hr with h1 h2
      subst h2
      have h3 := World.ownsRow.cells hown (g := g') rfl j u hu
      rw [Addr.add_lit, Nat.zero_add] at h3
      exact (Fr.non (Fr.drew w) (Fr.alloc _ _)).cell h3 (fun h => h)

theorem wp_app (w : World) {o : Oper} {a : Act} {K : Act → World → Prop} {Q : Exit → Act → World → Prop} (s x : Operand) (t : TypeId)
    (ho : o.op = .call { callee := .builtin .append, args := #[s, x], argTypes := #[t, t] })
    (base e : Nat) (i : TypeInfo) (z : Value) (size bytes : Nat) (ht : P.underlying t = some (.slice e)) (hi : P.info? e = some i ∧ i.zero = some z ∧ i.size = size ∧ i.bytes = bytes) (hzs : z.cells.size = size) (hsz : 0 < size)
    (v : Value) (n : Nat) (xs : List Value) (hs : a.eval s = v) (hown : w.ownsRow base e size v n xs)
    (ao : Option Addr) (m c : Nat) (news : List Value) (hx : a.eval x = .slice ao m c) (hl : news.length = m * size) (hnone : ao = none → m = 0 ∧ c = 0) (hnews : ∀ ad, ao = some ad → ∀ j u, news[j]? = some u → w.cell? (ad.add j) = some u) (h1 : ∀ u ∈ news, u.oneCell' = true)
    (hbytes : n + m ≤ maxLen ∧ (n + m) * bytes ≤ 140737488355328) (hbase : base ≤ w.heap.size)
    (h : ∀ v' w', w'.ownsRow base e size v' (n + m) (xs ++ news) → Fr (OwnOf v) w w' → Moved w v v' → Kept w' v xs → K (a.put o.dst v') w') : Oper.wp P o a w K Q := by
  obtain ⟨v', w', hr, h2, h3, h4, _⟩ := run_app (P := P) w base t o.type e i z size bytes ht hi.1 hi.2.1 hi.2.2.1 hi.2.2.2 hzs hsz v n xs hown ao m c news hl hnone hnews h1 hbytes.1 hbytes.2 hbase
  unfold Oper.wp execOp
  simp only [ho, resolve, invoke, builtin, Sem.run_bind, Sem.run_pure, Result.andThen_ok, List.map_toArray, List.map_cons, List.map_nil, hs, hx, hr]
  refine h v' w' h2 h3 h4 ?_
  cases ao with
  | some ad => exact kept_of (P := P) ht hi.1 hi.2.1 hi.2.2.1 hi.2.2.2 hown hl (hnews ad rfl) h1 hbytes.1 hbytes.2 hr h2
  | none =>
    obtain ⟨rfl, rfl⟩ := hnone rfl
    have hr2 := run_append_owned_none (P := P) (w := w) base t o.type e i size ht hi.1 v n xs hown
    rw [hr] at hr2
    injection hr2 with e1 e2
    subst e1 e2
    intro g hg j u hu
    rcases hown.2 with ⟨rfl, rfl⟩ | ⟨g', cap, cur, rfl, _⟩
    · cases hg
    · obtain rfl : g' = g := by simpa [Value.ownBlock] using hg
      have h3 := World.ownsRow.cells hown (g := g') rfl j u hu
      rwa [Addr.add_lit, Nat.zero_add] at h3

/-- 'append(v, u)' at a step, u one cell that lies in a block. -/
theorem step_push_w {w : World} {ops : Array Oper} {o : Oper} {a : Act} {K : Act → World → Prop} {Q : Exit → Act → World → Prop} {E : Prop} (hw : Region.wanted o (yielded ops a.tmps) = true) (s x : Operand) (t : TypeId)
    (ho : o.op = .call { callee := .builtin .append, args := #[s, x], argTypes := #[t, t] })
    (base e : Nat) (i : TypeInfo) (z : Value) (bytes : Nat) (ht : P.underlying t = some (.slice e)) (hi : P.info? e = some i ∧ i.zero = some z ∧ i.size = 1 ∧ i.bytes = bytes) (hzs : z.cells.size = 1)
    (v : Value) (xs : List Value) (hs : a.eval s = v) (hown : Own w base e v xs)
    (u : Value) (B : Nat) (hx : a.eval x = .slice (some ⟨B, 0, none⟩) 1 1) (hB : w.cell? ⟨B, 0, none⟩ = some u) (h1 : u.oneCell' = true)
    (hbytes : (xs.length + 1) * bytes ≤ 140737488355328 ∧ 0 < bytes) (hbase : base ≤ w.heap.size)
    (h : ∀ v' w', Own w' base e v' (xs ++ [u]) → Fr (OwnOf v) w w' → Moved w v v' → Kept w' v xs → K (a.put o.dst v') w') :
    if Region.wanted o (yielded ops a.tmps) = true then Oper.wp P o a w K Q else E := by
  rw [if_pos hw]
  have hb : xs.length + 1 ≤ 140737488355328 := Nat.le_trans (Nat.le_mul_of_pos_right _ hbytes.2) hbytes.1
  refine wp_app w s x t ho base e i z 1 bytes ht hi hzs (by decide) v xs.length xs hs hown (some ⟨B, 0, none⟩) 1 1 [u] hx rfl (by intro h; cases h) ?_ (by intro y hy; simp at hy; subst hy; exact h1)
    ⟨by unfold maxLen; omega, hbytes.1⟩ hbase (fun v' w' h2 h3 h4 h5 => h v' w' ?_ h3 h4 h5)
  · intro ad had j y hy
    cases had
    match j, hy with
    | 0, hy => simp at hy; subst hy; simpa [Addr.add, go_sem] using hB
  · show w'.ownsRow base e 1 v' (xs ++ [u]).length (xs ++ [u])
    simpa using h2
theorem step_push {w : World} {ops : Array Oper} {o : Oper} {a : Act} {K : Act → World → Prop} {Q : Exit → Act → World → Prop} {E : Prop} (hgd : o.guard = none) (s x : Operand) (t : TypeId)
    (ho : o.op = .call { callee := .builtin .append, args := #[s, x], argTypes := #[t, t] })
    (base e : Nat) (i : TypeInfo) (z : Value) (bytes : Nat) (ht : P.underlying t = some (.slice e)) (hi : P.info? e = some i ∧ i.zero = some z ∧ i.size = 1 ∧ i.bytes = bytes) (hzs : z.cells.size = 1)
    (v : Value) (xs : List Value) (hs : a.eval s = v) (hown : Own w base e v xs)
    (u : Value) (B : Nat) (hx : a.eval x = .slice (some ⟨B, 0, none⟩) 1 1) (hB : w.cell? ⟨B, 0, none⟩ = some u) (h1 : u.oneCell' = true)
    (hbytes : (xs.length + 1) * bytes ≤ 140737488355328 ∧ 0 < bytes) (hbase : base ≤ w.heap.size)
    (h : ∀ v' w', Own w' base e v' (xs ++ [u]) → Fr (OwnOf v) w w' → Moved w v v' → Kept w' v xs → K (a.put o.dst v') w') :
    if Region.wanted o (yielded ops a.tmps) = true then Oper.wp P o a w K Q else E := by
  exact step_push_w (by simp [Region.wanted, hgd]) s x t ho base e i z bytes ht hi hzs v xs hs hown u B hx hB h1 hbytes hbase h
/-- the one cell that a slice of a block's beginning reads -/
theorem _root_.Go.Proofs.YtpmkcjgndljhgaaDoor.Row.cell0 {w : World} {g n c : Nat} {u : Value} {xs : List Value} (h : Row w (.slice (some ⟨g, 0, none⟩) n c) (u :: xs)) : w.cell? ⟨g, 0, none⟩ = some u := by
  obtain ⟨a', c', e, q1, q2, q3, q4⟩ := h
  obtain ⟨b', o', rfl, hc⟩ := q4 0 (by simp)
  injection e with e1 _ _
  injection e1 with e1
  injection e1 with e2 e3
  subst e2 e3
  have := hc 0 u rfl
  simpa using this
end
end Go.Proofs.YtpmkcjgndljhgaaDoor
