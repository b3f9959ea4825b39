/- whole arrays that are loaded, stored, handed back. Nothing of the program. -/
import Derived.Test.YteokfgdennjjiaaVar
import Derived.Deep.OwnRows
namespace Go.Proofs.Yteokfgdennjjiaa
open Go.ChangeShapes Go.WideShapes Go.ChangeAt Go.RowKit
theorem made_bytes (n : Nat) : (madeCells #[.int .u8 0] n) = (bs (List.replicate n 0)).toArray := by
  apply Array.ext
  · simp [size_madeCells, bs_length]
  · intro i h1 h2
    simp [madeCells, bs]
    rw [Nat.mod_one]
    rfl
theorem Blk.part {w : World} {B t : Nat} {L : List Value} (h : Blk w B t L) (o n : Nat) (l : List UInt8) (hl : l.length = n) (hm : n ≤ maxLen) (hx : ∀ j v, (bs l)[j]? = some v → L[o + j]? = some v) : Row w (.slice (some ⟨B, o, none⟩) n n) (bs l) := by
  have h := h.row o n (bs l) (by rw [bs_length]; omega) hm hx
  rwa [bs_length, hl] at h
theorem Own.ofBlk {w : World} {O e base : Nat} {C : List UInt8} (h : Blk w O e (bs C)) (hm : C.length ≤ maxLen) (hb : base ≤ O) : Own w base e (.slice (some ⟨O, 0, none⟩) C.length C.length) (bs C) := by
  refine ⟨by simp, .inr ⟨O, C.length, (bs C).toArray, by rw [bs_length], hb, h, by rw [bs_length]; exact Nat.le_refl _, hm, by simp [bs_length], ?_⟩⟩
  rw [List.take_of_length_le (by simp)]
section
variable {P : Program}
/-- 'd = y', y an array known whole -/
theorem wpList_put {w : World} {ops : Array Oper} {rest : List Oper} {o : Oper} {a : Act} {Q : Exit → Act → World → Prop} (hg : o.guard = none) (t : TypeId) (x y : Operand) (ho : o.op = .store t x y) (hd : o.dst = none)
    (R t2 : Nat) (zs ys : List Value) (hR : Blk w R t2 zs) (hl : zs.length = ys.length) (hi : (P.info? t).map (·.size) = some ys.length) (h1 : ∀ v ∈ ys, v.oneCell' = true) (hx : a.eval x = .pointer (some ⟨R, 0, none⟩)) (hy : a.eval y = .agg ys.toArray)
    (h : ∀ w', Blk w' R t2 ys → Fr (One R) w w' → w'.heap.size = w.heap.size → wpList P ops Q rest a w') : wpList P ops Q (o :: rest) a w := by
  refine wpList_store_mid hg t x y ho R 0 ys.toArray hx hy (by have := hR.there 0 ys.length (by omega); simpa using this) (by rw [List.size_toArray]; exact hi) (all_oneCell_toArray h1) ?_
  rw [hd]
  simp only [Act.put]
  have hb2 := Blk.setCells ys w zs 0 hR (by omega)
  rw [splice_all _ _ hl] at hb2
  exact h _ hb2 (Fr.setCells' R ys w 0) (size_setCells _ _ _ _)
/-- 'r = s', arrays both, s known whole -/
theorem wpList_whole {w : World} {ops : Array Oper} {rest : List Oper} {o1 o2 : Oper} {Q : Exit → Act → World → Prop} {l : List Value} {df : List Deferred} (g1 : o1.guard = none) (g2 : o2.guard = none) (t d : Nat) (x r : Operand) (ho1 : o1.op = .load t x) (hd1 : o1.dst = some d) (ho2 : o2.op = .store t r (.tmp d)) (hd2 : o2.dst = none)
    (B R t1 t2 : Nat) (ys zs : List Value) (hB : Blk w B t1 ys) (hR : Blk w R t2 zs) (hl : zs.length = ys.length) (dsc : TypeDesc) (hu : P.underlying t = some dsc) (hrow : dsc.isRow = true) (hi : (P.info? t).map (·.size) = some ys.length) (h1 : ∀ v ∈ ys, v.oneCell' = true)
    (hdl : d < l.length) (hx : Act.eval ⟨l.toArray, df⟩ x = .pointer (some ⟨B, 0, none⟩)) (hr : ∀ u, Act.eval ⟨(l.set d u).toArray, df⟩ r = .pointer (some ⟨R, 0, none⟩))
    (h : ∀ w', Blk w' R t2 ys → Fr (One R) w w' → w'.heap.size = w.heap.size → wpList P ops Q rest ⟨(l.set d (.agg ys.toArray)).toArray, df⟩ w') : wpList P ops Q (o1 :: o2 :: rest) ⟨l.toArray, df⟩ w := by
  refine wpList_load_mid g1 t x ho1 B 0 hx ys dsc (hB.range 0 _ (fun j v hv => by simpa using hv)) hu hrow hi ?_
  rw [hd1]
  simp only [Act.put, List.setIfInBounds_toArray]
  exact wpList_put g2 t r (.tmp d) ho2 hd2 R t2 zs ys hR hl hi h1 (hr _) (by simp [Act.eval, hdl]) h
theorem Blk.loadVar {w : World} {R t2 : Nat} {ys : List Value} (h : Blk w R t2 ys) (t : TypeId) (dsc : TypeDesc) (hu : P.underlying t = some dsc) (hrow : dsc.isRow = true) (hi : (P.info? t).map (·.size) = some ys.length) :
    (Go.loadVar t ⟨R, 0, none⟩).run P w = .ok (.agg ys.toArray) w :=
  run_loadVar_mid w R 0 t ys dsc (h.range 0 _ (fun j v hv => by simpa using hv)) hu hrow hi
end
end Go.Proofs.Yteokfgdennjjiaa
