/- package ikey: what is asked of its functions, as one word -/
import Derived.Test.YteokfgdennjjiaaEntCells
import Derived.Test.YteokfgdennjjiaaKShort
import Derived.Test.YteokfgdennjjiaaERow
namespace Go.Proofs.Yteokfgdennjjiaa
open Go.ChangeShapes Go.WideShapes Go.ChangeAt Go.RowKit

structure IkeyC : Prop where
  right : ∀ (e : Ent) (w : World), e.ok → Calls Try.prog 13 #[.agg (entCells e).toArray] w fun r w' => r = .returned (.bool (entRight e)) ∧ Fr Non w w'
  compare : ∀ (a b : Ent) (w : World), a.ok → b.ok → Calls Try.prog 11 #[.agg (entCells a).toArray, .agg (entCells b).toArray] w fun r w' => r = .returned (.int .i64 (entCmp a b)) ∧ Fr Non w w'
  lay : ∀ (e : Ent) (w : World), e.ok → Calls Try.prog 15 #[.agg (entCells e).toArray] w fun r w' => r = .returned (.string (entLay e)) ∧ Fr Non w w'
  take : ∀ (s : ByteArray) (w : World), s.size ≤ 140737488355328 → Calls Try.prog 17 #[.string s] w fun r w' => r = .returned (.tuple #[.agg (entCells (entTake s).1).toArray, .int .i64 (entTake s).2]) ∧ Fr Non w w'
  between : ∀ (a b : ByteArray) (w : World), a.size ≤ 140737488355328 → b.size ≤ 140737488355328 → Calls Try.prog 21 #[.string a, .string b] w fun r w' => r = .returned (.string (baBetween a b)) ∧ Fr Non w w'
  after : ∀ (a : ByteArray) (w : World), a.size ≤ 140737488355328 → Calls Try.prog 23 #[.string a] w fun r w' => r = .returned (.string (baAfter a)) ∧ Fr Non w w'
  rises : ∀ (v : Value) (es : List Ent) (w : World), ERow w v es → (∀ e ∈ es, e.seq < 18446744073709551616 ∧ e.kind < 256) → Calls Try.prog 19 #[v] w fun r w' => r = .returned (.bool (entRises es)) ∧ Fr Non w w'
end Go.Proofs.Yteokfgdennjjiaa
