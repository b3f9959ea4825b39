/- GroundA: FixMath, NameMath, Words, BaStr, NamePar, one behind the other. -/
import Derived.Test.YtpmkcjgndljhgaaDoorBuilt
import Derived.Laws.BitsAllLaws

/- a number's bytes, the lowest first. Nothing of the program. -/
namespace Go.Proofs.YtpmkcjgndljhgaaDoor
open Go.ChangeShapes Go.WideShapes Go.ChangeAt Go.RowKit

theorem bs_single (c : UInt8) : bs [c] = [Value.int .u8 (c.toNat : Int)] := rfl
def fixF : Nat → Nat → List UInt8
  | 0, _ => []
  | k + 1, n => UInt8.ofNat (n % 256) :: fixF k (n / 256)
theorem fixF_length (k n : Nat) : (fixF k n).length = k := by
  induction k generalizing n with
  | zero => rfl
  | succ k ih => simp [fixF, ih]
def unfix : List UInt8 → Nat
  | [] => 0
  | c :: r => c.toNat + 256 * unfix r
theorem unfix_snoc (l : List UInt8) (c : UInt8) : unfix (l ++ [c]) = unfix l + c.toNat * 256 ^ l.length := by
  induction l with
  | nil => simp [unfix]
  | cons d r ih => simp only [List.cons_append, unfix, ih, List.length_cons, Nat.pow_succ]; rw [Nat.mul_add, Nat.add_assoc]; congr 2; rw [Nat.mul_left_comm, Nat.mul_comm 256]
theorem unfix_lt (l : List UInt8) : unfix l < 256 ^ l.length := by
  induction l with
  | nil => simp [unfix]
  | cons d r ih =>
    have := d.toNat_lt
    simp only [unfix, List.length_cons, Nat.pow_succ]
    omega
theorem unfix_fixF : ∀ k n, unfix (fixF k n) = n % 256 ^ k
  | 0, n => by simp [unfix, fixF, Nat.mod_one]
  | k + 1, n => by
    have h := unfix_fixF k (n / 256)
    have h1 : (UInt8.ofNat (n % 256)).toNat = n % 256 := by rw [UInt8.toNat_ofNat']; exact Nat.mod_eq_of_lt (Nat.mod_lt _ (by omega))
    simp only [fixF, unfix, h, h1]
    rw [Nat.pow_succ, Nat.mul_comm (256 ^ k) 256, Nat.mod_mul]
theorem fixF_unfix : ∀ l : List UInt8, fixF l.length (unfix l) = l
  | [] => rfl
  | c :: r => by
    have h := fixF_unfix r
    have hc := c.toNat_lt
    have h1 : (unfix (c :: r)) % 256 = c.toNat := by simp only [unfix]; omega
    have h2 : (unfix (c :: r)) / 256 = unfix r := by simp only [unfix]; omega
    simp only [List.length_cons, fixF, h1, h2, h, UInt8.ofNat_toNat]
theorem fixF_back {k n : Nat} (h : n < 256 ^ k) : unfix (fixF k n) = n := by rw [unfix_fixF, Nat.mod_eq_of_lt h]
theorem fixF_inj {k m n : Nat} (hm : m < 256 ^ k) (hn : n < 256 ^ k) (h : fixF k m = fixF k n) : m = n := by rw [← fixF_back hm, h, fixF_back hn]
def clamp8 (m : Int) : Nat := if m < 0 then 0 else if 8 < m then 8 else m.toNat

end Go.Proofs.YtpmkcjgndljhgaaDoor

/- package name, plain: digits, names, heads. Nothing of the program. -/
namespace Go.Proofs.YtpmkcjgndljhgaaDoor

/-! decimal digits -/
def isDig (c : UInt8) : Prop := 48 ≤ c.toNat ∧ c.toNat ≤ 57
instance (c : UInt8) : Decidable (isDig c) := by unfold isDig; infer_instance
def digC (n : Nat) : UInt8 := UInt8.ofNat (48 + n % 10)
theorem digC_toNat (n : Nat) : (digC n).toNat = 48 + n % 10 := by
  unfold digC; rw [UInt8.toNat_ofNat']; exact Nat.mod_eq_of_lt (by omega)
theorem digC_dig (n : Nat) : isDig (digC n) := by unfold isDig; rw [digC_toNat]; omega
theorem digC_of {c : UInt8} (h : isDig c) : digC (c.toNat - 48) = c := by
  apply UInt8.toNat_inj.mp; rw [digC_toNat]; have := h.1; have := h.2; omega
/-- the decimal digits of n, with as many 0 ahead as there must be, so that there are k at least -/
def digs (k n : Nat) : List UInt8 :=
  if k = 0 ∧ n = 0 then [] else digs (k - 1) (n / 10) ++ [digC n]
termination_by k + n
decreasing_by omega
theorem digs_zero : digs 0 0 = [] := by rw [digs]; simp
theorem digs_step {k n : Nat} (h : 0 < k ∨ 0 < n) : digs k n = digs (k - 1) (n / 10) ++ [digC n] := by
  rw [digs, if_neg (by omega)]
theorem digs_dig (k n : Nat) : ∀ c ∈ digs k n, isDig c := by
  induction k, n using digs.induct with
  | case1 k n h => rw [digs, if_pos h]; simp
  | case2 k n h ih =>
    rw [digs, if_neg h]
    intro c hc
    rw [List.mem_append, List.mem_singleton] at hc
    rcases hc with hc | rfl
    · exact ih c hc
    · exact digC_dig n
theorem digs_length (k n : Nat) : k ≤ (digs k n).length := by
  induction k, n using digs.induct with
  | case1 k n h => omega
  | case2 k n h ih => rw [digs, if_neg h, List.length_append, List.length_singleton]; omega
theorem digs_length_le (k m n : Nat) : k ≤ m → n < 10 ^ m → (digs k n).length ≤ m := by
  induction k, n using digs.induct generalizing m with
  | case1 k n h => intro _ _; rw [digs, if_pos h]; simp
  | case2 k n h ih =>
    intro hk hn
    rw [digs, if_neg h, List.length_append, List.length_singleton]
    have hm : 0 < m := by
      by_cases hm : 0 < m
      · exact hm
      · have e : m = 0 := by omega
        subst e
        simp at hn
        omega
    obtain ⟨m, rfl⟩ : ∃ m', m = m' + 1 := ⟨m - 1, by omega⟩
    have := ih m (by omega) (by rw [Nat.pow_succ] at hn; omega)
    omega
/-- more than so many: then the first is not 0 -/
theorem digs_head (k n : Nat) : k < (digs k n).length → (digs k n).head? ≠ some 48 := by
  induction k, n using digs.induct with
  | case1 k n h => intro hl; rw [digs, if_pos h] at hl; simp at hl
  | case2 k n h ih =>
    rw [digs, if_neg h]
    intro hl
    rw [List.length_append, List.length_singleton] at hl
    by_cases he : digs (k - 1) (n / 10) = []
    · have h0 : k - 1 = 0 ∧ n / 10 = 0 := by
        by_cases h1 : k - 1 = 0 ∧ n / 10 = 0
        · exact h1
        · rw [digs_step (by omega)] at he; simp at he
      rw [he] at hl
      have hk : k = 0 := by simp at hl; omega
      rw [he, List.nil_append, List.head?_cons]
      intro hc
      have := congrArg UInt8.toNat (Option.some.inj hc)
      rw [digC_toNat] at this
      have h48 : (48 : UInt8).toNat = 48 := rfl
      omega
    · have hne : 0 < (digs (k - 1) (n / 10)).length := List.length_pos_iff.mpr he
      obtain ⟨c, r, hcr⟩ := List.exists_cons_of_ne_nil he
      have := ih (by omega)
      rw [hcr] at this ⊢
      simpa using this
/-- the number that l's digits have, behind the number a -/
def valP : Nat → List UInt8 → Nat
  | a, [] => a
  | a, c :: r => if isDig c then valP (a * 10 + (c.toNat - 48)) r else a
theorem valP_snoc (l : List UInt8) (hl : ∀ c ∈ l, isDig c) : ∀ (a : Nat) (r : List UInt8), valP a (l ++ r) = valP (valP a l) r := by
  induction l with
  | nil => intro a r; rfl
  | cons c l ih =>
    intro a r
    have hc : isDig c := hl c (by simp)
    simp only [List.cons_append, valP, if_pos hc]
    exact ih (fun d hd => hl d (by simp [hd])) _ _
/-- P7.1: the digits of n have n -/
theorem val_digs (k n : Nat) : valP 0 (digs k n) = n := by
  induction k, n using digs.induct with
  | case1 k n h => rw [digs, if_pos h]; simp [valP, h.2]
  | case2 k n h ih =>
    rw [digs, if_neg h, valP_snoc _ (digs_dig _ _), ih]
    simp only [valP, if_pos (digC_dig n), digC_toNat]
    omega
theorem val_stop (l : List UInt8) (hl : ∀ c ∈ l, isDig c) (a : Nat) (r : List UInt8) (hr : ∀ c, r.head? = some c → ¬ isDig c) : valP a (l ++ r) = valP a l := by
  rw [valP_snoc l hl]
  cases r with
  | nil => rfl
  | cons c r => simp only [valP, if_neg (hr c rfl)]
theorem valP_le (l : List UInt8) : ∀ a, a ≤ valP a l := by
  induction l with
  | nil => intro a; exact Nat.le_refl _
  | cons c r ih => intro a; simp only [valP]; split
                   · exact Nat.le_trans (by omega) (ih _)
                   · exact Nat.le_refl _
theorem val_pos {l : List UInt8} (hl : ∀ c ∈ l, isDig c) (hne : l ≠ []) (h0 : l.head? ≠ some 48) : 0 < valP 0 l := by
  obtain ⟨c, r, rfl⟩ := List.exists_cons_of_ne_nil hne
  have hc : isDig c := hl c (by simp)
  simp only [valP, if_pos hc]
  refine Nat.lt_of_lt_of_le ?_ (valP_le r _)
  have h1 : c ≠ 48 := fun e => h0 (by rw [e]; rfl)
  have h2 : c.toNat ≠ 48 := fun e => h1 (UInt8.toNat_inj.mp e)
  have := hc.1
  omega
/-- digits, six or more, that do not begin with a 0 too much, are their number's -/
theorem digs_val : ∀ (l : List UInt8) (k : Nat), (∀ c ∈ l, isDig c) → k ≤ l.length → (k < l.length → l.head? ≠ some 48) → digs k (valP 0 l) = l := by
  intro l
  induction hn : l.length generalizing l with
  | zero =>
    intro k _ hk _
    have hl : l = [] := List.length_eq_zero_iff.mp hn
    subst hl
    have : k = 0 := by simpa using hk
    subst this
    exact digs_zero
  | succ m ih =>
    intro k hd hk h0
    have hne : l ≠ [] := by intro e; subst e; simp at hn
    obtain ⟨l', c, rfl⟩ : ∃ l' c, l = l' ++ [c] := ⟨l.dropLast, l.getLast hne, (List.dropLast_concat_getLast hne).symm⟩
    have hlen : l'.length = m := by simpa using hn
    have hd' : ∀ d ∈ l', isDig d := fun d h => hd d (by simp [h])
    have hc : isDig c := hd c (by simp)
    have hv : valP 0 (l' ++ [c]) = valP 0 l' * 10 + (c.toNat - 48) := by
      rw [valP_snoc l' hd']; simp only [valP, if_pos hc]
    have hpos : 0 < k ∨ 0 < valP 0 (l' ++ [c]) := by
      by_cases hk0 : 0 < k
      · exact Or.inl hk0
      · exact Or.inr (val_pos hd hne (h0 (by omega)))
    have hlt := hc.1
    have hle := hc.2
    rw [digs_step hpos, hv]
    have e1 : (valP 0 l' * 10 + (c.toNat - 48)) / 10 = valP 0 l' := by omega
    have e2 : digC (valP 0 l' * 10 + (c.toNat - 48)) = c := by
      have h := digC_of hc
      apply UInt8.toNat_inj.mp
      rw [digC_toNat]
      omega
    rw [e1, e2, ih l' hlen (k - 1) hd' (by omega) ?_]
    intro hlt'
    by_cases hl' : l' = []
    · subst hl'; simp
    · obtain ⟨d, r, rfl⟩ := List.exists_cons_of_ne_nil hl'
      have : k < m + 1 := by
        by_cases hk0 : k = 0
        · omega
        · omega
      simpa using h0 this

def AllDig (l : List UInt8) : Prop := ∀ c ∈ l, isDig c
instance (l : List UInt8) : Decidable (AllDig l) := by unfold AllDig; infer_instance
/-- the number that six or more digits say, if they are a number's -/
def numOf (l : List UInt8) : Nat × Bool := if l.length < 6 ∨ (6 < l.length ∧ l.head? = some 48) then (0, false) else if AllDig l ∧ valP 0 l < 18446744073709551616 then (valP 0 l, true) else (0, false)

theorem numOf_digs (n : Nat) (h : n < 18446744073709551616) : numOf (digs 6 n) = (n, true) := by
  unfold numOf
  rw [if_neg, if_pos ⟨digs_dig 6 n, by rw [val_digs]; exact h⟩, val_digs]
  rintro (h1 | ⟨h1, h2⟩)
  · have := digs_length 6 n; omega
  · exact digs_head 6 n h1 h2
/-- digits are a number's just so -/
theorem numOf_iff (l : List UInt8) (n : Nat) : numOf l = (n, true) ↔ n < 18446744073709551616 ∧ digs 6 n = l := by
  constructor
  · intro h
    unfold numOf at h
    split at h
    · simp at h
    · rename_i h1
      split at h
      · rename_i h2
        obtain ⟨rfl, -⟩ := Prod.mk.inj h
        exact ⟨h2.2, digs_val l 6 h2.1 (by omega) (fun h3 h4 => h1 (.inr ⟨h3, h4⟩))⟩
      · simp at h
  · rintro ⟨h, rfl⟩
    exact numOf_digs n h
theorem numOf_no (l : List UInt8) (h : (numOf l).2 = false) : (numOf l).1 = 0 ∧ ∀ n, n < 18446744073709551616 → digs 6 n ≠ l := by
  refine ⟨?_, fun n hn e => ?_⟩
  · unfold numOf at h ⊢
    split
    · rfl
    · split
      · rename_i h1 h2
        rw [if_neg h1, if_pos h2] at h
        simp at h
      · rfl
  · rw [← e, numOf_digs n hn] at h
    simp at h

/-! names -/
def nmLog : List UInt8 := [46, 108, 111, 103]
def nmTab : List UInt8 := [46, 116, 97, 98]
def nmMan : List UInt8 := [109, 97, 110, 105, 102, 101, 115, 116, 45]
def nmCur : List UInt8 := [99, 117, 114, 114, 101, 110, 116]
def nmTmp : List UInt8 := [99, 117, 114, 114, 101, 110, 116, 46, 116, 109, 112]
/-- P7.1 -/
def nmName (kind n : Nat) : List UInt8 :=
  if kind = 1 then digs 6 n ++ nmLog else if kind = 2 then digs 6 n ++ nmTab else if kind = 3 then nmMan ++ digs 6 n else if kind = 4 then nmCur else if kind = 5 then nmTmp else []
/-- P7.2: s is the name of a kind and a number -/
def IsName (s : List UInt8) (kind n : Nat) : Prop := 1 ≤ kind ∧ kind ≤ 5 ∧ n < 18446744073709551616 ∧ (3 < kind → n = 0) ∧ nmName kind n = s
theorem digs_ne (n : Nat) : digs 6 n ≠ [] := by
  intro h
  have := digs_length 6 n
  rw [h] at this
  simp at this
theorem digs_first (n : Nat) : ∃ c r, digs 6 n = c :: r ∧ isDig c := by
  obtain ⟨c, r, h⟩ := List.exists_cons_of_ne_nil (digs_ne n)
  exact ⟨c, r, h, digs_dig 6 n c (by rw [h]; simp)⟩
theorem digs_inj {k m n : Nat} (h : digs k m = digs k n) : m = n := by rw [← val_digs k m, h, val_digs]
/-- what a name's first and last signs tell of its kind -/
def nmKind (s : List UInt8) : Nat :=
  match s.head?, s.getLast? with
  | some c, some d => if c = 109 then 3 else if c = 99 then (if d = 112 then 5 else 4) else if d = 98 then 2 else 1
  | _, _ => 0
theorem nmKind_name {k n : Nat} (h1 : 1 ≤ k) (h5 : k ≤ 5) : nmKind (nmName k n) = k := by
  obtain ⟨c, r, hc, hd⟩ := digs_first n
  have hc1 : c ≠ 109 := by rintro rfl; exact absurd hd (by decide)
  have hc2 : c ≠ 99 := by rintro rfl; exact absurd hd (by decide)
  have : k = 1 ∨ k = 2 ∨ k = 3 ∨ k = 4 ∨ k = 5 := by omega
  rcases this with rfl | rfl | rfl | rfl | rfl
  · have e : nmName 1 n = c :: (r ++ nmLog) := by simp [nmName, hc]
    have e2 : (c :: (r ++ nmLog)).getLast? = some 103 := by simp [nmLog, List.getLast?_append, List.getLast?_cons]
    rw [e]; unfold nmKind; rw [e2]; simp [hc1, hc2]
  · have e : nmName 2 n = c :: (r ++ nmTab) := by simp [nmName, hc]
    have e2 : (c :: (r ++ nmTab)).getLast? = some 98 := by simp [nmTab, List.getLast?_append, List.getLast?_cons]
    rw [e]; unfold nmKind; rw [e2]; simp [hc1, hc2]
  · have e : nmName 3 n = 109 :: ([97, 110, 105, 102, 101, 115, 116, 45] ++ digs 6 n) := by simp [nmName, nmMan]
    rw [e]; unfold nmKind
    rw [List.getLast?_eq_some_getLast (List.cons_ne_nil _ _)]
    simp
  · rfl
  · rfl
/-- P7.5: a name is the name of one kind and one number -/
theorem IsName.once {s : List UInt8} {k n k' n' : Nat} (h : IsName s k n) (h' : IsName s k' n') : k = k' ∧ n = n' := by
  obtain ⟨h1, h5, hn, h0, hs⟩ := h
  obtain ⟨h1', h5', hn', h0', hs'⟩ := h'
  have hk : k = k' := by rw [← nmKind_name (n := n) h1 h5, hs, ← hs', nmKind_name h1' h5']
  subst hk
  refine ⟨rfl, ?_⟩
  have : k = 1 ∨ k = 2 ∨ k = 3 ∨ 3 < k := by omega
  rcases this with rfl | rfl | rfl | hk
  · rw [← hs'] at hs; simp only [nmName, if_true] at hs; exact digs_inj (List.append_cancel_right hs)
  · rw [← hs'] at hs; simp only [nmName, if_true, if_neg (show ¬ (2 = 1) by omega)] at hs; exact digs_inj (List.append_cancel_right hs)
  · rw [← hs'] at hs; simp only [nmName, if_true, if_neg (show ¬ (3 = 1) by omega), if_neg (show ¬ (3 = 2) by omega)] at hs; exact digs_inj (List.append_cancel_left hs)
  · rw [h0 hk, h0' hk]
/-- the number that the reference tries: of the digits that l begins with, round 2^64 -/
def valW (l : List UInt8) : Nat := valP 0 l % 18446744073709551616
theorem valP_mod (l : List UInt8) : ∀ a b, a % 18446744073709551616 = b % 18446744073709551616 → valP a l % 18446744073709551616 = valP b l % 18446744073709551616 := by
  induction l with
  | nil => intro a b h; exact h
  | cons c r ih =>
    intro a b h
    simp only [valP]
    split
    · exact ih _ _ (by omega)
    · exact h
theorem valW_log (n : Nat) (h : n < 18446744073709551616) : valW (digs 6 n ++ nmLog) = n := by
  unfold valW; rw [val_stop _ (digs_dig 6 n) 0 nmLog (by rintro c ⟨⟩; decide), val_digs, Nat.mod_eq_of_lt h]
theorem valW_tab (n : Nat) (h : n < 18446744073709551616) : valW (digs 6 n ++ nmTab) = n := by
  unfold valW; rw [val_stop _ (digs_dig 6 n) 0 nmTab (by rintro c ⟨⟩; decide), val_digs, Nat.mod_eq_of_lt h]
theorem valW_man (n : Nat) (h : n < 18446744073709551616) : valW ((nmMan ++ digs 6 n).drop 9) = n := by
  unfold valW
  have e : (nmMan ++ digs 6 n).drop 9 = digs 6 n := rfl
  rw [e, val_digs, Nat.mod_eq_of_lt h]
/-- which number is tried for a kind -/
def nmTry (s : List UInt8) (kind : Nat) : Nat := if 3 < kind then 0 else if kind = 3 ∧ 9 < s.length then valW (s.drop 9) else valW s
theorem nmTry_lt (s : List UInt8) (kind : Nat) : nmTry s kind < 18446744073709551616 := by
  unfold nmTry; split
  · omega
  · split <;> exact Nat.mod_lt _ (by omega)
theorem IsName.tried {s : List UInt8} {k n : Nat} (h : IsName s k n) : nmTry s k = n := by
  obtain ⟨h1, h5, hn, h0, hs⟩ := h
  have : k = 1 ∨ k = 2 ∨ k = 3 ∨ 3 < k := by omega
  rcases this with rfl | rfl | rfl | hk
  · subst hs; simp only [nmTry, nmName, if_true]; simpa using valW_log n hn
  · subst hs; simp only [nmTry, nmName]; simpa using valW_tab n hn
  · subst hs
    have hl : 9 < (nmName 3 n).length := by
      have := digs_length 6 n
      have e : nmName 3 n = nmMan ++ digs 6 n := by simp [nmName]
      rw [e, List.length_append]; simp [nmMan]; omega
    unfold nmTry
    rw [if_neg (by omega), if_pos ⟨rfl, hl⟩]
    have e : nmName 3 n = nmMan ++ digs 6 n := by simp [nmName]
    rw [e]
    exact valW_man n hn
  · unfold nmTry; rw [if_pos hk, h0 hk]
/-- of a kind s is a name just if it is that of the number that is tried -/
theorem isName_iff (s : List UInt8) (k : Nat) (h1 : 1 ≤ k) (h5 : k ≤ 5) : (∃ n, IsName s k n) ↔ nmName k (nmTry s k) = s := by
  constructor
  · rintro ⟨n, h⟩; rw [h.tried]; exact h.2.2.2.2
  · intro h
    exact ⟨nmTry s k, h1, h5, nmTry_lt s k, fun hk => by unfold nmTry; rw [if_pos hk], h⟩

/-! heads -/
structure Hd where
  kind : Nat
  level : Nat
  gen : Nat
  epoch : Nat
  number : Nat
def Hd.ok (h : Hd) : Prop := h.kind < 256 ∧ h.level < 256 ∧ h.gen < 18446744073709551616 ∧ h.epoch < 18446744073709551616 ∧ h.number < 18446744073709551616
def tant : List UInt8 := [116, 97, 110, 116]
/-- P7.3 -/
def hdLay (h : Hd) : List UInt8 := tant ++ [UInt8.ofNat h.kind, UInt8.ofNat h.level] ++ fixF 8 h.gen ++ fixF 8 h.epoch ++ fixF 8 h.number
theorem hdLay_length (h : Hd) : (hdLay h).length = 30 := by simp [hdLay, tant, fixF_length]
def hdRight (h : Hd) : Bool := if h.kind = 2 then decide (h.level < 5) else (decide (h.kind = 1) || decide (h.kind = 3)) && decide (h.level = 0) && decide (h.gen = 0)
/-- the head that b's first bytes would be -/
def hdOf (b : List UInt8) : Hd := ⟨(b[4]!).toNat, (b[5]!).toNat, unfix ((b.drop 6).take 8), unfix ((b.drop 14).take 8), unfix ((b.drop 22).take 8)⟩
theorem hdOf_lay (h : Hd) (hk : h.ok) (more : List UInt8) : hdOf (hdLay h ++ more) = h := by
  obtain ⟨k, l, g, e, n⟩ := h
  obtain ⟨h1, h2, h3, h4, h5⟩ := hk
  have hl (m : Nat) : (fixF 8 m).length = 8 := fixF_length 8 m
  have e0 : hdLay ⟨k, l, g, e, n⟩ ++ more = 116 :: 97 :: 110 :: 116 :: UInt8.ofNat k :: UInt8.ofNat l :: (fixF 8 g ++ (fixF 8 e ++ (fixF 8 n ++ more))) := by simp [hdLay, tant]
  have a1 : (fixF 8 g ++ (fixF 8 e ++ (fixF 8 n ++ more))).take 8 = fixF 8 g := by rw [List.take_append_of_le_length (by rw [hl]; exact Nat.le_refl _), List.take_of_length_le (by rw [hl]; exact Nat.le_refl _)]
  have a2 : ((fixF 8 g ++ (fixF 8 e ++ (fixF 8 n ++ more))).drop 8).take 8 = fixF 8 e := by
    rw [List.drop_append_of_le_length (by rw [hl]; exact Nat.le_refl _), List.drop_of_length_le (by rw [hl]; exact Nat.le_refl _), List.nil_append, List.take_append_of_le_length (by rw [hl]; exact Nat.le_refl _), List.take_of_length_le (by rw [hl]; exact Nat.le_refl _)]
  have a3 : ((fixF 8 g ++ (fixF 8 e ++ (fixF 8 n ++ more))).drop 16).take 8 = fixF 8 n := by
    rw [show 16 = 8 + 8 from rfl, ← List.drop_drop, List.drop_append_of_le_length (l₁ := fixF 8 g) (by rw [hl]; exact Nat.le_refl _), List.drop_of_length_le (l := fixF 8 g) (by rw [hl]; exact Nat.le_refl _), List.nil_append, List.drop_append_of_le_length (by rw [hl]; exact Nat.le_refl _), List.drop_of_length_le (by rw [hl]; exact Nat.le_refl _), List.nil_append, List.take_append_of_le_length (by rw [hl]; exact Nat.le_refl _), List.take_of_length_le (by rw [hl]; exact Nat.le_refl _)]
  have p : (256 : Nat) ^ 8 = 18446744073709551616 := by decide
  rw [e0]
  simp only [hdOf, List.drop_succ_cons, List.drop_zero]
  rw [a1, a2, a3, fixF_back (by rw [p]; exact h3), fixF_back (by rw [p]; exact h4), fixF_back (by rw [p]; exact h5)]
  simp only [Hd.mk.injEq, and_true]
  exact ⟨by simp [Nat.mod_eq_of_lt h1], by simp [Nat.mod_eq_of_lt h2]⟩
/-- P7.6 -/
theorem hdLay_inj {h i : Hd} (hh : h.ok) (hi : i.ok) (e : hdLay h = hdLay i) : h = i := by
  rw [← hdOf_lay h hh [], e, hdOf_lay i hi []]
theorem hdLay_take (h : Hd) (more : List UInt8) : (hdLay h ++ more).take 30 = hdLay h := by
  rw [List.take_append_of_le_length (by rw [hdLay_length]; exact Nat.le_refl _), List.take_of_length_le (by rw [hdLay_length]; exact Nat.le_refl _)]
theorem hdOf_ok (b : List UInt8) : (hdOf b).ok := by
  have u (l : List UInt8) : unfix (l.take 8) < 18446744073709551616 := by
    refine Nat.lt_of_lt_of_le (unfix_lt _) ?_
    have : (l.take 8).length ≤ 8 := by rw [List.length_take]; omega
    exact Nat.le_trans (Nat.pow_le_pow_right (by omega) this) (by decide)
  exact ⟨UInt8.toNat_lt _, UInt8.toNat_lt _, u _, u _, u _⟩
/-- whether the first 30 bytes of b are a right head -/
def hdGood (b : List UInt8) : Bool := decide (30 ≤ b.length) && hdRight (hdOf b) && (b.take 4 == tant)
/-- bytes that begin with the letters are the head's that they would be -/
theorem hdLay_of (b : List UInt8) (hl : 30 ≤ b.length) (ht : b.take 4 = tant) : hdLay (hdOf b) = b.take 30 := by
  have f (m : Nat) (hm : m + 8 ≤ b.length) : fixF 8 (unfix ((b.drop m).take 8)) = (b.drop m).take 8 := by
    have h := fixF_unfix ((b.drop m).take 8)
    rwa [show ((b.drop m).take 8).length = 8 by simp; omega] at h
  unfold hdLay hdOf
  simp only [UInt8.ofNat_toNat]
  rw [f 6 (by omega), f 14 (by omega), f 22 (by omega), ← ht]
  apply List.ext_getElem
  · simp; omega
  · intro i h1 h2
    simp only [List.length_append, List.length_take, List.length_drop, List.length_cons, List.length_nil] at h1
    simp only [List.getElem_append, List.length_append, List.length_take, List.length_drop, List.length_cons, List.length_nil, List.getElem_take, List.getElem_drop]
    have m4 : min 4 b.length = 4 := by omega
    split
    · split
      · split
        · split
          · rfl
          · rename_i q1 q2 q3 q4
            have : i = 4 ∨ i = 5 := by omega
            rcases this with rfl | rfl
            · simp [m4, getElem!_pos b 4 (by omega)]
            · simp [m4, getElem!_pos b 5 (by omega)]
        · congr 1; omega
      · congr 1; omega
    · congr 1; omega
theorem hdGood_lay (h : Hd) (hk : h.ok) (more : List UInt8) : hdGood (hdLay h ++ more) = hdRight h := by
  unfold hdGood
  rw [hdOf_lay h hk more]
  have e1 : decide (30 ≤ (hdLay h ++ more).length) = true := by rw [List.length_append, hdLay_length]; simp
  have e2 : ((hdLay h ++ more).take 4 == tant) = true := by simp [hdLay, tant]
  rw [e1, e2]; simp
/-- bytes that are as a head lays its own begin with the letters -/
theorem hdLay_iff (b : List UInt8) (hl : 30 ≤ b.length) : hdLay (hdOf b) = b.take 30 ↔ b.take 4 = tant := by
  constructor
  · intro h
    have h4 : (b.take 30).take 4 = b.take 4 := by rw [List.take_take]; rfl
    rw [← h4, ← h]
    simp [hdLay, tant]
  · exact hdLay_of b hl
def Hd.zero : Hd := ⟨0, 0, 0, 0, 0⟩
/-- P7.3: what Take answers -/
def hdTake (b : List UInt8) : Hd × Nat := if b.length < 30 then (Hd.zero, 10) else if hdGood b then (hdOf b, 0) else (Hd.zero, 70)

theorem hdTake_lay (h : Hd) (hk : h.ok) (more : List UInt8) : hdTake (hdLay h ++ more) = if hdRight h then (h, 0) else (Hd.zero, 70) := by
  unfold hdTake
  rw [if_neg (by rw [List.length_append, hdLay_length]; omega), hdGood_lay h hk, hdOf_lay h hk]
/-- P7.5: unlike kinds or numbers have unlike names -/
theorem nmName_once {a b m n : Nat} (ha : 1 ≤ a ∧ a ≤ 3) (hb : 1 ≤ b ∧ b ≤ 3) (hm : m < 18446744073709551616) (hn : n < 18446744073709551616) : nmName a m = nmName b n ↔ a = b ∧ m = n := by
  constructor
  · intro h
    exact IsName.once (s := nmName a m) ⟨ha.1, by omega, hm, fun h => by omega, rfl⟩ ⟨hb.1, by omega, hn, fun h => by omega, h.symm⟩
  · rintro ⟨rfl, rfl⟩; rfl
theorem nmName_is {a m : Nat} (ha : 1 ≤ a ∧ a ≤ 3) (hm : m < 18446744073709551616) : IsName (nmName a m) a m := ⟨ha.1, by omega, hm, fun h => by omega, rfl⟩
/-- P7.4: a place's nonce -/
def nonceOf (place : Nat) : List UInt8 := fixF 8 place ++ [0, 0, 0, 0]
theorem nonceOf_length (place : Nat) : (nonceOf place).length = 12 := by unfold nonceOf; rw [List.length_append, fixF_length]; rfl
theorem nonceOf_once {a b : Nat} (ha : a < 18446744073709551616) (hb : b < 18446744073709551616) : nonceOf a = nonceOf b ↔ a = b := by
  constructor
  · intro h
    exact fixF_inj (k := 8) (by have : (256 : Nat) ^ 8 = 18446744073709551616 := by decide
                                omega) (by have : (256 : Nat) ^ 8 = 18446744073709551616 := by decide
                                           omega) (List.append_cancel_right h)
  · rintro rfl; rfl
/-! the document's examples -/
theorem ex_log : nmName 1 12 = [48, 48, 48, 48, 49, 50, 46, 108, 111, 103] := by
  unfold nmName
  rw [if_pos rfl]
  simp [digs, digC, nmLog]
theorem ex_man : nmName 3 1234567 = [109, 97, 110, 105, 102, 101, 115, 116, 45, 49, 50, 51, 52, 53, 54, 55] := by
  unfold nmName
  rw [if_neg (by omega), if_neg (by omega), if_pos rfl]
  simp [digs, digC, nmMan]
theorem ex_cur : IsName nmCur 4 0 := ⟨by omega, by omega, by omega, fun _ => rfl, rfl⟩
/-- a text that is no name: none of the numbers that are tried has it -/
theorem no_name {s : List UInt8} (h : ∀ k, 1 ≤ k → k ≤ 5 → nmName k (nmTry s k) ≠ s) : ∀ k n, ¬ IsName s k n := fun k n hn => h k hn.1 hn.2.1 ((isName_iff s k hn.1 hn.2.1).mp ⟨n, hn⟩)
theorem ex_no5 : ∀ k n, ¬ IsName [48, 48, 48, 49, 50, 46, 108, 111, 103] k n := by
  intro k n h
  have hk := nmKind_name (n := n) h.1 h.2.1
  rw [h.2.2.2.2] at hk
  have e : nmKind [48, 48, 48, 49, 50, 46, 108, 111, 103] = 1 := by decide
  rw [e] at hk
  subst hk
  have hl := congrArg List.length h.2.2.2.2
  have := digs_length 6 n
  rw [show nmName 1 n = digs 6 n ++ nmLog by simp [nmName], List.length_append] at hl
  simp [nmLog] at hl
  omega
theorem ex_no7 : ∀ k n, ¬ IsName [48, 48, 48, 48, 48, 49, 50, 46, 108, 111, 103] k n := by
  intro k n h
  have hk := nmKind_name (n := n) h.1 h.2.1
  rw [h.2.2.2.2] at hk
  have e : nmKind [48, 48, 48, 48, 48, 49, 50, 46, 108, 111, 103] = 1 := by decide
  rw [e] at hk
  subst hk
  have hs := h.2.2.2.2
  rw [show nmName 1 n = digs 6 n ++ nmLog by simp [nmName]] at hs
  have hl := congrArg List.length hs
  rw [List.length_append] at hl
  have h7 : (digs 6 n).length = 7 := by simp [nmLog] at hl; omega
  have hh := digs_head 6 n (by omega)
  obtain ⟨c, r, hc, -⟩ := digs_first n
  rw [hc] at hs hh
  simp only [List.cons_append, List.cons.injEq] at hs
  rw [hs.1] at hh
  exact hh rfl

end Go.Proofs.YtpmkcjgndljhgaaDoor

/- words as cells, and small things that several packages' walks share. Nothing of the program. -/
namespace Go.Proofs.YtpmkcjgndljhgaaDoor
open Go.ChangeShapes Go.WideShapes Go.ChangeAt Go.RowKit

theorem u64_wrap (x : Int) : IntKind.wrap .u64 x = x % 18446744073709551616 := rfl
theorem retInt {k : IntKind} {a b : Int} (h : a = b) : Ending.returned (.int k a) = .returned (.int k b) := by rw [h]
theorem Fr.drewN (w : World) (n : Nat) : Fr Non w (w.drewN n) := ⟨rfl, rfl, rfl, Nat.le_refl _, fun _ _ _ => rfl⟩
/-- words as cells -/
def us (l : List Nat) : List Value := l.map fun x : Nat => .int .u32 (x : Int)
theorem us_length (l : List Nat) : (us l).length = l.length := by simp [us]
theorem us_append (l m : List Nat) : us (l ++ m) = us l ++ us m := by simp [us]
theorem us_at (l : List Nat) (i : Nat) (h : i < l.length) : (us l)[i]? = some (.int .u32 (l[i]! : Int)) := by simp [us, h]
theorem us_at? (l : List Nat) (i x : Nat) (h : l[i]? = some x) : (us l)[i]? = some (.int .u32 (x : Int)) := by simp [us, h]
theorem us_set (l : List Nat) (i x : Nat) : (us l).set i (.int .u32 (x : Int)) = us (l.set i x) := by simp [us, List.map_set]
theorem us_one (l : List Nat) : ∀ v ∈ us l, v.oneCell' = true := by
  intro v hv
  simp only [us, List.mem_map] at hv
  obtain ⟨c, _, rfl⟩ := hv
  rfl
theorem all_one {l : List Value} (h : ∀ v ∈ l, v.oneCell' = true) : (l.toArray.all fun v => v.oneCell') = true := by
  rw [Array.all_eq_true_iff_forall_mem]; intro v hv; exact h v (by simpa using hv)
theorem bs_snoc (l : List UInt8) (c : UInt8) : bs (l ++ [c]) = bs l ++ [.int .u8 (c.toNat : Int)] := by rw [bs_append]; rfl
theorem u8xor (a b : UInt8) : bits BinOp.xor IntKind.u8 (a.toNat : Int) (b.toNat : Int) = ((a ^^^ b).toNat : Int) := by
  rw [u8_xor_nat _ _ a.toNat_lt b.toNat_lt, UInt8.toNat_xor]
end Go.Proofs.YtpmkcjgndljhgaaDoor

/- texts as byte arrays. Nothing of the program. -/
namespace Go.Proofs.YtpmkcjgndljhgaaDoor

theorem beq_toList_ne {a b : ByteArray} (h : ¬ a = b) : (a.toList == b.toList) = false := by
  simp only [ByteArray.toList_eq, beq_eq_false_iff_ne]
  exact fun e => h (ByteArray.ext (Array.toList_inj.mp e))
theorem extract_drop (s : ByteArray) (k : Nat) : (s.extract k s.size).data.toList = s.data.toList.drop k := by
  rw [ByteArray.data_extract, Array.toList_extract, List.extract_eq_take_drop]
  exact List.take_of_length_le (by rw [List.length_drop, Array.length_toList]; exact Nat.le_refl _)
end Go.Proofs.YtpmkcjgndljhgaaDoor

/- package name: what a parse answers. Nothing of the program. -/
namespace Go.Proofs.YtpmkcjgndljhgaaDoor
open Go.ChangeShapes Go.WideShapes Go.ChangeAt Go.RowKit

/-- P7.2: what a parse answers -/
def Parsed (l : List UInt8) (k n : Nat) (b : Bool) : Prop := (b = true ∧ IsName l k n) ∨ (b = false ∧ k = 0 ∧ n = 0 ∧ ∀ k n, ¬ IsName l k n)
theorem Parsed.once {l : List UInt8} {k n k' n' : Nat} {b b' : Bool} (h : Parsed l k n b) (h' : Parsed l k' n' b') : k = k' ∧ n = n' ∧ b = b' := by
  rcases h with ⟨rfl, h⟩ | ⟨rfl, rfl, rfl, h⟩ <;> rcases h' with ⟨rfl, h'⟩ | ⟨rfl, rfl, rfl, h'⟩
  · obtain ⟨h1, h2⟩ := h.once h'
    exact ⟨h1, h2, rfl⟩
  · exact absurd h (h' _ _)
  · exact absurd h' (h _ _)
  · exact ⟨rfl, rfl, rfl⟩

def ParsedR (l : List UInt8) (e : Ending) : Prop := ∃ (k n : Nat) (b : Bool), e = .returned (.tuple #[.int .u8 k, .int .u64 n, .bool b]) ∧ Parsed l k n b

end Go.Proofs.YtpmkcjgndljhgaaDoor
