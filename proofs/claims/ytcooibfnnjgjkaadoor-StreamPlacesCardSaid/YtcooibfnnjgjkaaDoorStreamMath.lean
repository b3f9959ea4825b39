/- package stream, plain: blocks and crossed bytes on numbers -/
import Derived.Test.YtcooibfnnjgjkaaDoorShaMath
namespace Go.Proofs.YtcooibfnnjgjkaaDoor

/-- x with its highest k bits moved to the bottom -/
def rotl (k x : Nat) : Nat := rotr (32 - k) x
theorem rotl_lt {k x : Nat} (hx : x < 4294967296) : rotl k x < 4294967296 := rotr_lt (by omega) hx
theorem rotl_or {k x : Nat} (hk : k ≤ 32) (hx : x < 4294967296) : (x * 2 ^ k % 4294967296) ||| (x / 2 ^ (32 - k)) = rotl k x := by
  have h := rotr_or (k := 32 - k) (x := x) (by omega) hx
  rw [show 32 - (32 - k) = k by omega] at h
  rw [Nat.or_comm]
  exact h

/-- what a quarter makes of its four words -/
structure Qu where
  a : Nat
  b : Nat
  c : Nat
  d : Nat
def Qu.ok (q : Qu) : Prop := q.a < 4294967296 ∧ q.b < 4294967296 ∧ q.c < 4294967296 ∧ q.d < 4294967296
def Qu.ab (q : Qu) : Qu := ⟨(q.a + q.b) % 4294967296, q.b, q.c, q.d⟩
def Qu.da (k : Nat) (q : Qu) : Qu := ⟨q.a, q.b, q.c, rotl k (q.d ^^^ q.a)⟩
def Qu.cd (q : Qu) : Qu := ⟨q.a, q.b, (q.c + q.d) % 4294967296, q.d⟩
def Qu.bc (k : Nat) (q : Qu) : Qu := ⟨q.a, rotl k (q.b ^^^ q.c), q.c, q.d⟩
def Qu.all (q : Qu) : Qu := ((((((((q.ab).da 16).cd).bc 12).ab).da 8).cd).bc 7)
theorem Qu.ab_ok {q : Qu} (h : q.ok) : q.ab.ok := ⟨Nat.mod_lt _ (by omega), h.2.1, h.2.2.1, h.2.2.2⟩
theorem Qu.da_ok {q : Qu} (k : Nat) (h : q.ok) : (q.da k).ok := ⟨h.1, h.2.1, h.2.2.1, rotl_lt (xor_lt32 h.2.2.2 h.1)⟩
theorem Qu.cd_ok {q : Qu} (h : q.ok) : q.cd.ok := ⟨h.1, h.2.1, Nat.mod_lt _ (by omega), h.2.2.2⟩
theorem Qu.bc_ok {q : Qu} (k : Nat) (h : q.ok) : (q.bc k).ok := ⟨h.1, rotl_lt (xor_lt32 h.2.1 h.2.2.1), h.2.2.1, h.2.2.2⟩
theorem Qu.all_ok {q : Qu} (h : q.ok) : q.all.ok := Qu.bc_ok _ (Qu.cd_ok (Qu.da_ok _ (Qu.ab_ok (Qu.bc_ok _ (Qu.cd_ok (Qu.da_ok _ (Qu.ab_ok h)))))))

/-- four unlike places of sixteen -/
structure Four (a b c d : Nat) : Prop where
  ha : a < 16
  hb : b < 16
  hc : c < 16
  hd : d < 16
  ab : a ≠ b
  ac : a ≠ c
  ad : a ≠ d
  bc : b ≠ c
  bd : b ≠ d
  cd : c ≠ d
def put4 (L : List Nat) (a b c d : Nat) (q : Qu) : List Nat := (((L.set a q.a).set b q.b).set c q.c).set d q.d
def get4 (L : List Nat) (a b c d : Nat) : Qu := ⟨L[a]!, L[b]!, L[c]!, L[d]!⟩
def quarter (L : List Nat) (a b c d : Nat) : List Nat := put4 L a b c d (get4 L a b c d).all
theorem put4_length (L : List Nat) (a b c d : Nat) (q : Qu) : (put4 L a b c d q).length = L.length := by simp [put4]
theorem set_self (L : List Nat) (a : Nat) : L.set a L[a]! = L := by
  by_cases h : a < L.length
  · rw [getElem!_pos L a h]; exact List.set_getElem_self h
  · exact List.set_eq_of_length_le (by omega)
theorem put4_get4 (L : List Nat) (a b c d : Nat) : put4 L a b c d (get4 L a b c d) = L := by
  unfold put4 get4
  simp only [set_self]
section
variable {L : List Nat} {a b c d : Nat} (h : Four a b c d)
include h
theorem put4_a (hL : L.length = 16) (q : Qu) : (put4 L a b c d q)[a]? = some q.a := by
  have h1 := h.ab; have h2 := h.ac; have h3 := h.ad; have h4 := h.ha
  unfold put4
  rw [List.getElem?_set_ne (by omega), List.getElem?_set_ne (by omega), List.getElem?_set_ne (by omega), List.getElem?_set_self (by omega)]
theorem put4_b (hL : L.length = 16) (q : Qu) : (put4 L a b c d q)[b]? = some q.b := by
  have h2 := h.bc; have h3 := h.bd; have h4 := h.hb
  unfold put4
  rw [List.getElem?_set_ne (by omega), List.getElem?_set_ne (by omega), List.getElem?_set_self (by simp; omega)]
theorem put4_c (hL : L.length = 16) (q : Qu) : (put4 L a b c d q)[c]? = some q.c := by
  have h3 := h.cd; have h4 := h.hc
  unfold put4
  rw [List.getElem?_set_ne (by omega), List.getElem?_set_self (by simp; omega)]
theorem put4_d (hL : L.length = 16) (q : Qu) : (put4 L a b c d q)[d]? = some q.d := by
  have h4 := h.hd
  unfold put4
  rw [List.getElem?_set_self (by simp; omega)]
theorem put4_setA (q : Qu) (x : Nat) : (put4 L a b c d q).set a x = put4 L a b c d ⟨x, q.b, q.c, q.d⟩ := by
  have h1 := h.ab; have h2 := h.ac; have h3 := h.ad
  unfold put4
  dsimp only
  rw [List.set_comm _ _ (Ne.symm h3), List.set_comm _ _ (Ne.symm h2), List.set_comm _ _ (Ne.symm h1), List.set_set]
theorem put4_setB (q : Qu) (x : Nat) : (put4 L a b c d q).set b x = put4 L a b c d ⟨q.a, x, q.c, q.d⟩ := by
  have h2 := h.bc; have h3 := h.bd
  unfold put4
  dsimp only
  rw [List.set_comm _ _ (Ne.symm h3), List.set_comm _ _ (Ne.symm h2), List.set_set]
theorem put4_setC (q : Qu) (x : Nat) : (put4 L a b c d q).set c x = put4 L a b c d ⟨q.a, q.b, x, q.d⟩ := by
  have h3 := h.cd
  unfold put4
  dsimp only
  rw [List.set_comm _ _ (Ne.symm h3), List.set_set]
omit h in
theorem put4_setD (q : Qu) (x : Nat) : (put4 L a b c d q).set d x = put4 L a b c d ⟨q.a, q.b, q.c, x⟩ := by
  unfold put4
  dsimp only
  rw [List.set_set]
end
theorem get4_ok {L : List Nat} (h : ∀ x ∈ L, x < 4294967296) (a b c d : Nat) : (get4 L a b c d).ok := ⟨get_lt h _, get_lt h _, get_lt h _, get_lt h _⟩
theorem put4_lt {L : List Nat} (h : ∀ x ∈ L, x < 4294967296) (a b c d : Nat) {q : Qu} (hq : q.ok) : ∀ x ∈ put4 L a b c d q, x < 4294967296 := by
  intro x hx
  unfold put4 at hx
  obtain ⟨h1, h2, h3, h4⟩ := hq
  rcases List.mem_or_eq_of_mem_set hx with hx | rfl
  · rcases List.mem_or_eq_of_mem_set hx with hx | rfl
    · rcases List.mem_or_eq_of_mem_set hx with hx | rfl
      · rcases List.mem_or_eq_of_mem_set hx with hx | rfl
        · exact h x hx
        · exact h1
      · exact h2
    · exact h3
  · exact h4
/-- sixteen words -/
def Ws (L : List Nat) : Prop := L.length = 16 ∧ ∀ x ∈ L, x < 4294967296
theorem quarter_ok {L : List Nat} (h : Ws L) (a b c d : Nat) : Ws (quarter L a b c d) := ⟨by rw [quarter, put4_length, h.1], put4_lt h.2 a b c d (Qu.all_ok (get4_ok h.2 a b c d))⟩
def downs : Nat → List Nat → List Nat
  | 0, y => y
  | k + 1, y => quarter (downs k y) k (4 + k) (8 + k) (12 + k)
def aslant : Nat → List Nat → List Nat
  | 0, y => y
  | k + 1, y => quarter (aslant k y) k (4 + (k + 1) % 4) (8 + (k + 2) % 4) (12 + (k + 3) % 4)
def stirs : Nat → List Nat → List Nat
  | 0, y => y
  | k + 1, y => aslant 4 (downs 4 (stirs k y))
theorem downs_ok {L : List Nat} (h : Ws L) (k : Nat) : Ws (downs k L) := by
  induction k with
  | zero => exact h
  | succ k ih => exact quarter_ok ih _ _ _ _
theorem aslant_ok {L : List Nat} (h : Ws L) (k : Nat) : Ws (aslant k L) := by
  induction k with
  | zero => exact h
  | succ k ih => exact quarter_ok ih _ _ _ _
theorem stirs_ok {L : List Nat} (h : Ws L) (k : Nat) : Ws (stirs k L) := by
  induction k with
  | zero => exact h
  | succ k ih => exact aslant_ok (downs_ok ih _) _
/-- four bytes as a word, the lowest first -/
def le4 (l : List UInt8) (i : Nat) : Nat := l[i]!.toNat + l[i + 1]!.toNat * 256 + l[i + 2]!.toNat * 65536 + l[i + 3]!.toNat * 16777216
theorem le4_lt (l : List UInt8) (i : Nat) : le4 l i < 4294967296 := by
  unfold le4
  have h0 := l[i]!.toNat_lt
  have h1 := l[i + 1]!.toNat_lt
  have h2 := l[i + 2]!.toNat_lt
  have h3 := l[i + 3]!.toNat_lt
  omega
/-- k words of bytes, the lowest first -/
def leWords (l : List UInt8) : Nat → List Nat
  | 0 => []
  | k + 1 => leWords l k ++ [le4 l (4 * k)]
theorem leWords_length (l : List UInt8) (k : Nat) : (leWords l k).length = k := by
  induction k with
  | zero => rfl
  | succ k ih => simp [leWords, ih]
theorem leWords_lt (l : List UInt8) (k : Nat) : ∀ x ∈ leWords l k, x < 4294967296 := by
  induction k with
  | zero => simp [leWords]
  | succ k ih =>
    intro x hx
    simp only [leWords, List.mem_append, List.mem_singleton] at hx
    rcases hx with hx | rfl
    · exact ih x hx
    · exact le4_lt _ _
def streamStart : List Nat := [1634760805, 857760878, 2036477234, 1797285236]
/-- the words that a block is made of -/
def begun (key nonce : List UInt8) (count : Nat) : List Nat := streamStart ++ leWords key 8 ++ [count] ++ leWords nonce 3
theorem begun_ok (key nonce : List UInt8) {count : Nat} (h : count < 4294967296) : Ws (begun key nonce count) := by
  refine ⟨by simp [begun, streamStart, leWords_length], fun x hx => ?_⟩
  simp only [begun, List.mem_append, List.mem_singleton] at hx
  rcases hx with ((hx | hx) | rfl) | hx
  · revert x; decide
  · exact leWords_lt _ _ x hx
  · exact h
  · exact leWords_lt _ _ x hx
/-- byte i of words, the lowest first -/
def wordByte (y : List Nat) (i : Nat) : UInt8 := UInt8.ofNat (y[i / 4]! / 2 ^ (8 * (i % 4)))
def wordBytes (y : List Nat) : Nat → List UInt8
  | 0 => []
  | k + 1 => wordBytes y k ++ [wordByte y k]
theorem wordBytes_length (y : List Nat) (k : Nat) : (wordBytes y k).length = k := by
  induction k with
  | zero => rfl
  | succ k ih => simp [wordBytes, ih]
/-- k places of y with those of x added -/
def plusTo (y x : List Nat) (k : Nat) : List Nat := (List.range k).map (fun i => (y[i]! + x[i]!) % 4294967296) ++ y.drop k
theorem plusTo_length (y x : List Nat) (k : Nat) (hk : k ≤ y.length) : (plusTo y x k).length = y.length := by simp [plusTo]; omega
theorem plusTo_at (y x : List Nat) (k : Nat) (hk : k < y.length) : (plusTo y x k)[k]? = some y[k]! := by
  unfold plusTo
  rw [List.getElem?_append_right (by simp), getElem!_pos y k hk]
  simp [hk]
theorem plusTo_set (y x : List Nat) (k : Nat) (hk : k < y.length) : (plusTo y x k).set k ((y[k]! + x[k]!) % 4294967296) = plusTo y x (k + 1) := by
  unfold plusTo
  rw [List.set_append_right _ _ (by simp), List.length_map, List.length_range, Nat.sub_self, List.drop_eq_getElem_cons hk, List.set_cons_zero, List.range_succ, List.map_append, List.append_assoc]
  rfl
theorem plusTo_lt {y : List Nat} (x : List Nat) (k : Nat) (hy : ∀ z ∈ y, z < 4294967296) : ∀ z ∈ plusTo y x k, z < 4294967296 := by
  intro z hz
  simp only [plusTo, List.mem_append, List.mem_map] at hz
  rcases hz with ⟨_, _, rfl⟩ | hz
  · exact Nat.mod_lt _ (by omega)
  · exact hy z (List.mem_of_mem_drop hz)
/-- 64 bytes of a key, a nonce and a count -/
def streamBlock (key nonce : List UInt8) (count : Nat) : List UInt8 := wordBytes (plusTo (stirs 10 (begun key nonce count)) (begun key nonce count) 16) 64
theorem streamBlock_length (key nonce : List UInt8) (count : Nat) : (streamBlock key nonce count).length = 64 := wordBytes_length _ _
/-- the stream's byte at a place -/
def streamAt (key nonce : List UInt8) (count i : Nat) : UInt8 := (streamBlock key nonce ((count + i / 64) % 4294967296))[i % 64]!
/-- the first k bytes crossed -/
def crossTo (key nonce : List UInt8) (count : Nat) (b : List UInt8) : Nat → List UInt8
  | 0 => []
  | k + 1 => crossTo key nonce count b k ++ [b[k]! ^^^ streamAt key nonce count k]
def streamCross (key nonce : List UInt8) (count : Nat) (b : List UInt8) : List UInt8 := crossTo key nonce count b b.length
theorem crossTo_length (key nonce : List UInt8) (count : Nat) (b : List UInt8) (k : Nat) : (crossTo key nonce count b k).length = k := by
  induction k with
  | zero => rfl
  | succ k ih => simp [crossTo, ih]
theorem streamCross_length (key nonce : List UInt8) (count : Nat) (b : List UInt8) : (streamCross key nonce count b).length = b.length := crossTo_length _ _ _ _ _
theorem crossTo_at (key nonce : List UInt8) (count : Nat) (b : List UInt8) (k i : Nat) (h : i < k) : (crossTo key nonce count b k)[i]! = b[i]! ^^^ streamAt key nonce count i := by
  induction k with
  | zero => omega
  | succ k ih =>
    have hl := crossTo_length key nonce count b k
    rw [crossTo]
    by_cases hi : i < k
    · rw [← ih hi, getElem!_pos _ i (by simp; omega), getElem!_pos _ i (by omega), List.getElem_append_left (by omega)]
    · obtain rfl : i = k := by omega
      rw [getElem!_pos _ i (by simp; omega), List.getElem_append_right (by omega)]
      simp [hl]
theorem streamCross_at (key nonce : List UInt8) (count : Nat) (b : List UInt8) (i : Nat) (h : i < b.length) : (streamCross key nonce count b)[i]! = b[i]! ^^^ streamAt key nonce count i := crossTo_at _ _ _ _ _ _ h
theorem ext_get! {a b : List UInt8} (h : a.length = b.length) (h2 : ∀ i, i < a.length → a[i]! = b[i]!) : a = b := by
  refine List.ext_getElem h fun i h3 h4 => ?_
  have := h2 i h3
  rwa [getElem!_pos a i h3, getElem!_pos b i h4] at this
/-- crossed twice, bytes are as they were -/
theorem streamCross_twice (key nonce : List UInt8) (count : Nat) (b : List UInt8) : streamCross key nonce count (streamCross key nonce count b) = b := by
  refine ext_get! (by rw [streamCross_length, streamCross_length]) fun i h => ?_
  rw [streamCross_length, streamCross_length] at h
  rw [streamCross_at _ _ _ _ _ (by rw [streamCross_length]; exact h), streamCross_at _ _ _ _ _ h, UInt8.xor_assoc, UInt8.xor_self, UInt8.xor_zero]
theorem drop_get! (l : List UInt8) (n i : Nat) : (l.drop n)[i]! = l[n + i]! := by
  by_cases h : n + i < l.length
  · rw [getElem!_pos (l.drop n) i (by simp; omega), getElem!_pos l (n + i) h, List.getElem_drop]
  · rw [getElem!_neg (l.drop n) i (by simp; omega), getElem!_neg l (n + i) h]
/-- bytes that begin at a block's beginning -/
theorem streamCross_later (key nonce : List UInt8) (count n : Nat) (b : List UInt8) : (streamCross key nonce count b).drop (64 * n) = streamCross key nonce ((count + n) % 4294967296) (b.drop (64 * n)) := by
  refine ext_get! (by rw [streamCross_length, List.length_drop, List.length_drop, streamCross_length]) fun i h => ?_
  rw [List.length_drop, streamCross_length] at h
  rw [drop_get!, streamCross_at _ _ _ _ _ (by omega), streamCross_at _ _ _ _ _ (by rw [List.length_drop]; exact h), drop_get!]
  refine congrArg (b[64 * n + i]! ^^^ ·) ?_
  unfold streamAt
  have h1 : (count + (64 * n + i) / 64) % 4294967296 = ((count + n) % 4294967296 + i / 64) % 4294967296 := by omega
  have h2 : (64 * n + i) % 64 = i % 64 := by omega
  generalize streamBlock key nonce = f
  rw [h1, h2]
/-- they differ just where these do -/
theorem streamCross_places (key nonce : List UInt8) (count : Nat) (a b : List UInt8) (i : Nat) (h1 : i < a.length) (h2 : i < b.length) :
    (streamCross key nonce count a)[i]! ^^^ (streamCross key nonce count b)[i]! = a[i]! ^^^ b[i]! := by
  rw [streamCross_at _ _ _ _ _ h1, streamCross_at _ _ _ _ _ h2]
  generalize streamAt key nonce count i = s
  rw [UInt8.xor_assoc, UInt8.xor_comm b[i]! s, ← UInt8.xor_assoc s s, UInt8.xor_self, UInt8.zero_xor]
set_option maxRecDepth 100000 in
theorem stream_shown : (streamBlock ((List.range 32).map UInt8.ofNat) [0, 0, 0, 9, 0, 0, 0, 74, 0, 0, 0, 0] 1).take 8 = [16, 241, 231, 228, 209, 59, 89, 21] := by kernel_rfl
end Go.Proofs.YtcooibfnnjgjkaaDoor
