/- package sha, plain: the digest on numbers -/
import Derived.Test.YtpmkcjgndljhgaaDoorRows
import Derived.Laws.BitsAllLaws

namespace Go.Proofs.YtpmkcjgndljhgaaDoor

/-- x with its lowest k bits moved to the top -/
def rotr (k x : Nat) : Nat := x / 2 ^ k + x % 2 ^ k * 2 ^ (32 - k)
theorem rotr_lt {k x : Nat} (hk : k ≤ 32) (hx : x < 4294967296) : rotr k x < 4294967296 := by
  unfold rotr
  have e : (2 : Nat) ^ 32 = 2 ^ k * 2 ^ (32 - k) := by rw [← Nat.pow_add]; congr 1; omega
  have h1 : x / 2 ^ k < 2 ^ (32 - k) := by
    rw [Nat.div_lt_iff_lt_mul (Nat.two_pow_pos k), Nat.mul_comm, ← e]; omega
  have h2 : x % 2 ^ k ≤ 2 ^ k - 1 := by have := Nat.mod_lt x (Nat.two_pow_pos k); omega
  have h3 : x % 2 ^ k * 2 ^ (32 - k) ≤ (2 ^ k - 1) * 2 ^ (32 - k) := Nat.mul_le_mul_right _ h2
  rw [Nat.sub_mul, ← e] at h3
  have h4 : (2 : Nat) ^ (32 - k) ≤ 2 ^ 32 := Nat.pow_le_pow_right (by omega) (by omega)
  omega
/-- how the shifts come to it -/
theorem rotr_or {k x : Nat} (hk : k ≤ 32) (hx : x < 4294967296) : (x / 2 ^ k) ||| (x * 2 ^ (32 - k) % 4294967296) = rotr k x := by
  have e : (2 : Nat) ^ 32 = 2 ^ k * 2 ^ (32 - k) := by rw [← Nat.pow_add]; congr 1; omega
  have h1 : x / 2 ^ k < 2 ^ (32 - k) := by
    rw [Nat.div_lt_iff_lt_mul (Nat.two_pow_pos k), Nat.mul_comm, ← e]; omega
  have h2 : x * 2 ^ (32 - k) % 4294967296 = x % 2 ^ k * 2 ^ (32 - k) := by
    rw [show (4294967296 : Nat) = 2 ^ k * 2 ^ (32 - k) from by rw [← e], Nat.mul_mod_mul_right]
  rw [h2]
  have := Nat.two_pow_add_eq_or_of_lt h1 (x % 2 ^ k)
  rw [Nat.or_comm, Nat.mul_comm (x % 2 ^ k), ← this]
  unfold rotr
  rw [Nat.mul_comm, Nat.add_comm]

def sha_s0 (x : Nat) : Nat := rotr 7 x ^^^ rotr 18 x ^^^ (x / 8)
def sha_s1 (x : Nat) : Nat := rotr 17 x ^^^ rotr 19 x ^^^ (x / 1024)
def sha_S0 (x : Nat) : Nat := rotr 2 x ^^^ rotr 13 x ^^^ rotr 22 x
def sha_S1 (x : Nat) : Nat := rotr 6 x ^^^ rotr 11 x ^^^ rotr 25 x
def sha_ch (e f g : Nat) : Nat := (e &&& f) ^^^ ((4294967295 - e) &&& g)
def sha_mj (a b c : Nat) : Nat := (a &&& b) ^^^ (a &&& c) ^^^ (b &&& c)
theorem xor_lt32 {x y : Nat} (hx : x < 4294967296) (hy : y < 4294967296) : x ^^^ y < 4294967296 := Nat.xor_lt_two_pow (n := 32) hx hy
theorem and_lt32 {x y : Nat} (hx : x < 4294967296) : x &&& y < 4294967296 := Nat.lt_of_le_of_lt Nat.and_le_left hx
theorem sha_s0_lt {x : Nat} (hx : x < 4294967296) : sha_s0 x < 4294967296 := xor_lt32 (xor_lt32 (rotr_lt (by omega) hx) (rotr_lt (by omega) hx)) (by omega)
theorem sha_s1_lt {x : Nat} (hx : x < 4294967296) : sha_s1 x < 4294967296 := xor_lt32 (xor_lt32 (rotr_lt (by omega) hx) (rotr_lt (by omega) hx)) (by omega)
theorem sha_S0_lt {x : Nat} (hx : x < 4294967296) : sha_S0 x < 4294967296 := xor_lt32 (xor_lt32 (rotr_lt (by omega) hx) (rotr_lt (by omega) hx)) (rotr_lt (by omega) hx)
theorem sha_S1_lt {x : Nat} (hx : x < 4294967296) : sha_S1 x < 4294967296 := xor_lt32 (xor_lt32 (rotr_lt (by omega) hx) (rotr_lt (by omega) hx)) (rotr_lt (by omega) hx)
theorem sha_ch_lt {e f g : Nat} (he : e < 4294967296) : sha_ch e f g < 4294967296 := xor_lt32 (and_lt32 he) (and_lt32 (by omega))
theorem sha_mj_lt {a b c : Nat} (ha : a < 4294967296) (hb : b < 4294967296) : sha_mj a b c < 4294967296 := xor_lt32 (xor_lt32 (and_lt32 ha) (and_lt32 ha)) (and_lt32 hb)

def shaK : List Nat := [1116352408, 1899447441, 3049323471, 3921009573, 961987163, 1508970993, 2453635748, 2870763221, 3624381080, 310598401, 607225278, 1426881987, 1925078388, 2162078206, 2614888103, 3248222580,
  3835390401, 4022224774, 264347078, 604807628, 770255983, 1249150122, 1555081692, 1996064986, 2554220882, 2821834349, 2952996808, 3210313671, 3336571891, 3584528711, 113926993, 338241895,
  666307205, 773529912, 1294757372, 1396182291, 1695183700, 1986661051, 2177026350, 2456956037, 2730485921, 2820302411, 3259730800, 3345764771, 3516065817, 3600352804, 4094571909, 275423344,
  430227734, 506948616, 659060556, 883997877, 958139571, 1322822218, 1537002063, 1747873779, 1955562222, 2024104815, 2227730452, 2361852424, 2428436474, 2756734187, 3204031479, 3329325298]
theorem shaK_length : shaK.length = 64 := by decide +kernel
theorem shaK_lt : ∀ i, i < 64 → shaK[i]! < 4294967296 := by decide +kernel

/-- four bytes as a word, the highest first -/
def be4 (l : List UInt8) (i : Nat) : Nat := l[i]!.toNat * 16777216 + l[i + 1]!.toNat * 65536 + l[i + 2]!.toNat * 256 + l[i + 3]!.toNat
theorem be4_lt (l : List UInt8) (i : Nat) : be4 l i < 4294967296 := by
  unfold be4
  have h0 := l[i]!.toNat_lt
  have h1 := l[i + 1]!.toNat_lt
  have h2 := l[i + 2]!.toNat_lt
  have h3 := l[i + 3]!.toNat_lt
  omega
/-- the word that comes next -/
def shaNext (w : List Nat) : Nat := (w[w.length - 16]! + sha_s0 w[w.length - 15]! + w[w.length - 7]! + sha_s1 w[w.length - 2]!) % 4294967296
def shaFill : Nat → List Nat → List Nat
  | 0, w => w
  | k + 1, w => shaFill k (w ++ [shaNext w])
def shaFirst (b : List UInt8) : Nat → List Nat
  | 0 => []
  | k + 1 => shaFirst b k ++ [be4 b (4 * k)]
/-- a block's 64 words -/
def shaWords (b : List UInt8) : List Nat := shaFill 48 (shaFirst b 16)
theorem shaFill_snoc (k : Nat) (w : List Nat) : shaFill (k + 1) w = shaFill k w ++ [shaNext (shaFill k w)] := by
  induction k generalizing w with
  | zero => rfl
  | succ k ih => rw [shaFill, ih]; rfl
theorem shaFirst_length (b : List UInt8) (k : Nat) : (shaFirst b k).length = k := by
  induction k with
  | zero => rfl
  | succ k ih => simp [shaFirst, ih]
theorem shaFill_length (k : Nat) (w : List Nat) : (shaFill k w).length = k + w.length := by
  induction k generalizing w with
  | zero => simp [shaFill]
  | succ k ih => rw [shaFill, ih]; simp; omega
theorem shaFirst_lt (b : List UInt8) (k : Nat) : ∀ x ∈ shaFirst b k, x < 4294967296 := by
  induction k with
  | zero => simp [shaFirst]
  | succ k ih =>
    intro x hx
    simp only [shaFirst, List.mem_append, List.mem_singleton] at hx
    rcases hx with hx | rfl
    · exact ih x hx
    · exact be4_lt _ _
theorem shaFill_lt (k : Nat) (w : List Nat) (h : ∀ x ∈ w, x < 4294967296) : ∀ x ∈ shaFill k w, x < 4294967296 := by
  induction k generalizing w with
  | zero => exact h
  | succ k ih =>
    refine ih _ (fun x hx => ?_)
    simp only [List.mem_append, List.mem_singleton] at hx
    rcases hx with hx | rfl
    · exact h x hx
    · exact Nat.mod_lt _ (by omega)
theorem shaWords_length (b : List UInt8) : (shaWords b).length = 64 := by rw [shaWords, shaFill_length, shaFirst_length]
theorem shaWords_lt (b : List UInt8) : ∀ x ∈ shaWords b, x < 4294967296 := shaFill_lt _ _ (shaFirst_lt _ _)
theorem get_lt {w : List Nat} (h : ∀ x ∈ w, x < 4294967296) (i : Nat) : w[i]! < 4294967296 := by
  by_cases hi : i < w.length
  · rw [getElem!_pos w i hi]; exact h _ (List.getElem_mem hi)
  · rw [getElem!_neg w i hi]; decide

/-- eight words -/
structure St8 where
  a : Nat
  b : Nat
  c : Nat
  d : Nat
  e : Nat
  f : Nat
  g : Nat
  h : Nat
def St8.ok (s : St8) : Prop := s.a < 4294967296 ∧ s.b < 4294967296 ∧ s.c < 4294967296 ∧ s.d < 4294967296 ∧ s.e < 4294967296 ∧ s.f < 4294967296 ∧ s.g < 4294967296 ∧ s.h < 4294967296
def St8.list (s : St8) : List Nat := [s.a, s.b, s.c, s.d, s.e, s.f, s.g, s.h]
def shaT (s : St8) (k w : Nat) : Nat := (s.h + sha_S1 s.e + sha_ch s.e s.f s.g + k + w) % 4294967296
def shaU (s : St8) : Nat := (sha_S0 s.a + sha_mj s.a s.b s.c) % 4294967296
def shaRound (s : St8) (k w : Nat) : St8 := ⟨(shaT s k w + shaU s) % 4294967296, s.a, s.b, s.c, (s.d + shaT s k w) % 4294967296, s.e, s.f, s.g⟩
def shaRounds (s : St8) (w : List Nat) : Nat → St8
  | 0 => s
  | k + 1 => shaRound (shaRounds s w k) shaK[k]! w[k]!
def St8.plus (x s : St8) : St8 := ⟨(x.a + s.a) % 4294967296, (x.b + s.b) % 4294967296, (x.c + s.c) % 4294967296, (x.d + s.d) % 4294967296, (x.e + s.e) % 4294967296, (x.f + s.f) % 4294967296, (x.g + s.g) % 4294967296, (x.h + s.h) % 4294967296⟩
/-- the state behind a block -/
def shaBlock (s : St8) (b : List UInt8) : St8 := (shaRounds s (shaWords b) 64).plus s
theorem shaRound_ok {s : St8} (h : s.ok) (k w : Nat) : (shaRound s k w).ok := by
  obtain ⟨h1, h2, h3, h4, h5, h6, h7, h8⟩ := h
  exact ⟨Nat.mod_lt _ (by omega), h1, h2, h3, Nat.mod_lt _ (by omega), h5, h6, h7⟩
theorem shaRounds_ok {s : St8} (h : s.ok) (w : List Nat) (k : Nat) : (shaRounds s w k).ok := by
  induction k with
  | zero => exact h
  | succ k ih => exact shaRound_ok ih _ _
theorem plus_ok (x s : St8) : (x.plus s).ok := by
  refine ⟨?_, ?_, ?_, ?_, ?_, ?_, ?_, ?_⟩ <;> exact Nat.mod_lt _ (by omega)
theorem shaBlock_ok (s : St8) (b : List UInt8) : (shaBlock s b).ok := plus_ok _ _

/-- so many blocks -/
def shaRun : Nat → St8 → List UInt8 → St8
  | 0, s, _ => s
  | n + 1, s, l => shaRun n (shaBlock s (l.take 64)) (l.drop 64)
theorem shaRun_ok (n : Nat) {s : St8} (h : s.ok) (l : List UInt8) : (shaRun n s l).ok := by
  induction n generalizing s l with
  | zero => exact h
  | succ n ih => exact ih (shaBlock_ok _ _) _
theorem shaRun_snoc (n : Nat) (s : St8) (l : List UInt8) : shaRun (n + 1) s l = shaBlock (shaRun n s l) ((l.drop (64 * n)).take 64) := by
  induction n generalizing s l with
  | zero => simp [shaRun]
  | succ n ih =>
    rw [shaRun, ih, List.drop_drop]
    rw [show 64 + 64 * n = 64 * (n + 1) by omega]
    rfl
theorem shaRun_append (n m : Nat) (s : St8) (l : List UInt8) : shaRun (n + m) s l = shaRun m (shaRun n s l) (l.drop (64 * n)) := by
  induction n generalizing s l with
  | zero => simp [shaRun]
  | succ n ih =>
    rw [show n + 1 + m = (n + m) + 1 by omega, shaRun, ih, List.drop_drop, show 64 + 64 * n = 64 * (n + 1) by omega]
    rfl
/-- what stands behind whole blocks has no part -/
theorem shaRun_front (n : Nat) (s : St8) (l m : List UInt8) (h : 64 * n ≤ l.length) : shaRun n s (l ++ m) = shaRun n s l := by
  induction n generalizing s l with
  | zero => rfl
  | succ n ih =>
    rw [shaRun, shaRun, List.take_append_of_le_length (by omega), List.drop_append_of_le_length (by omega)]
    exact ih _ _ (by rw [List.length_drop]; omega)

def shaInit : St8 := ⟨1779033703, 3144134277, 1013904242, 2773480762, 1359893119, 2600822924, 528734635, 1541459225⟩
theorem shaInit_ok : shaInit.ok := by unfold St8.ok; decide
/-- a number as bytes, the highest first -/
def beBytes : Nat → Nat → List UInt8
  | 0, _ => []
  | k + 1, n => beBytes k (n / 256) ++ [UInt8.ofNat (n % 256)]
theorem beBytes_length (k n : Nat) : (beBytes k n).length = k := by
  induction k generalizing n with
  | zero => rfl
  | succ k ih => simp [beBytes, ih]
/-- how many bytes 0 -/
def shaZeros (n : Nat) : Nat := (119 - n % 64) % 64
def shaPad (n : Nat) : List UInt8 := 128 :: List.replicate (shaZeros n) 0 ++ beBytes 8 (n * 8)
theorem shaPad_length (n : Nat) : (shaPad n).length = shaZeros n + 9 := by simp [shaPad, beBytes_length]
theorem shaPad_mod (n : Nat) : (n + (shaPad n).length) % 64 = 0 := by rw [shaPad_length]; unfold shaZeros; omega
def St8.bytes (s : St8) : List UInt8 := beBytes 4 s.a ++ beBytes 4 s.b ++ beBytes 4 s.c ++ beBytes 4 s.d ++ beBytes 4 s.e ++ beBytes 4 s.f ++ beBytes 4 s.g ++ beBytes 4 s.h
/-- the state of all bytes so far, and what stands behind them -/
def shaEnd (l : List UInt8) : St8 := shaRun ((l.length + (shaPad l.length).length) / 64) shaInit (l ++ shaPad l.length)
/-- the digest -/
def sha (l : List UInt8) : List UInt8 := (shaEnd l).bytes
theorem sha_length (l : List UInt8) : (sha l).length = 32 := by simp [sha, St8.bytes, beBytes_length]
end Go.Proofs.YtpmkcjgndljhgaaDoor
