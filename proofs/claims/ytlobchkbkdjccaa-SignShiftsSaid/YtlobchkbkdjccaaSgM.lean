/- Plain arithmetic on words with a sign. -/
import Derived.Test.YtlobchkbkdjccaaBitM
import Derived.Test.YtlobchkbkdjccaaKn
namespace Go.Proofs.Ytlobchkbkdjccaa.SmWord

/-- 2^255 -/
def Hf : Nat := 57896044618658097711785492504343953926634992332820282019728792003956564819968
theorem Hf_2 : Hf = 2 ^ 255 := by decide
theorem M_Hf : M = Hf * 2 := by decide
theorem M_pos : 0 < M := by decide
/-- Is it below 0? -/
def bel (a : Nat) : Bool := decide (Hf ≤ a % M)
/-- 0 less a word. -/
def ng (a : Nat) : Nat := M - 1 - a % M + 1
/-- A word without its sign. -/
def sz (a : Nat) : Nat := if bel a then ng a else a
def sq (a b : Nat) : Nat := if bel a != bel b then ng (sz a % M / (sz b % M)) else sz a % M / (sz b % M)
def sr (a b : Nat) : Nat := if bel a then ng (rs (sz a % M) (sz b % M)) else rs (sz a % M) (sz b % M)
def sless (a b : Nat) : Bool := decide ((a + Hf) % M < (b + Hf) % M)

theorem bel_bit (a : Nat) : (bitN a 255 = 1) = (bel a = true) := by
  unfold bitN bel
  have h1 : a % M / Hf = a / Hf % 2 := by rw [M_Hf, Nat.mod_mul_right_div_self]
  have h2 : a % M < M := Nat.mod_lt _ M_pos
  rw [← Hf_2, ← h1]
  clear h1
  apply propext
  rw [decide_eq_true_iff]
  simp only [M, Hf] at *
  omega
theorem bel_bitD (a : Nat) : decide (255 < 256 ∧ bitN a 255 = 1) = bel a := by
  rw [Bool.eq_iff_iff, ← bel_bit, decide_eq_true_iff]
  omega
theorem bel_l3 (a : Nat) : decide ((9223372036854775808 : Int) ≤ ((l3 a : Nat) : Int)) = bel a := by
  unfold bel l3
  have h : a / B / B / B % B = a % M / (B * B * B) := by
    rw [M_eq, Nat.mod_mul_right_div_self, Nat.div_div_eq_div_mul, Nat.div_div_eq_div_mul, Nat.mul_assoc]
  rw [h]
  have h2 : a % M < M := Nat.mod_lt _ M_pos
  rw [Bool.eq_iff_iff, decide_eq_true_iff, decide_eq_true_iff]
  simp only [M, Hf, B] at *
  omega
theorem bel_congr {m n : Nat} (h : m % M = n % M) : bel m = bel n := by unfold bel; rw [h]
theorem ng_sub (a : Nat) : (ng a + a) % M = 0 % M := by
  unfold ng
  have h2 : a % M < M := Nat.mod_lt _ M_pos
  simp only [M] at *
  omega
theorem less_eq (a b : Nat) : sless a b = if bel a != bel b then bel a else decide (a % M < b % M) := by
  unfold sless bel
  by_cases h1 : Hf ≤ a % M <;> by_cases h2 : Hf ≤ b % M
  · simp only [h1, h2, decide_true, bne_self_eq_false, Bool.false_eq_true, if_false]
    rw [Bool.eq_iff_iff, decide_eq_true_iff, decide_eq_true_iff]
    simp only [M, Hf] at *
    omega
  · rw [decide_eq_true h1, decide_eq_false h2, if_pos (by decide), decide_eq_true_iff]
    simp only [M, Hf] at *
    omega
  · rw [decide_eq_true h2, decide_eq_false h1, if_pos (by decide), decide_eq_false_iff_not]
    simp only [M, Hf] at *
    omega
  · simp only [h1, h2, decide_false, bne_self_eq_false, Bool.false_eq_true, if_false]
    rw [Bool.eq_iff_iff, decide_eq_true_iff, decide_eq_true_iff]
    simp only [M, Hf] at *
    omega
theorem less_not (a b : Nat) : ¬ (sless a b = true ∧ sless b a = true) ∧ ((sless a b = true ∨ sless b a = true) ↔ a % M ≠ b % M) := by
  unfold sless
  rw [decide_eq_true_iff, decide_eq_true_iff]
  simp only [M, Hf] at *
  omega

/-! Quotients. -/
theorem sz_le (a : Nat) : sz a % M ≤ Hf := by
  unfold sz
  by_cases h : bel a = true
  · rw [if_pos h]; unfold bel at h; unfold ng; rw [decide_eq_true_iff] at h
    simp only [M, Hf] at *; omega
  · rw [if_neg h]; unfold bel at h; rw [decide_eq_true_iff] at h
    simp only [M, Hf] at *; omega
theorem sz_zero (b : Nat) : (sz b % M = 0) = (b % M = 0) := by
  apply propext
  unfold sz
  by_cases h : bel b = true
  · rw [if_pos h]; unfold bel at h; unfold ng; rw [decide_eq_true_iff] at h
    simp only [M, Hf] at *; omega
  · rw [if_neg h]
theorem ng_int (a : Nat) : ∃ k : Int, (ng a : Int) = -(a : Int) + (M : Int) * k := by
  have h := ng_sub a
  rw [Nat.zero_mod] at h
  obtain ⟨k, hk⟩ := Nat.dvd_of_mod_eq_zero h
  refine ⟨(k : Int), ?_⟩
  have : ((ng a + a : Nat) : Int) = ((M * k : Nat) : Int) := by rw [hk]
  rw [Int.natCast_add, Int.natCast_mul] at this
  omega
theorem mod_int (a : Nat) : ∃ k : Int, ((a % M : Nat) : Int) = (a : Int) + (M : Int) * k := by
  refine ⟨-((a / M : Nat) : Int), ?_⟩
  have := Nat.mod_add_div a M
  have h2 : ((a % M + M * (a / M) : Nat) : Int) = (a : Int) := by rw [this]
  rw [Int.natCast_add, Int.natCast_mul] at h2
  rw [Int.mul_neg]
  omega
theorem int_mod {x y : Nat} {k : Int} (h : (x : Int) = (y : Int) + (M : Int) * k) : x % M = y % M := by
  have : ((x % M : Nat) : Int) = ((y % M : Nat) : Int) := by
    rw [Int.natCast_emod, Int.natCast_emod, h, Int.add_mul_emod_self_left]
  omega
/-- The sign of a word. -/
def sg (a : Nat) : Int := if bel a then -1 else 1
theorem sz_int (a : Nat) : ∃ k : Int, (a : Int) = sg a * ((sz a % M : Nat) : Int) + (M : Int) * k := by
  obtain ⟨k1, h1⟩ := mod_int (sz a)
  obtain ⟨k2, h2⟩ := ng_int a
  unfold sz at *
  unfold sg
  by_cases h : bel a = true
  · rw [if_pos h] at h1
    rw [if_pos h, if_pos h]
    exact ⟨k1 + k2, by rw [h1, h2, Int.mul_add (M : Int) k1 k2]; omega⟩
  · rw [if_neg h] at h1
    rw [if_neg h, if_neg h]
    exact ⟨-k1, by rw [h1, Int.mul_neg]; omega⟩
theorem sq_int (a b : Nat) : ∃ k : Int, (sq a b : Int) = sg a * sg b * ((sz a % M / (sz b % M) : Nat) : Int) + (M : Int) * k := by
  obtain ⟨k2, h2⟩ := ng_int (sz a % M / (sz b % M))
  unfold sq sg
  cases hA : bel a <;> cases hB : bel b
  all_goals simp only [bne_self_eq_false, Bool.false_eq_true, if_false, if_true, Bool.true_bne, Bool.false_bne, Bool.not_false]
  · exact ⟨0, by omega⟩
  · exact ⟨k2, by omega⟩
  · exact ⟨k2, by omega⟩
  · exact ⟨0, by omega⟩
theorem sr_int (a b : Nat) : ∃ k : Int, (sr a b : Int) = sg a * ((rs (sz a % M) (sz b % M) : Nat) : Int) + (M : Int) * k := by
  obtain ⟨k2, h2⟩ := ng_int (rs (sz a % M) (sz b % M))
  unfold sr sg
  cases hA : bel a
  all_goals simp only [Bool.false_eq_true, if_false, if_true]
  · exact ⟨0, by omega⟩
  · exact ⟨k2, by omega⟩
theorem put_together (a b : Nat) (hb : b % M ≠ 0) : (sq a b * b + sr a b) % M = a % M := by
  obtain ⟨ka, ea⟩ := sz_int a
  obtain ⟨kb, eb⟩ := sz_int b
  obtain ⟨kq, eq⟩ := sq_int a b
  obtain ⟨kr, er⟩ := sr_int a b
  have hz : sz b % M ≠ 0 := by rw [ne_eq, sz_zero]; exact hb
  rw [rs_pos hz] at er
  have hd : ((sz b % M * (sz a % M / (sz b % M)) + sz a % M % (sz b % M) : Nat) : Int) = ((sz a % M : Nat) : Int) := by rw [Nat.div_add_mod]
  rw [Int.natCast_add, Int.natCast_mul] at hd
  have hs : sg b * sg b = 1 := by unfold sg; split <;> rfl
  refine int_mod (k := sg a * sg b * ((sz a % M / (sz b % M) : Nat) : Int) * kb + kq * (b : Int) + kr - ka) ?_
  rw [Int.natCast_add, Int.natCast_mul]
  generalize ((sz a % M / (sz b % M) : Nat) : Int) = Q at *
  generalize ((sz a % M % (sz b % M) : Nat) : Int) = R at *
  generalize ((sz a % M : Nat) : Int) = X at *
  generalize ((sz b % M : Nat) : Int) = Y at *
  generalize (sq a b : Int) = q at *
  generalize (sr a b : Int) = r at *
  generalize (a : Int) = x at *
  generalize (b : Int) = y at *
  generalize (M : Int) = m at *
  generalize sg a = s at *
  generalize sg b = t at *
  clear hz hb
  have e1 : q * y = s * (t * t) * Q * Y + m * (s * t * Q * kb + kq * y) := by
    rw [eq]
    conv => lhs; rw [Int.add_mul]; arg 1; rw [eb]
    grind
  rw [hs] at e1
  rw [e1, er, ea, ← hd]
  grind
theorem rest_lt (a b : Nat) (hb : b % M ≠ 0) : rs (sz a % M) (sz b % M) < sz b % M := by
  have hz : sz b % M ≠ 0 := by rw [ne_eq, sz_zero]; exact hb
  rw [rs_pos hz]
  exact Nat.mod_lt _ (by omega)
theorem rest_near (a b : Nat) (hb : b % M ≠ 0) : sz (sr a b) % M < sz b % M := by
  have h1 := rest_lt a b hb
  have h2 := sz_le b
  refine Nat.lt_of_le_of_lt ?_ h1
  generalize hR : rs (sz a % M) (sz b % M) = R at *
  have h3 : R < Hf := by omega
  unfold sr
  rw [hR]
  cases bel a
  · rw [if_neg (by decide)]
    unfold sz
    rw [if_neg (by unfold bel; rw [decide_eq_true_iff]; simp only [M, Hf] at *; omega)]
    exact Nat.mod_le _ _
  · rw [if_pos rfl]
    clear h1 h2 hR
    unfold sz
    by_cases h0 : R = 0
    · subst h0
      decide
    · have hb : bel (ng R) = true := by unfold bel ng; rw [decide_eq_true_iff]; simp only [M, Hf] at *; omega
      rw [if_pos hb]
      unfold ng
      simp only [M, Hf] at *
      omega
theorem rest_sign (a b : Nat) (hb : b % M ≠ 0) : sr a b % M = 0 ∨ bel (sr a b) = bel a := by
  have h1 := rest_lt a b hb
  have h2 := sz_le b
  generalize hR : rs (sz a % M) (sz b % M) = R at *
  have h3 : R < Hf := by omega
  unfold sr
  rw [hR]
  cases bel a
  · rw [if_neg (by decide)]
    refine Or.inr ?_
    unfold bel
    rw [decide_eq_false_iff_not]
    simp only [M, Hf] at *
    omega
  · rw [if_pos rfl]
    by_cases h0 : R = 0
    · subst h0
      exact Or.inl (by decide)
    · refine Or.inr ?_
      unfold bel ng
      rw [decide_eq_true_iff]
      simp only [M, Hf] at *
      omega
theorem by_zero (a b : Nat) (hb : b % M = 0) : sq a b % M = b % M ∧ sr a b % M = b % M := by
  have hz : sz b % M = 0 := by rw [sz_zero]; exact hb
  have hn : ng 0 % M = 0 := by decide
  unfold sq sr
  rw [hz, rs_zero, Nat.div_zero, hb]
  constructor
  · split
    · exact hn
    · decide
  · split
    · exact hn
    · decide

/-! Shifts down. -/
def sar (a n : Nat) : Nat := if bel a then M - 1 - (M - 1 - a % M) % M / 2 ^ n % M else a % M / 2 ^ n
theorem bit_not {x i : Nat} (hx : x < M) (hi : i < 256) : bitN (M - 1 - x) i = 1 - bitN x i := by
  have h := Nat.testBit_two_pow_sub_succ (x := x) (n := 256) (by rw [← M_2]; exact hx) i
  have e : M - 1 - x = 2 ^ 256 - (x + 1) := by rw [← M_2]; omega
  rw [← e] at h
  have a1 := bitN_test (M - 1 - x) i
  have a2 := bitN_test x i
  rw [h] at a1
  have b1 := bitN_lt (M - 1 - x) i
  have b2 := bitN_lt x i
  simp only [hi, decide_true, Bool.true_and, Bool.not_eq_true', eq_iff_iff] at a1 a2
  cases ht : x.testBit i
  · rw [ht] at a1 a2
    have c1 := a1.2 rfl
    have c2 : ¬ bitN x i = 1 := fun hh => by have := a2.1 hh; cases this
    omega
  · rw [ht] at a1 a2
    have c2 := a2.2 rfl
    have c1 : ¬ bitN (M - 1 - x) i = 1 := fun hh => by have := a1.1 hh; cases this
    omega
theorem sar_bit (a n i : Nat) (hi : i < 256) : bitN (sar a n) i = if i + n < 256 then bitN a (i + n) else bitN a 255 := by
  have hA : a % M < M := Nat.mod_lt _ M_pos
  have hb := bel_bit a
  have hl := bitN_lt a 255
  have hc : ∀ j, j < 256 → bitN (a % M) j = bitN a j := fun j hj => bit_congr (Nat.mod_mod _ _) hj
  unfold sar
  cases h : bel a
  · rw [if_neg (by decide), bit_down]
    rw [h] at hb
    by_cases hn : i + n < 256
    · rw [if_pos hn, hc _ hn]
    · rw [if_neg hn, bitN_high hA (by omega)]
      have : ¬ bitN a 255 = 1 := fun hh => by rw [hb] at hh; cases hh
      omega
  · rw [if_pos rfl]
    rw [h] at hb
    have h1 : bitN a 255 = 1 := by rw [hb]
    have hx : (M - 1 - a % M) % M = M - 1 - a % M := Nat.mod_eq_of_lt (by omega)
    have hy : (M - 1 - a % M) / 2 ^ n % M = (M - 1 - a % M) / 2 ^ n := Nat.mod_eq_of_lt (Nat.lt_of_le_of_lt (Nat.div_le_self _ _) (by omega))
    rw [hx, hy, bit_not (Nat.lt_of_le_of_lt (Nat.div_le_self _ _) (by omega)) hi, bit_down]
    by_cases hn : i + n < 256
    · rw [if_pos hn, bit_not hA hn, hc _ hn]
      have := bitN_lt a (i + n)
      omega
    · rw [if_neg hn, bitN_high (by omega) (by omega), h1]
theorem sar_bits (a n k i : Nat) (hk : k = min n 300) (hi : i < 256) : bitN (sar a n) i = if i + k < 256 then bitN a (i + k) else bitN a 255 := by
  rw [sar_bit a n i hi]
  by_cases h : n ≤ 300
  · rw [show k = n by omega]
  · rw [if_neg (by omega), if_neg (by omega)]
theorem sar_num (a n : Nat) (hn : n ≤ 256) : sar a n = if bel a then M - 2 ^ (256 - n) + a % M / 2 ^ n else a % M / 2 ^ n := by
  unfold sar
  cases bel a
  · rfl
  · rw [if_pos rfl, if_pos rfl]
    have hA : a % M < M := Nat.mod_lt _ M_pos
    have hx : (M - 1 - a % M) % M = M - 1 - a % M := Nat.mod_eq_of_lt (by omega)
    have hy : (M - 1 - a % M) / 2 ^ n % M = (M - 1 - a % M) / 2 ^ n := Nat.mod_eq_of_lt (Nat.lt_of_le_of_lt (Nat.div_le_self _ _) (by omega))
    rw [hx, hy]
    have e : M = 2 ^ n * 2 ^ (256 - n) := by rw [← Nat.pow_add, M_2]; congr 1; omega
    have hp : 0 < 2 ^ n := Nat.two_pow_pos n
    have hr : a % M % 2 ^ n < 2 ^ n := Nat.mod_lt _ hp
    have hd := Nat.div_add_mod (a % M) (2 ^ n)
    have hq : a % M / 2 ^ n < 2 ^ (256 - n) := by
      rw [Nat.div_lt_iff_lt_mul hp, Nat.mul_comm, ← e]; exact hA
    have h1 : (M - 1 - a % M) / 2 ^ n = 2 ^ (256 - n) - 1 - a % M / 2 ^ n := by
      have e2 : M - 1 - a % M = (2 ^ n - 1 - a % M % 2 ^ n) + 2 ^ n * (2 ^ (256 - n) - 1 - a % M / 2 ^ n) := by
        rw [Nat.mul_sub, Nat.mul_sub, ← e, Nat.mul_one]
        have : 2 ^ n * (a % M / 2 ^ n) + 2 ^ n ≤ M := by
          rw [← Nat.mul_succ]; conv => rhs; rw [e]
          exact Nat.mul_le_mul_left _ hq
        omega
      rw [e2, Nat.add_mul_div_left _ _ hp, Nat.div_eq_of_lt (by omega), Nat.zero_add]
    rw [h1]
    have hP : 2 ^ (256 - n) ≤ M := by rw [M_2]; exact Nat.pow_le_pow_right (by decide) (by omega)
    clear h1 e hd hr hx hy
    generalize a % M / 2 ^ n = x at *
    generalize 2 ^ (256 - n) = y at *
    omega
theorem sar_low (a n : Nat) (hn : n ≤ 256) : sar a n * 2 ^ n % M = a % M - a % M % 2 ^ n := by
  have hA : a % M < M := Nat.mod_lt _ M_pos
  have e : M = 2 ^ n * 2 ^ (256 - n) := by rw [← Nat.pow_add, M_2]; congr 1; omega
  have hd := Nat.div_add_mod (a % M) (2 ^ n)
  have hP : 2 ^ (256 - n) ≤ M := by rw [M_2]; exact Nat.pow_le_pow_right (by decide) (by omega)
  have hz : a % M / 2 ^ n * 2 ^ n = a % M - a % M % 2 ^ n := by rw [Nat.mul_comm]; omega
  rw [sar_num a n hn]
  cases bel a
  · rw [if_neg (by decide), hz]
    exact Nat.mod_eq_of_lt (by omega)
  · rw [if_pos rfl, Nat.add_mul, hz]
    have e3 : (M - 2 ^ (256 - n)) * 2 ^ n = M * (2 ^ n - 1) := by
      rw [Nat.sub_mul, Nat.mul_comm (2 ^ (256 - n)), ← e, Nat.mul_sub, Nat.mul_one]
    rw [e3, Nat.add_comm, Nat.add_mul_mod_self_left]
    exact Nat.mod_eq_of_lt (by omega)
theorem sar_left (a n k : Nat) (hn : n ≤ 254) (hk : (k + sar a n * 2 ^ n) % M = a % M) : k % M < 2 ^ n % M := by
  have hA : a % M < M := Nat.mod_lt _ M_pos
  have hr : a % M % 2 ^ n < 2 ^ n := Nat.mod_lt _ (Nat.two_pow_pos n)
  have hle := Nat.mod_le (a % M) (2 ^ n)
  rw [Nat.add_mod, sar_low a n (by omega)] at hk
  have h2 : 2 ^ n % M = 2 ^ n := Nat.mod_eq_of_lt (by rw [M_2]; exact Nat.pow_lt_pow_right (by decide) (by omega))
  rw [h2]
  have hK : k % M < M := Nat.mod_lt _ M_pos
  generalize k % M = K at *
  generalize a % M = A at *
  generalize A % 2 ^ n = R at *
  generalize 2 ^ n = p at *
  simp only [M] at *
  omega
theorem sar_above (a n : Nat) (hn : n ≤ 254) : sless a (sar a n * 2 ^ n) = false := by
  have hA : a % M < M := Nat.mod_lt _ M_pos
  have hl := sar_low a n (by omega)
  have hd := Nat.div_add_mod (a % M) (2 ^ n)
  have hle := Nat.mod_le (a % M) (2 ^ n)
  have hs : Hf ≤ a % M → Hf ≤ a % M - a % M % 2 ^ n := fun h => by
    have e : Hf = 2 ^ n * 2 ^ (255 - n) := by rw [← Nat.pow_add, Hf_2]; congr 1; omega
    have h1 : 2 ^ (255 - n) ≤ a % M / 2 ^ n := by rw [Nat.le_div_iff_mul_le (Nat.two_pow_pos n), Nat.mul_comm, ← e]; exact h
    have h2 := Nat.mul_le_mul_left (2 ^ n) h1
    rw [← e] at h2
    omega
  unfold sless
  rw [decide_eq_false_iff_not]
  generalize sar a n * 2 ^ n = L at *
  clear hd
  generalize a % M % 2 ^ n = R at *
  simp only [M, Hf] at *
  omega

/-! The lowest bytes with their sign. -/
def ext (n a : Nat) : Nat := sar (a * 2 ^ (8 * (31 - n))) (8 * (31 - n))
theorem pow_256 (k : Nat) : (256 : Nat) ^ k = 2 ^ (8 * k) := by rw [show (256 : Nat) = 2 ^ 8 from rfl, ← Nat.pow_mul]
theorem ext_parts (n a : Nat) (hn : n ≤ 30) : (bel (a * 2 ^ (8 * (31 - n))) = decide (128 ≤ dig a n)) ∧ a * 2 ^ (8 * (31 - n)) % M / 2 ^ (8 * (31 - n)) = a % 256 ^ (n + 1) := by
  have e : M = 256 ^ (n + 1) * 2 ^ (8 * (31 - n)) := by rw [pow_256, ← Nat.pow_add, M_2]; congr 1; omega
  have hp : 0 < 2 ^ (8 * (31 - n)) := Nat.two_pow_pos _
  have h1 : a * 2 ^ (8 * (31 - n)) % M = a % 256 ^ (n + 1) * 2 ^ (8 * (31 - n)) := by
    rw [e, Nat.mul_mod_mul_right]
  refine ⟨?_, by rw [h1, Nat.mul_div_cancel _ hp]⟩
  have hd : dig a n = a % 256 ^ (n + 1) / 256 ^ n := by
    unfold dig
    rw [Nat.pow_succ, Nat.mod_mul_right_div_self]
  have e2 : Hf = 128 * 256 ^ n * 2 ^ (8 * (31 - n)) := by
    rw [pow_256, show 128 = 2 ^ 7 from rfl, ← Nat.pow_add, ← Nat.pow_add, Hf_2]; congr 1; omega
  unfold bel
  rw [h1, e2, hd, Bool.eq_iff_iff, decide_eq_true_iff, decide_eq_true_iff, Nat.le_div_iff_mul_le (Nat.pow_pos (by decide))]
  exact Nat.mul_le_mul_right_iff hp
theorem ext_num (n a : Nat) (hn : n ≤ 30) : ext n a = if 128 ≤ dig a n then M - 256 ^ (n + 1) + a % 256 ^ (n + 1) else a % 256 ^ (n + 1) := by
  obtain ⟨h1, h2⟩ := ext_parts n a hn
  unfold ext
  rw [sar_num _ _ (by omega), h1, h2, show 256 - 8 * (31 - n) = 8 * (n + 1) by omega, ← pow_256]
  by_cases h : 128 ≤ dig a n
  · rw [decide_eq_true h, if_pos rfl, if_pos h]
  · rw [decide_eq_false h, if_neg (by decide), if_neg h]
theorem ext_low (n a : Nat) (hn : n ≤ 30) : ext n a % 256 ^ (n + 1) = a % 256 ^ (n + 1) := by
  rw [ext_num n a hn]
  split
  · have e : M - 256 ^ (n + 1) = 256 ^ (n + 1) * (256 ^ (31 - n) - 1) := by
      rw [Nat.mul_sub, Nat.mul_one, ← Nat.pow_add, M_256]; congr 2; omega
    rw [e, Nat.add_comm, Nat.add_mul_mod_self_left, Nat.mod_mod]
  · exact Nat.mod_mod _ _
theorem dig_low {m k n : Nat} (h : m % 256 ^ (n + 1) = k % 256 ^ (n + 1)) {i : Nat} (hi : i ≤ n) : dig m i = dig k i := by
  have key : ∀ x : Nat, dig (x % 256 ^ (n + 1)) i = dig x i := fun x => by
    unfold dig
    have e : 256 ^ (n + 1) = 256 ^ i * (256 * 256 ^ (n - i)) := by rw [← Nat.pow_succ', ← Nat.pow_add]; congr 1; omega
    rw [e, Nat.mod_mul_right_div_self, Nat.mod_mul_right_mod]
  rw [← key m, ← key k, h]
theorem ext_again (n a : Nat) (hn : n ≤ 30) : ext n (ext n a) = ext n a := by
  have h := ext_low n a hn
  rw [ext_num n (ext n a) hn, h, dig_low h (Nat.le_refl n), ← ext_num n a hn]
theorem ext_dig (n a i : Nat) (hn : n ≤ 30) (hi : i < 32) : dig (ext n a) i = if i ≤ n then dig a i else if 128 ≤ dig a n then 255 else 0 := by
  by_cases h : i ≤ n
  · rw [if_pos h, dig_low (ext_low n a hn) h]
  · rw [if_neg h, ext_num n a hn]
    have hP : (256 : Nat) ^ (n + 1) ≤ 256 ^ i := Nat.pow_le_pow_right (by decide) (by omega)
    have hr : a % 256 ^ (n + 1) < 256 ^ (n + 1) := Nat.mod_lt _ (Nat.pow_pos (by decide))
    split
    · have e : M = 256 ^ i * (256 * 256 ^ (31 - i)) := by rw [← Nat.pow_succ', ← Nat.pow_add, M_256]; congr 1; omega
      have hq : 0 < 256 ^ (31 - i) := Nat.pow_pos (by decide)
      have e2 : M = 256 ^ i + 256 ^ i * (256 * 256 ^ (31 - i) - 1) := by
        rw [Nat.mul_sub, Nat.mul_one, ← e]
        have : 256 ^ i ≤ M := by rw [M_256]; exact Nat.pow_le_pow_right (by decide) (by omega)
        omega
      have e3 : M - 256 ^ (n + 1) + a % 256 ^ (n + 1) = (256 ^ i - 256 ^ (n + 1) + a % 256 ^ (n + 1)) + 256 ^ i * (256 * 256 ^ (31 - i) - 1) := by omega
      unfold dig
      rw [e3, Nat.add_mul_div_left _ _ (Nat.pow_pos (by decide)), Nat.div_eq_of_lt (by omega)]
      generalize 256 ^ (31 - i) = z at *
      omega
    · unfold dig
      rw [Nat.div_eq_of_lt (by omega)]
end Go.Proofs.Ytlobchkbkdjccaa.SmWord
