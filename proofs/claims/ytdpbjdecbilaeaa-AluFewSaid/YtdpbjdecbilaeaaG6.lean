/- Plain arithmetic on words with a sign. -/
import Derived.Test.YtdpbjdecbilaeaaG0
import Derived.Test.YtdpbjdecbilaeaaG2
import Derived.Test.YtdpbjdecbilaeaaG4
import Derived.Test.YtdpbjdecbilaeaaG3
import Derived.Test.YtdpbjdecbilaeaaG5
namespace Go.Proofs.Ytdpbjdecbilaeaa.SmWord

/-- 2^255 -/
def Hf : Nat := 57896044618658097711785492504343953926634992332820282019728792003956564819968
theorem Hf_2 : Hf = 2 ^ 255 := by decide
theorem M_Hf : M = Hf * 2 := by decide
theorem M_pos : 0 < M := by decide
/-- Is it below 0? -/
def bel (a : Nat) : Bool := decide (Hf ≤ a % M)
/-- 0 less a word. -/
def ng (a : Nat) : Nat := M - 1 - a % M + 1
/-- A word without its sign. -/
def sz (a : Nat) : Nat := if bel a then ng a else a
def sq (a b : Nat) : Nat := if bel a != bel b then ng (sz a % M / (sz b % M)) else sz a % M / (sz b % M)
def sr (a b : Nat) : Nat := if bel a then ng (rs (sz a % M) (sz b % M)) else rs (sz a % M) (sz b % M)
def sless (a b : Nat) : Bool := decide ((a + Hf) % M < (b + Hf) % M)

theorem bel_bit (a : Nat) : (bitN a 255 = 1) = (bel a = true) := by
  unfold bitN bel
  have h1 : a % M / Hf = a / Hf % 2 := by rw [M_Hf, Nat.mod_mul_right_div_self]
  have h2 : a % M < M := Nat.mod_lt _ M_pos
  rw [← Hf_2, ← h1]
  clear h1
  apply propext
  rw [decide_eq_true_iff]
  simp only [M, Hf] at *
  omega
theorem bel_bitD (a : Nat) : decide (255 < 256 ∧ bitN a 255 = 1) = bel a := by
  rw [Bool.eq_iff_iff, ← bel_bit, decide_eq_true_iff]
  omega
theorem bel_l3 (a : Nat) : decide ((9223372036854775808 : Int) ≤ ((l3 a : Nat) : Int)) = bel a := by
  unfold bel l3
  have h : a / B / B / B % B = a % M / (B * B * B) := by
    rw [M_eq, Nat.mod_mul_right_div_self, Nat.div_div_eq_div_mul, Nat.div_div_eq_div_mul, Nat.mul_assoc]
  rw [h]
  have h2 : a % M < M := Nat.mod_lt _ M_pos
  rw [Bool.eq_iff_iff, decide_eq_true_iff, decide_eq_true_iff]
  simp only [M, Hf, B] at *
  omega
theorem bel_congr {m n : Nat} (h : m % M = n % M) : bel m = bel n := by unfold bel; rw [h]
theorem ng_sub (a : Nat) : (ng a + a) % M = 0 % M := by
  unfold ng
  have h2 : a % M < M := Nat.mod_lt _ M_pos
  simp only [M] at *
  omega
theorem less_eq (a b : Nat) : sless a b = if bel a != bel b then bel a else decide (a % M < b % M) := by
  unfold sless bel
  by_cases h1 : Hf ≤ a % M <;> by_cases h2 : Hf ≤ b % M
  · simp only [h1, h2, decide_true, bne_self_eq_false, Bool.false_eq_true, if_false]
    rw [Bool.eq_iff_iff, decide_eq_true_iff, decide_eq_true_iff]
    simp only [M, Hf] at *
    omega
  · rw [decide_eq_true h1, decide_eq_false h2, if_pos (by decide), decide_eq_true_iff]
    simp only [M, Hf] at *
    omega
  · rw [decide_eq_true h2, decide_eq_false h1, if_pos (by decide), decide_eq_false_iff_not]
    simp only [M, Hf] at *
    omega
  · simp only [h1, h2, decide_false, bne_self_eq_false, Bool.false_eq_true, if_false]
    rw [Bool.eq_iff_iff, decide_eq_true_iff, decide_eq_true_iff]
    simp only [M, Hf] at *
    omega
theorem less_not (a b : Nat) : ¬ (sless a b = true ∧ sless b a = true) ∧ ((sless a b = true ∨ sless b a = true) ↔ a % M ≠ b % M) := by
  unfold sless
  rw [decide_eq_true_iff, decide_eq_true_iff]
  simp only [M, Hf] at *
  omega

/-! Quotients. -/
theorem sz_le (a : Nat) : sz a % M ≤ Hf := by
  unfold sz
  by_cases h : bel a = true
  · rw [if_pos h]; unfold bel at h; unfold ng; rw [decide_eq_true_iff] at h
    simp only [M, Hf] at *; omega
  · rw [if_neg h]; unfold bel at h; rw [decide_eq_true_iff] at h
    simp only [M, Hf] at *; omega
theorem sz_zero (b : Nat) : (sz b % M = 0) = (b % M = 0) := by
  apply propext
  unfold sz
  by_cases h : bel b = true
  · rw [if_pos h]; unfold bel at h; unfold ng; rw [decide_eq_true_iff] at h
    simp only [M, Hf] at *; omega
  · rw [if_neg h]
theorem ng_int (a : Nat) : ∃ k : Int, (ng a : Int) = -(a : Int) + (M : Int) * k := by
  have h := ng_sub a
  rw [Nat.zero_mod] at h
  obtain ⟨k, hk⟩ := Nat.dvd_of_mod_eq_zero h
  refine ⟨(k : Int), ?_⟩
  have : ((ng a + a : Nat) : Int) = ((M * k : Nat) : Int) := by rw [hk]
  rw [Int.natCast_add, Int.natCast_mul] at this
  omega
theorem mod_int (a : Nat) : ∃ k : Int, ((a % M : Nat) : Int) = (a : Int) + (M : Int) * k := by
  refine ⟨-((a / M : Nat) : Int), ?_⟩
  have := Nat.mod_add_div a M
  have h2 : ((a % M + M * (a / M) : Nat) : Int) = (a : Int) := by rw [this]
  rw [Int.natCast_add, Int.natCast_mul] at h2
  rw [Int.mul_neg]
  omega
theorem int_mod {x y : Nat} {k : Int} (h : (x : Int) = (y : Int) + (M : Int) * k) : x % M = y % M := by
  have : ((x % M : Nat) : Int) = ((y % M : Nat) : Int) := by
    rw [Int.natCast_emod, Int.natCast_emod, h, Int.add_mul_emod_self_left]
  omega
/-- The sign of a word. -/
def sg (a : Nat) : Int := if bel a then -1 else 1
theorem sz_int (a : Nat) : ∃ k : Int, (a : Int) = sg a * ((sz a % M : Nat) : Int) + (M : Int) * k := by
  obtain ⟨k1, h1⟩ := mod_int (sz a)
  obtain ⟨k2, h2⟩ := ng_int a
  unfold sz at *
  unfold sg
  by_cases h : bel a = true
  · rw [if_pos h] at h1
    rw [if_pos h, if_pos h]
    exact ⟨k1 + k2, by rw [h1, h2, Int.mul_add (M : Int) k1 k2]; omega⟩
  · rw [if_neg h] at h1
    rw [if_neg h, if_neg h]
    exact ⟨-k1, by rw [h1, Int.mul_neg]; omega⟩
theorem sq_int (a b : Nat) : ∃ k : Int, (sq a b : Int) = sg a * sg b * ((sz a % M / (sz b % M) : Nat) : Int) + (M : Int) * k := by
  obtain ⟨k2, h2⟩ := ng_int (sz a % M / (sz b % M))
  unfold sq sg
  cases hA : bel a <;> cases hB : bel b
  all_goals simp only [bne_self_eq_false, Bool.false_eq_true, if_false, if_true, Bool.true_bne, Bool.false_bne, Bool.not_false]
  · exact ⟨0, by omega⟩
  · exact ⟨k2, by omega⟩
  · exact ⟨k2, by omega⟩
  · exact ⟨0, by omega⟩
theorem sr_int (a b : Nat) : ∃ k : Int, (sr a b : Int) = sg a * ((rs (sz a % M) (sz b % M) : Nat) : Int) + (M : Int) * k := by
  obtain ⟨k2, h2⟩ := ng_int (rs (sz a % M) (sz b % M))
  unfold sr sg
  cases hA : bel a
  all_goals simp only [Bool.false_eq_true, if_false, if_true]
  · exact ⟨0, by omega⟩
  · exact ⟨k2, by omega⟩
theorem put_together (a b : Nat) (hb : b % M ≠ 0) : (sq a b * b + sr a b) % M = a % M := by
  obtain ⟨ka, ea⟩ := sz_int a
  obtain ⟨kb, eb⟩ := sz_int b
  obtain ⟨kq, eq⟩ := sq_int a b
  obtain ⟨kr, er⟩ := sr_int a b
  have hz : sz b % M ≠ 0 := by rw [ne_eq, sz_zero]; exact hb
  rw [rs_pos hz] at er
  have hd : ((sz b % M * (sz a % M / (sz b % M)) + sz a % M % (sz b % M) : Nat) : Int) = ((sz a % M : Nat) : Int) := by rw [Nat.div_add_mod]
  rw [Int.natCast_add, Int.natCast_mul] at hd
  have hs : sg b * sg b = 1 := by unfold sg; split <;> rfl
  refine int_mod (k := sg a * sg b * ((sz a % M / (sz b % M) : Nat) : Int) * kb + kq * (b : Int) + kr - ka) ?_
  rw [Int.natCast_add, Int.natCast_mul]
  generalize ((sz a % M / (sz b % M) : Nat) : Int) = Q at *
  generalize ((sz a % M % (sz b % M) : Nat) : Int) = R at *
  generalize ((sz a % M : Nat) : Int) = X at *
  generalize ((sz b % M : Nat) : Int) = Y at *
  generalize (sq a b : Int) = q at *
  generalize (sr a b : Int) = r at *
  generalize (a : Int) = x at *
  generalize (b : Int) = y at *
  generalize (M : Int) = m at *
  generalize sg a = s at *
  generalize sg b = t at *
  clear hz hb
  have e1 : q * y = s * (t * t) * Q * Y + m * (s * t * Q * kb + kq * y) := by
    rw [eq]
    conv => lhs; rw [Int.add_mul]; arg 1; rw [eb]
    grind
  rw [hs] at e1
  rw [e1, er, ea, ← hd]
  grind
theorem rest_lt (a b : Nat) (hb : b % M ≠ 0) : rs (sz a % M) (sz b % M) < sz b % M := by
  have hz : sz b % M ≠ 0 := by rw [ne_eq, sz_zero]; exact hb
  rw [rs_pos hz]
  exact Nat.mod_lt _ (by omega)
theorem rest_near (a b : Nat) (hb : b % M ≠ 0) : sz (sr a b) % M < sz b % M := by
  have h1 := rest_lt a b hb
  have h2 := sz_le b
  refine Nat.lt_of_le_of_lt ?_ h1
  generalize hR : rs (sz a % M) (sz b % M) = R at *
  have h3 : R < Hf := by omega
  unfold sr
  rw [hR]
  cases bel a
  · rw [if_neg (by decide)]
    unfold sz
    rw [if_neg (by unfold bel; rw [decide_eq_true_iff]; simp only [M, Hf] at *; omega)]
    exact Nat.mod_le _ _
  · rw [if_pos rfl]
    clear h1 h2 hR
    unfold sz
    by_cases h0 : R = 0
    · subst h0
      decide
    · have hb : bel (ng R) = true := by unfold bel ng; rw [decide_eq_true_iff]; simp only [M, Hf] at *; omega
      rw [if_pos hb]
      unfold ng
      simp only [M, Hf] at *
      omega
theorem rest_sign (a b : Nat) (hb : b % M ≠ 0) : sr a b % M = 0 ∨ bel (sr a b) = bel a := by
  have h1 := rest_lt a b hb
  have h2 := sz_le b
  generalize hR : rs (sz a % M) (sz b % M) = R at *
  have h3 : R < Hf := by omega
  unfold sr
  rw [hR]
  cases bel a
  · rw [if_neg (by decide)]
    refine Or.inr ?_
    unfold bel
    rw [decide_eq_false_iff_not]
    simp only [M, Hf] at *
    omega
  · rw [if_pos rfl]
    by_cases h0 : R = 0
    · subst h0
      exact Or.inl (by decide)
    · refine Or.inr ?_
      unfold bel ng
      rw [decide_eq_true_iff]
      simp only [M, Hf] at *
      omega
theorem by_zero (a b : Nat) (hb : b % M = 0) : sq a b % M = b % M ∧ sr a b % M = b % M := by
  have hz : sz b % M = 0 := by rw [sz_zero]; exact hb
  have hn : ng 0 % M = 0 := by decide
  unfold sq sr
  rw [hz, rs_zero, Nat.div_zero, hb]
  constructor
  · split
    · exact hn
    · decide
  · split
    · exact hn
    · decide

/-! Shifts down. -/
def sar (a n : Nat) : Nat := if bel a then M - 1 - (M - 1 - a % M) % M / 2 ^ n % M else a % M / 2 ^ n
theorem bit_not {x i : Nat} (hx : x < M) (hi : i < 256) : bitN (M - 1 - x) i = 1 - bitN x i := by
  have h := Nat.testBit_two_pow_sub_succ (x := x) (n := 256) (by rw [← M_2]; exact hx) i
  have e : M - 1 - x = 2 ^ 256 - (x + 1) := by rw [← M_2]; omega
  rw [← e] at h
  have a1 := bitN_test (M - 1 - x) i
  have a2 := bitN_test x i
  rw [h] at a1
  have b1 := bitN_lt (M - 1 - x) i
  have b2 := bitN_lt x i
  simp only [hi, decide_true, Bool.true_and, Bool.not_eq_true', eq_iff_iff] at a1 a2
  cases ht : x.testBit i
  · rw [ht] at a1 a2
    have c1 := a1.2 rfl
    have c2 : ¬ bitN x i = 1 := fun hh => by have := a2.1 hh; cases this
    omega
  · rw [ht] at a1 a2
    have c2 := a2.2 rfl
    have c1 : ¬ bitN (M - 1 - x) i = 1 := fun hh => by have := a1.1 hh; cases this
    omega
theorem sar_bit (a n i : Nat) (hi : i < 256) : bitN (sar a n) i = if i + n < 256 then bitN a (i + n) else bitN a 255 := by
  have hA : a % M < M := Nat.mod_lt _ M_pos
  have hb := bel_bit a
  have hl := bitN_lt a 255
  have hc : ∀ j, j < 256 → bitN (a % M) j = bitN a j := fun j hj => bit_congr (Nat.mod_mod _ _) hj
  unfold sar
  cases h : bel a
  · rw [if_neg (by decide), bit_down]
    rw [h] at hb
    by_cases hn : i + n < 256
    · rw [if_pos hn, hc _ hn]
    · rw [if_neg hn, bitN_high hA (by omega)]
      have : ¬ bitN a 255 = 1 := fun hh => by rw [hb] at hh; cases hh
      omega
  · rw [if_pos rfl]
    rw [h] at hb
    have h1 : bitN a 255 = 1 := by rw [hb]
    have hx : (M - 1 - a % M) % M = M - 1 - a % M := Nat.mod_eq_of_lt (by omega)
    have hy : (M - 1 - a % M) / 2 ^ n % M = (M - 1 - a % M) / 2 ^ n := Nat.mod_eq_of_lt (Nat.lt_of_le_of_lt (Nat.div_le_self _ _) (by omega))
    rw [hx, hy, bit_not (Nat.lt_of_le_of_lt (Nat.div_le_self _ _) (by omega)) hi, bit_down]
    by_cases hn : i + n < 256
    · rw [if_pos hn, bit_not hA hn, hc _ hn]
      have := bitN_lt a (i + n)
      omega
    · rw [if_neg hn, bitN_high (by omega) (by omega), h1]
theorem sar_bits (a n k i : Nat) (hk : k = min n 300) (hi : i < 256) : bitN (sar a n) i = if i + k < 256 then bitN a (i + k) else bitN a 255 := by
  rw [sar_bit a n i hi]
  by_cases h : n ≤ 300
  · rw [show k = n by omega]
  · rw [if_neg (by omega), if_neg (by omega)]
theorem sar_num (a n : Nat) (hn : n ≤ 256) : sar a n = if bel a then M - 2 ^ (256 - n) + a % M / 2 ^ n else a % M / 2 ^ n := by
  unfold sar
  cases bel a
  · rfl
  · rw [if_pos rfl, if_pos rfl]
    have hA : a % M < M := Nat.mod_lt _ M_pos
    have hx : (M - 1 - a % M) % M = M - 1 - a % M := Nat.mod_eq_of_lt (by omega)
    have hy : (M - 1 - a % M) / 2 ^ n % M = (M - 1 - a % M) / 2 ^ n := Nat.mod_eq_of_lt (Nat.lt_of_le_of_lt (Nat.div_le_self _ _) (by omega))
    rw [hx, hy]
    have e : M = 2 ^ n * 2 ^ (256 - n) := by rw [← Nat.pow_add, M_2]; congr 1; omega
    have hp : 0 < 2 ^ n := Nat.two_pow_pos n
    have hr : a % M % 2 ^ n < 2 ^ n := Nat.mod_lt _ hp
    have hd := Nat.div_add_mod (a % M) (2 ^ n)
    have hq : a % M / 2 ^ n < 2 ^ (256 - n) := by
      rw [Nat.div_lt_iff_lt_mul hp, Nat.mul_comm, ← e]; exact hA
    have h1 : (M - 1 - a % M) / 2 ^ n = 2 ^ (256 - n) - 1 - a % M / 2 ^ n := by
      have e2 : M - 1 - a % M = (2 ^ n - 1 - a % M % 2 ^ n) + 2 ^ n * (2 ^ (256 - n) - 1 - a % M / 2 ^ n) := by
        rw [Nat.mul_sub, Nat.mul_sub, ← e, Nat.mul_one]
        have : 2 ^ n * (a % M / 2 ^ n) + 2 ^ n ≤ M := by
          rw [← Nat.mul_succ]; conv => rhs; rw [e]
          exact Nat.mul_le_mul_left _ hq
        omega
      rw [e2, Nat.add_mul_div_left _ _ hp, Nat.div_eq_of_lt (by omega), Nat.zero_add]
    rw [h1]
    have hP : 2 ^ (256 - n) ≤ M := by rw [M_2]; exact Nat.pow_le_pow_right (by decide) (by omega)
    clear h1 e hd hr hx hy
    generalize a % M / 2 ^ n = x at *
    generalize 2 ^ (256 - n) = y at *
    omega
theorem sar_low (a n : Nat) (hn : n ≤ 256) : sar a n * 2 ^ n % M = a % M - a % M % 2 ^ n := by
  have hA : a % M < M := Nat.mod_lt _ M_pos
  have e : M = 2 ^ n * 2 ^ (256 - n) := by rw [← Nat.pow_add, M_2]; congr 1; omega
  have hd := Nat.div_add_mod (a % M) (2 ^ n)
  have hP : 2 ^ (256 - n) ≤ M := by rw [M_2]; exact Nat.pow_le_pow_right (by decide) (by omega)
  have hz : a % M / 2 ^ n * 2 ^ n = a % M - a % M % 2 ^ n := by rw [Nat.mul_comm]; omega
  rw [sar_num a n hn]
  cases bel a
  · rw [if_neg (by decide), hz]
    exact Nat.mod_eq_of_lt (by omega)
  · rw [if_pos rfl, Nat.add_mul, hz]
    have e3 : (M - 2 ^ (256 - n)) * 2 ^ n = M * (2 ^ n - 1) := by
      rw [Nat.sub_mul, Nat.mul_comm (2 ^ (256 - n)), ← e, Nat.mul_sub, Nat.mul_one]
    rw [e3, Nat.add_comm, Nat.add_mul_mod_self_left]
    exact Nat.mod_eq_of_lt (by omega)
theorem sar_left (a n k : Nat) (hn : n ≤ 254) (hk : (k + sar a n * 2 ^ n) % M = a % M) : k % M < 2 ^ n % M := by
  have hA : a % M < M := Nat.mod_lt _ M_pos
  have hr : a % M % 2 ^ n < 2 ^ n := Nat.mod_lt _ (Nat.two_pow_pos n)
  have hle := Nat.mod_le (a % M) (2 ^ n)
  rw [Nat.add_mod, sar_low a n (by omega)] at hk
  have h2 : 2 ^ n % M = 2 ^ n := Nat.mod_eq_of_lt (by rw [M_2]; exact Nat.pow_lt_pow_right (by decide) (by omega))
  rw [h2]
  have hK : k % M < M := Nat.mod_lt _ M_pos
  generalize k % M = K at *
  generalize a % M = A at *
  generalize A % 2 ^ n = R at *
  generalize 2 ^ n = p at *
  simp only [M] at *
  omega
theorem sar_above (a n : Nat) (hn : n ≤ 254) : sless a (sar a n * 2 ^ n) = false := by
  have hA : a % M < M := Nat.mod_lt _ M_pos
  have hl := sar_low a n (by omega)
  have hd := Nat.div_add_mod (a % M) (2 ^ n)
  have hle := Nat.mod_le (a % M) (2 ^ n)
  have hs : Hf ≤ a % M → Hf ≤ a % M - a % M % 2 ^ n := fun h => by
    have e : Hf = 2 ^ n * 2 ^ (255 - n) := by rw [← Nat.pow_add, Hf_2]; congr 1; omega
    have h1 : 2 ^ (255 - n) ≤ a % M / 2 ^ n := by rw [Nat.le_div_iff_mul_le (Nat.two_pow_pos n), Nat.mul_comm, ← e]; exact h
    have h2 := Nat.mul_le_mul_left (2 ^ n) h1
    rw [← e] at h2
    omega
  unfold sless
  rw [decide_eq_false_iff_not]
  generalize sar a n * 2 ^ n = L at *
  clear hd
  generalize a % M % 2 ^ n = R at *
  simp only [M, Hf] at *
  omega

/-! The lowest bytes with their sign. -/
def ext (n a : Nat) : Nat := sar (a * 2 ^ (8 * (31 - n))) (8 * (31 - n))
theorem pow_256 (k : Nat) : (256 : Nat) ^ k = 2 ^ (8 * k) := by rw [show (256 : Nat) = 2 ^ 8 from rfl, ← Nat.pow_mul]
theorem ext_parts (n a : Nat) (hn : n ≤ 30) : (bel (a * 2 ^ (8 * (31 - n))) = decide (128 ≤ dig a n)) ∧ a * 2 ^ (8 * (31 - n)) % M / 2 ^ (8 * (31 - n)) = a % 256 ^ (n + 1) := by
  have e : M = 256 ^ (n + 1) * 2 ^ (8 * (31 - n)) := by rw [pow_256, ← Nat.pow_add, M_2]; congr 1; omega
  have hp : 0 < 2 ^ (8 * (31 - n)) := Nat.two_pow_pos _
  have h1 : a * 2 ^ (8 * (31 - n)) % M = a % 256 ^ (n + 1) * 2 ^ (8 * (31 - n)) := by
    rw [e, Nat.mul_mod_mul_right]
  refine ⟨?_, by rw [h1, Nat.mul_div_cancel _ hp]⟩
  have hd : dig a n = a % 256 ^ (n + 1) / 256 ^ n := by
    unfold dig
    rw [Nat.pow_succ, Nat.mod_mul_right_div_self]
  have e2 : Hf = 128 * 256 ^ n * 2 ^ (8 * (31 - n)) := by
    rw [pow_256, show 128 = 2 ^ 7 from rfl, ← Nat.pow_add, ← Nat.pow_add, Hf_2]; congr 1; omega
  unfold bel
  rw [h1, e2, hd, Bool.eq_iff_iff, decide_eq_true_iff, decide_eq_true_iff, Nat.le_div_iff_mul_le (Nat.pow_pos (by decide))]
  exact Nat.mul_le_mul_right_iff hp
theorem ext_num (n a : Nat) (hn : n ≤ 30) : ext n a = if 128 ≤ dig a n then M - 256 ^ (n + 1) + a % 256 ^ (n + 1) else a % 256 ^ (n + 1) := by
  obtain ⟨h1, h2⟩ := ext_parts n a hn
  unfold ext
  rw [sar_num _ _ (by omega), h1, h2, show 256 - 8 * (31 - n) = 8 * (n + 1) by omega, ← pow_256]
  by_cases h : 128 ≤ dig a n
  · rw [decide_eq_true h, if_pos rfl, if_pos h]
  · rw [decide_eq_false h, if_neg (by decide), if_neg h]
theorem ext_low (n a : Nat) (hn : n ≤ 30) : ext n a % 256 ^ (n + 1) = a % 256 ^ (n + 1) := by
  rw [ext_num n a hn]
  split
  · have e : M - 256 ^ (n + 1) = 256 ^ (n + 1) * (256 ^ (31 - n) - 1) := by
      rw [Nat.mul_sub, Nat.mul_one, ← Nat.pow_add, M_256]; congr 2; omega
    rw [e, Nat.add_comm, Nat.add_mul_mod_self_left, Nat.mod_mod]
  · exact Nat.mod_mod _ _
theorem dig_low {m k n : Nat} (h : m % 256 ^ (n + 1) = k % 256 ^ (n + 1)) {i : Nat} (hi : i ≤ n) : dig m i = dig k i := by
  have key : ∀ x : Nat, dig (x % 256 ^ (n + 1)) i = dig x i := fun x => by
    unfold dig
    have e : 256 ^ (n + 1) = 256 ^ i * (256 * 256 ^ (n - i)) := by rw [← Nat.pow_succ', ← Nat.pow_add]; congr 1; omega
    rw [e, Nat.mod_mul_right_div_self, Nat.mod_mul_right_mod]
  rw [← key m, ← key k, h]
theorem ext_again (n a : Nat) (hn : n ≤ 30) : ext n (ext n a) = ext n a := by
  have h := ext_low n a hn
  rw [ext_num n (ext n a) hn, h, dig_low h (Nat.le_refl n), ← ext_num n a hn]
theorem ext_dig (n a i : Nat) (hn : n ≤ 30) (hi : i < 32) : dig (ext n a) i = if i ≤ n then dig a i else if 128 ≤ dig a n then 255 else 0 := by
  by_cases h : i ≤ n
  · rw [if_pos h, dig_low (ext_low n a hn) h]
  · rw [if_neg h, ext_num n a hn]
    have hP : (256 : Nat) ^ (n + 1) ≤ 256 ^ i := Nat.pow_le_pow_right (by decide) (by omega)
    have hr : a % 256 ^ (n + 1) < 256 ^ (n + 1) := Nat.mod_lt _ (Nat.pow_pos (by decide))
    split
    · have e : M = 256 ^ i * (256 * 256 ^ (31 - i)) := by rw [← Nat.pow_succ', ← Nat.pow_add, M_256]; congr 1; omega
      have hq : 0 < 256 ^ (31 - i) := Nat.pow_pos (by decide)
      have e2 : M = 256 ^ i + 256 ^ i * (256 * 256 ^ (31 - i) - 1) := by
        rw [Nat.mul_sub, Nat.mul_one, ← e]
        have : 256 ^ i ≤ M := by rw [M_256]; exact Nat.pow_le_pow_right (by decide) (by omega)
        omega
      have e3 : M - 256 ^ (n + 1) + a % 256 ^ (n + 1) = (256 ^ i - 256 ^ (n + 1) + a % 256 ^ (n + 1)) + 256 ^ i * (256 * 256 ^ (31 - i) - 1) := by omega
      unfold dig
      rw [e3, Nat.add_mul_div_left _ _ (Nat.pow_pos (by decide)), Nat.div_eq_of_lt (by omega)]
      generalize 256 ^ (31 - i) = z at *
      omega
    · unfold dig
      rw [Nat.div_eq_of_lt (by omega)]
end Go.Proofs.Ytdpbjdecbilaeaa.SmWord
/- What the functions Below, Neg, size, Less, Sar and Extend of package sign do, in numbers; all older memory is as it was. -/
namespace Go.Proofs.Ytdpbjdecbilaeaa
open Go.RowKit SmWord
set_option maxRecDepth 100000

set_option maxHeartbeats 1000000 in
theorem below_walk (a : Nat) (p : Bool) (w : World) (H : Hid (∀ w : World, Calls Try.prog 71 #[wd a, .int .u64 255] w fun e w' => e = .returned (.bool p) ∧ Below w.heap.size w w')) :
    Calls Try.prog 68 #[wd a] w fun e w' => e = .returned (.bool p) ∧ Below w.heap.size w w' := by
  go_enter Try.func68, Try.ntmps68
  have hsz := wa_size
  go_upto_region 1 with fail
  have f1 : (w.alloc (.cells (wa a) 24)).heap[w.heap.size]? = some (.cells (wa a) 24) := blk_new _ rfl
  have bW : Below w.heap.size w (w.alloc (.cells (wa a) 24)) := ((Below.refl _ _).alloc (Nat.le_refl _) _)
  have sW : w.heap.size + 1 ≤ (w.alloc (.cells (wa a) 24)).heap.size := by simp
  generalize (w.alloc (.cells (wa a) 24)) = W at *
  go_wp2_with (refine wpList_load_row rfl 24 _ rfl _ rfl 24 _ (0, 0) _ (by assumption) Try.underlying24 rfl Try.infoWa ?_)
  refine (H.out _).mono ?_
  rintro e w1 ⟨rfl, b1⟩
  replace f1 := Below.stays b1 f1
  replace bW := bW.trans (b1.mono bW.size)
  replace sW := Nat.le_trans sW b1.size
  clear b1
  go_wp2
  go_ret
  exact ⟨rfl, bW⟩
theorem below_wd (a : Nat) (w : World) : Calls Try.prog 68 #[wd a] w fun e w' => e = .returned (.bool (bel a)) ∧ Below w.heap.size w w' :=
  below_walk a _ w (Lib.hid fun w => by
    have := wbit_wd a 255 w (by decide)
    rw [bel_bitD] at this
    exact this)

set_option maxHeartbeats 1000000 in
theorem sneg_walk (a t : Nat) (w : World) (H : Hid (∀ w : World, Calls Try.prog 42 #[wd 0, wd a] w fun e w' => e = .returned (wd t) ∧ Below w.heap.size w w')) :
    Calls Try.prog 69 #[wd a] w fun e w' => e = .returned (wd t) ∧ Below w.heap.size w w' := by
  have hz := z4_wa
  have hsz := wa_size
  go_enter Try.func69, Try.ntmps69
  go_upto_region 1 with fail
  have f1 : ((w.alloc (.cells (wa a) 24)).alloc (.cells (wa 0) 24)).heap[w.heap.size]? = some (.cells (wa a) 24) := blk_alloc (blk_new _ rfl)
  have f2 : ((w.alloc (.cells (wa a) 24)).alloc (.cells (wa 0) 24)).heap[w.heap.size + 1]? = some (.cells (wa 0) 24) := blk_new _ (by simp)
  have bW : Below w.heap.size w ((w.alloc (.cells (wa a) 24)).alloc (.cells (wa 0) 24)) := (((Below.refl _ _).alloc (Nat.le_refl _) _).alloc (by simp <;> omega) _)
  have sW : w.heap.size + 2 ≤ ((w.alloc (.cells (wa a) 24)).alloc (.cells (wa 0) 24)).heap.size := by simp
  generalize ((w.alloc (.cells (wa a) 24)).alloc (.cells (wa 0) 24)) = W at *
  go_wp2_with (refine wpList_load_row rfl 24 _ rfl _ rfl 24 _ (0, 0) _ (by assumption) Try.underlying24 rfl Try.infoWa ?_)
  refine (H.out _).mono ?_
  rintro e w1 ⟨rfl, b1⟩
  replace f1 := Below.stays b1 f1
  replace f2 := Below.stays b1 f2
  replace bW := bW.trans (b1.mono bW.size)
  replace sW := Nat.le_trans sW b1.size
  clear b1
  go_wp2_with (refine wpList_store_row rfl 24 (.tmp 2) _ rfl _ _ (wa t) rfl rfl f2 Try.infoWa rfl wa_one ?_)
  have e2 := word_cells (blk_row (c' := wa t) f2)
  exact bodyPost_ret (v := wd t) (by simp [results, Try.results69, go_sem, e2, fold_wa]) rfl ⟨rfl, below_setRow bW (by omega) _⟩
theorem sneg_wd (a : Nat) (w : World) : Calls Try.prog 69 #[wd a] w fun e w' => e = .returned (wd (ng a)) ∧ Below w.heap.size w w' :=
  sneg_walk a _ w (Lib.hid fun w => sub_wd 0 a (ng a) w (ng_sub a))

set_option maxHeartbeats 1000000 in
theorem size_walk0 (a : Nat) (w : World) (H1 : Hid (∀ w : World, Calls Try.prog 68 #[wd a] w fun e w' => e = .returned (.bool false) ∧ Below w.heap.size w w')) :
    Calls Try.prog 67 #[wd a] w fun e w' => e = .returned (wd a) ∧ Below w.heap.size w w' := by
  have hz := z4_wa
  have hsz := wa_size
  go_enter Try.func67, Try.ntmps67
  go_upto_region 1 with fail
  have f1 : ((w.alloc (.cells (wa a) 24)).alloc (.cells (wa 0) 24)).heap[w.heap.size]? = some (.cells (wa a) 24) := blk_alloc (blk_new _ rfl)
  have f2 : ((w.alloc (.cells (wa a) 24)).alloc (.cells (wa 0) 24)).heap[w.heap.size + 1]? = some (.cells (wa 0) 24) := blk_new _ (by simp)
  have bW : Below w.heap.size w ((w.alloc (.cells (wa a) 24)).alloc (.cells (wa 0) 24)) := (((Below.refl _ _).alloc (Nat.le_refl _) _).alloc (by simp <;> omega) _)
  have sW : w.heap.size + 2 ≤ ((w.alloc (.cells (wa a) 24)).alloc (.cells (wa 0) 24)).heap.size := by simp
  generalize ((w.alloc (.cells (wa a) 24)).alloc (.cells (wa 0) 24)) = W at *
  go_wp2_with (refine wpList_load_row rfl 24 _ rfl _ rfl 24 _ (0, 0) _ (by assumption) Try.underlying24 rfl Try.infoWa ?_)
  refine (H1.out _).mono ?_
  rintro e w1 ⟨rfl, b1⟩
  replace f1 := Below.stays b1 f1
  replace f2 := Below.stays b1 f2
  replace bW := bW.trans (b1.mono bW.size)
  replace sW := Nat.le_trans sW b1.size
  clear b1
  go_wp2_with (first | (refine wpList_load_row rfl 24 _ rfl _ rfl 24 _ (0, 0) _ (by assumption) Try.underlying24 rfl Try.infoWa ?_) | (refine wpList_store_row rfl 24 (.tmp 2) _ rfl _ _ (wa a) rfl rfl f2 Try.infoWa rfl wa_one ?_))
  have e2 := word_cells (blk_row (c' := wa a) f2)
  exact bodyPost_ret (v := wd a) (by simp [results, Try.results67, go_sem, e2, fold_wa]) rfl ⟨rfl, below_setRow bW (by omega) _⟩

set_option maxHeartbeats 1000000 in
theorem size_walk1 (a t : Nat) (w : World) (H1 : Hid (∀ w : World, Calls Try.prog 68 #[wd a] w fun e w' => e = .returned (.bool true) ∧ Below w.heap.size w w')) (H2 : Hid (∀ w : World, Calls Try.prog 69 #[wd a] w fun e w' => e = .returned (wd t) ∧ Below w.heap.size w w')) :
    Calls Try.prog 67 #[wd a] w fun e w' => e = .returned (wd t) ∧ Below w.heap.size w w' := by
  have hz := z4_wa
  have hsz := wa_size
  go_enter Try.func67, Try.ntmps67
  go_upto_region 1 with fail
  have f1 : ((w.alloc (.cells (wa a) 24)).alloc (.cells (wa 0) 24)).heap[w.heap.size]? = some (.cells (wa a) 24) := blk_alloc (blk_new _ rfl)
  have f2 : ((w.alloc (.cells (wa a) 24)).alloc (.cells (wa 0) 24)).heap[w.heap.size + 1]? = some (.cells (wa 0) 24) := blk_new _ (by simp)
  have bW : Below w.heap.size w ((w.alloc (.cells (wa a) 24)).alloc (.cells (wa 0) 24)) := (((Below.refl _ _).alloc (Nat.le_refl _) _).alloc (by simp <;> omega) _)
  have sW : w.heap.size + 2 ≤ ((w.alloc (.cells (wa a) 24)).alloc (.cells (wa 0) 24)).heap.size := by simp
  generalize ((w.alloc (.cells (wa a) 24)).alloc (.cells (wa 0) 24)) = W at *
  go_wp2_with (refine wpList_load_row rfl 24 _ rfl _ rfl 24 _ (0, 0) _ (by assumption) Try.underlying24 rfl Try.infoWa ?_)
  refine (H1.out _).mono ?_
  rintro e w1 ⟨rfl, b1⟩
  replace f1 := Below.stays b1 f1
  replace f2 := Below.stays b1 f2
  replace bW := bW.trans (b1.mono bW.size)
  replace sW := Nat.le_trans sW b1.size
  clear b1
  go_wp2_with (refine wpList_load_row rfl 24 _ rfl _ rfl 24 _ (0, 0) _ (by assumption) Try.underlying24 rfl Try.infoWa ?_)
  refine (H2.out _).mono ?_
  rintro e w2 ⟨rfl, b1⟩
  replace f1 := Below.stays b1 f1
  replace f2 := Below.stays b1 f2
  replace bW := bW.trans (b1.mono bW.size)
  replace sW := Nat.le_trans sW b1.size
  clear b1
  go_wp2_with (refine wpList_store_row rfl 24 (.tmp 2) _ rfl _ _ (wa t) rfl rfl f2 Try.infoWa rfl wa_one ?_)
  have e2 := word_cells (blk_row (c' := wa t) f2)
  exact bodyPost_ret (v := wd t) (by simp [results, Try.results67, go_sem, e2, fold_wa]) rfl ⟨rfl, below_setRow bW (by omega) _⟩
theorem ssize_wd (a : Nat) (w : World) : Calls Try.prog 67 #[wd a] w fun e w' => e = .returned (wd (sz a)) ∧ Below w.heap.size w w' := by
  have hb := fun w => below_wd a w
  unfold sz
  cases h : bel a
  · rw [h] at hb
    exact size_walk0 a w (Lib.hid hb)
  · rw [h] at hb
    exact size_walk1 a _ w (Lib.hid hb) (Lib.hid fun w => sneg_wd a w)

set_option maxHeartbeats 2000000 in
theorem sless_ne (a b : Nat) (p : Bool) (w : World) (H1 : Hid (∀ w : World, Calls Try.prog 68 #[wd a] w fun e w' => e = .returned (.bool p) ∧ Below w.heap.size w w')) (H2 : Hid (∀ w : World, Calls Try.prog 68 #[wd b] w fun e w' => e = .returned (.bool (!p)) ∧ Below w.heap.size w w')) :
    Calls Try.prog 49 #[wd a, wd b] w fun e w' => e = .returned (.bool p) ∧ Below w.heap.size w w' := by
  cases p
  all_goals
    simp only [Bool.not_false, Bool.not_true] at H2
    have hsz := wa_size
    go_enter Try.func49, Try.ntmps49
    go_upto_region 1 with fail
    have f2 : ((w.alloc (.cells (wa a) 24)).alloc (.cells (wa b) 24)).heap[w.heap.size]? = some (.cells (wa a) 24) := blk_alloc (blk_new _ rfl)
    have f3 : ((w.alloc (.cells (wa a) 24)).alloc (.cells (wa b) 24)).heap[w.heap.size + 1]? = some (.cells (wa b) 24) := blk_new _ (by simp)
    have bW : Below w.heap.size w ((w.alloc (.cells (wa a) 24)).alloc (.cells (wa b) 24)) := (((Below.refl _ _).alloc (Nat.le_refl _) _).alloc (by simp <;> omega) _)
    have sW : w.heap.size + 2 ≤ ((w.alloc (.cells (wa a) 24)).alloc (.cells (wa b) 24)).heap.size := by simp
    generalize ((w.alloc (.cells (wa a) 24)).alloc (.cells (wa b) 24)) = W at *
    have g2 := fun g : Ext W => g.word f2
    have g3 := fun g : Ext W => g.word f3
    have fo := fold_wa
    refine region_ext (by kernel_rfl) (by kernel_rfl) ?_
    repeat (go_big_quiet_step ((go_at_call 68; first | with_reducible exact calls_ext (H1.out _) | with_reducible exact calls_ext (H2.out _))))
    refine wpQuiet_nil ?_
    rintro _ ⟨g, rfl⟩
    replace f2 := Below.stays g.below f2
    replace f3 := Below.stays g.below f3
    replace bW := bW.trans (g.below.mono bW.size)
    clear g2 g3 fo
    generalize g.on = w1 at *
    go_wp2_with (refine wpList_load_row rfl 24 _ rfl _ rfl 24 _ (0, 0) _ (by assumption) Try.underlying24 rfl Try.infoWa ?_)
    refine (H1.out _).mono ?_
    rintro e w2 ⟨rfl, b1⟩
    go_wp2
    go_ret
    exact ⟨rfl, bW.trans (b1.mono bW.size)⟩

set_option maxHeartbeats 2000000 in
theorem sless_eq (a b : Nat) (p : Bool) (z : Int) (w : World) (H1 : Hid (∀ w : World, Calls Try.prog 68 #[wd a] w fun e w' => e = .returned (.bool p) ∧ Below w.heap.size w w')) (H2 : Hid (∀ w : World, Calls Try.prog 68 #[wd b] w fun e w' => e = .returned (.bool p) ∧ Below w.heap.size w w')) (H3 : Hid (∀ w : World, Calls Try.prog 48 #[wd a, wd b] w fun e w' => e = .returned (.int .i64 z) ∧ Below w.heap.size w w')) :
    Calls Try.prog 49 #[wd a, wd b] w fun e w' => e = .returned (.bool (decide (z < 0))) ∧ Below w.heap.size w w' := by
  cases p
  all_goals
    have hsz := wa_size
    go_enter Try.func49, Try.ntmps49
    go_upto_region 1 with fail
    have f2 : ((w.alloc (.cells (wa a) 24)).alloc (.cells (wa b) 24)).heap[w.heap.size]? = some (.cells (wa a) 24) := blk_alloc (blk_new _ rfl)
    have f3 : ((w.alloc (.cells (wa a) 24)).alloc (.cells (wa b) 24)).heap[w.heap.size + 1]? = some (.cells (wa b) 24) := blk_new _ (by simp)
    have bW : Below w.heap.size w ((w.alloc (.cells (wa a) 24)).alloc (.cells (wa b) 24)) := (((Below.refl _ _).alloc (Nat.le_refl _) _).alloc (by simp <;> omega) _)
    have sW : w.heap.size + 2 ≤ ((w.alloc (.cells (wa a) 24)).alloc (.cells (wa b) 24)).heap.size := by simp
    generalize ((w.alloc (.cells (wa a) 24)).alloc (.cells (wa b) 24)) = W at *
    have g2 := fun g : Ext W => g.word f2
    have g3 := fun g : Ext W => g.word f3
    have fo := fold_wa
    refine region_ext (by kernel_rfl) (by kernel_rfl) ?_
    repeat (go_big_quiet_step ((go_at_call 68; first | with_reducible exact calls_ext (H1.out _) | with_reducible exact calls_ext (H2.out _))))
    refine wpQuiet_nil ?_
    rintro _ ⟨g, rfl⟩
    replace f2 := Below.stays g.below f2
    replace f3 := Below.stays g.below f3
    replace bW := bW.trans (g.below.mono bW.size)
    clear g2 g3 fo
    generalize g.on = w1 at *
    go_wp2_with (refine wpList_load_row rfl 24 _ rfl _ rfl 24 _ (0, 0) _ (by assumption) Try.underlying24 rfl Try.infoWa ?_)
    refine (H3.out _).mono ?_
    rintro e w2 ⟨rfl, b1⟩
    go_wp2
    go_ret
    exact ⟨rfl, bW.trans (b1.mono bW.size)⟩
theorem cmpN_neg (m n : Nat) : decide (cmpN m n < 0) = decide (m < n) := by
  unfold cmpN
  rw [Bool.eq_iff_iff, decide_eq_true_iff, decide_eq_true_iff]
  split
  · omega
  · split <;> omega
theorem sless_wd (a b : Nat) (w : World) : Calls Try.prog 49 #[wd a, wd b] w fun e w' => e = .returned (.bool (sless a b)) ∧ Below w.heap.size w w' := by
  have h1 := fun w => below_wd a w
  have h2 := fun w => below_wd b w
  rw [less_eq]
  by_cases h : bel a = bel b
  · rw [if_neg (by simp [h]), ← cmpN_neg]
    rw [← h] at h2
    exact sless_eq a b _ _ w (Lib.hid h1) (Lib.hid h2) (Lib.hid fun w => compare_wd a b w)
  · have e : bel b = !bel a := by cases hA : bel a <;> cases hB : bel b <;> simp_all
    rw [if_pos (by simp [h])]
    rw [e] at h2
    exact sless_ne a b _ w (Lib.hid h1) (Lib.hid h2)

set_option maxHeartbeats 1000000 in
theorem sar_walk0 (a t : Nat) (n : Int) (w : World) (H1 : Hid (∀ w : World, Calls Try.prog 68 #[wd a] w fun e w' => e = .returned (.bool false) ∧ Below w.heap.size w w')) (H2 : Hid (∀ w : World, Calls Try.prog 58 #[wd a, .int .u64 n] w fun e w' => e = .returned (wd t) ∧ Below w.heap.size w w')) :
    Calls Try.prog 59 #[wd a, .int .u64 n] w fun e w' => e = .returned (wd t) ∧ Below w.heap.size w w' := by
  have hz := z4_wa
  have hsz := wa_size
  go_enter Try.func59, Try.ntmps59
  go_upto_region 1 with fail
  have f2 : ((w.alloc (.cells (wa a) 24)).alloc (.cells (wa 0) 24)).heap[w.heap.size]? = some (.cells (wa a) 24) := blk_alloc (blk_new _ rfl)
  have f4 : ((w.alloc (.cells (wa a) 24)).alloc (.cells (wa 0) 24)).heap[w.heap.size + 1]? = some (.cells (wa 0) 24) := blk_new _ (by simp)
  have bW : Below w.heap.size w ((w.alloc (.cells (wa a) 24)).alloc (.cells (wa 0) 24)) := (((Below.refl _ _).alloc (Nat.le_refl _) _).alloc (by simp <;> omega) _)
  have sW : w.heap.size + 2 ≤ ((w.alloc (.cells (wa a) 24)).alloc (.cells (wa 0) 24)).heap.size := by simp
  generalize ((w.alloc (.cells (wa a) 24)).alloc (.cells (wa 0) 24)) = W at *
  go_wp2_with (refine wpList_load_row rfl 24 _ rfl _ rfl 24 _ (0, 0) _ (by assumption) Try.underlying24 rfl Try.infoWa ?_)
  refine (H1.out _).mono ?_
  rintro e w1 ⟨rfl, b1⟩
  replace f2 := Below.stays b1 f2
  replace f4 := Below.stays b1 f4
  replace bW := bW.trans (b1.mono bW.size)
  replace sW := Nat.le_trans sW b1.size
  clear b1
  go_wp2_with (refine wpList_load_row rfl 24 _ rfl _ rfl 24 _ (0, 0) _ (by assumption) Try.underlying24 rfl Try.infoWa ?_)
  refine (H2.out _).mono ?_
  rintro e w2 ⟨rfl, b1⟩
  replace f2 := Below.stays b1 f2
  replace f4 := Below.stays b1 f4
  replace bW := bW.trans (b1.mono bW.size)
  replace sW := Nat.le_trans sW b1.size
  clear b1
  go_wp2_with (refine wpList_store_row rfl 24 (.tmp 4) _ rfl _ _ (wa t) rfl rfl f4 Try.infoWa rfl wa_one ?_)
  have e2 := word_cells (blk_row (c' := wa t) f4)
  exact bodyPost_ret (v := wd t) (by simp [results, Try.results59, go_sem, e2, fold_wa]) rfl ⟨rfl, below_setRow bW (by omega) _⟩

set_option maxHeartbeats 1000000 in
theorem sar_walk1 (a x y t : Nat) (n : Int) (w : World) (H1 : Hid (∀ w : World, Calls Try.prog 68 #[wd a] w fun e w' => e = .returned (.bool true) ∧ Below w.heap.size w w')) (H2 : Hid (∀ w : World, Calls Try.prog 60 #[wd a] w fun e w' => e = .returned (wd x) ∧ Below w.heap.size w w')) (H3 : Hid (∀ w : World, Calls Try.prog 58 #[wd x, .int .u64 n] w fun e w' => e = .returned (wd y) ∧ Below w.heap.size w w')) (H4 : Hid (∀ w : World, Calls Try.prog 60 #[wd y] w fun e w' => e = .returned (wd t) ∧ Below w.heap.size w w')) :
    Calls Try.prog 59 #[wd a, .int .u64 n] w fun e w' => e = .returned (wd t) ∧ Below w.heap.size w w' := by
  have hz := z4_wa
  have hsz := wa_size
  go_enter Try.func59, Try.ntmps59
  go_upto_region 1 with fail
  have f2 : ((w.alloc (.cells (wa a) 24)).alloc (.cells (wa 0) 24)).heap[w.heap.size]? = some (.cells (wa a) 24) := blk_alloc (blk_new _ rfl)
  have f4 : ((w.alloc (.cells (wa a) 24)).alloc (.cells (wa 0) 24)).heap[w.heap.size + 1]? = some (.cells (wa 0) 24) := blk_new _ (by simp)
  have bW : Below w.heap.size w ((w.alloc (.cells (wa a) 24)).alloc (.cells (wa 0) 24)) := (((Below.refl _ _).alloc (Nat.le_refl _) _).alloc (by simp <;> omega) _)
  have sW : w.heap.size + 2 ≤ ((w.alloc (.cells (wa a) 24)).alloc (.cells (wa 0) 24)).heap.size := by simp
  generalize ((w.alloc (.cells (wa a) 24)).alloc (.cells (wa 0) 24)) = W at *
  go_wp2_with (refine wpList_load_row rfl 24 _ rfl _ rfl 24 _ (0, 0) _ (by assumption) Try.underlying24 rfl Try.infoWa ?_)
  refine (H1.out _).mono ?_
  rintro e w1 ⟨rfl, b1⟩
  replace f2 := Below.stays b1 f2
  replace f4 := Below.stays b1 f4
  replace bW := bW.trans (b1.mono bW.size)
  replace sW := Nat.le_trans sW b1.size
  clear b1
  go_wp2_with (refine wpList_load_row rfl 24 _ rfl _ rfl 24 _ (0, 0) _ (by assumption) Try.underlying24 rfl Try.infoWa ?_)
  refine (H2.out _).mono ?_
  rintro e w2 ⟨rfl, b1⟩
  replace f2 := Below.stays b1 f2
  replace f4 := Below.stays b1 f4
  replace bW := bW.trans (b1.mono bW.size)
  replace sW := Nat.le_trans sW b1.size
  clear b1
  go_wp2_with fail
  refine (H3.out _).mono ?_
  rintro e w3 ⟨rfl, b1⟩
  replace f2 := Below.stays b1 f2
  replace f4 := Below.stays b1 f4
  replace bW := bW.trans (b1.mono bW.size)
  replace sW := Nat.le_trans sW b1.size
  clear b1
  go_wp2_with fail
  refine (H4.out _).mono ?_
  rintro e w4 ⟨rfl, b1⟩
  replace f2 := Below.stays b1 f2
  replace f4 := Below.stays b1 f4
  replace bW := bW.trans (b1.mono bW.size)
  replace sW := Nat.le_trans sW b1.size
  clear b1
  go_wp2_with (refine wpList_store_row rfl 24 (.tmp 4) _ rfl _ _ (wa t) rfl rfl f4 Try.infoWa rfl wa_one ?_)
  have e2 := word_cells (blk_row (c' := wa t) f4)
  exact bodyPost_ret (v := wd t) (by simp [results, Try.results59, go_sem, e2, fold_wa]) rfl ⟨rfl, below_setRow bW (by omega) _⟩
theorem sar_wd (a n : Nat) (hn : n < B) (w : World) : Calls Try.prog 59 #[wd a, .int .u64 (n : Int)] w fun e w' => e = .returned (wd (sar a n)) ∧ Below w.heap.size w w' := by
  have hb := fun w => below_wd a w
  unfold sar
  cases h : bel a
  · rw [h] at hb
    exact sar_walk0 a _ _ w (Lib.hid hb) (Lib.hid fun w => shr_wd a n hn w)
  · rw [h] at hb
    exact sar_walk1 a _ _ _ _ w (Lib.hid hb) (Lib.hid fun w => not_wd a w) (Lib.hid fun w => shr_wd _ n hn w) (Lib.hid fun w => not_wd _ w)
end Go.Proofs.Ytdpbjdecbilaeaa
/- What the functions Div and Extend of package sign do, in numbers; all older memory is as it was. -/
namespace Go.Proofs.Ytdpbjdecbilaeaa
open Go.RowKit SmWord
set_option maxRecDepth 100000

set_option maxHeartbeats 2000000 in
theorem sdiv_walk00 (a b x y q r : Nat) (w : World) (H1 : Hid (∀ w : World, Calls Try.prog 67 #[wd a] w fun e w' => e = .returned (wd x) ∧ Below w.heap.size w w')) (H2 : Hid (∀ w : World, Calls Try.prog 67 #[wd b] w fun e w' => e = .returned (wd y) ∧ Below w.heap.size w w')) (H3 : Hid (∀ w : World, Calls Try.prog 43 #[wd x, wd y] w fun e w' => e = .returned (.tuple #[wd q, wd r]) ∧ Below w.heap.size w w')) (H4 : Hid (∀ w : World, Calls Try.prog 68 #[wd a] w fun e w' => e = .returned (.bool false) ∧ Below w.heap.size w w')) (H5 : Hid (∀ w : World, Calls Try.prog 68 #[wd b] w fun e w' => e = .returned (.bool false) ∧ Below w.heap.size w w')) :
    Calls Try.prog 44 #[wd a, wd b] w fun e w' => e = .returned (.tuple #[wd q, wd r]) ∧ Below w.heap.size w w' := by
  have hz := z4_wa
  have hsz := wa_size
  go_enter Try.func44, Try.ntmps44
  go_upto_region 1 with fail
  have f2 : ((((w.alloc (.cells (wa a) 24)).alloc (.cells (wa b) 24)).alloc (.cells (wa 0) 24)).alloc (.cells (wa 0) 24)).heap[w.heap.size]? = some (.cells (wa a) 24) := blk_alloc (blk_alloc (blk_alloc (blk_new _ rfl)))
  have f3 : ((((w.alloc (.cells (wa a) 24)).alloc (.cells (wa b) 24)).alloc (.cells (wa 0) 24)).alloc (.cells (wa 0) 24)).heap[w.heap.size + 1]? = some (.cells (wa b) 24) := blk_alloc (blk_alloc (blk_new _ (by simp)))
  have f4 : ((((w.alloc (.cells (wa a) 24)).alloc (.cells (wa b) 24)).alloc (.cells (wa 0) 24)).alloc (.cells (wa 0) 24)).heap[w.heap.size + 1 + 1]? = some (.cells (wa 0) 24) := blk_alloc (blk_new _ (by simp))
  have f5 : ((((w.alloc (.cells (wa a) 24)).alloc (.cells (wa b) 24)).alloc (.cells (wa 0) 24)).alloc (.cells (wa 0) 24)).heap[w.heap.size + 1 + 1 + 1]? = some (.cells (wa 0) 24) := blk_new _ (by simp)
  have bW : Below w.heap.size w ((((w.alloc (.cells (wa a) 24)).alloc (.cells (wa b) 24)).alloc (.cells (wa 0) 24)).alloc (.cells (wa 0) 24)) := (((((Below.refl _ _).alloc (Nat.le_refl _) _).alloc (by simp <;> omega) _).alloc (by simp <;> omega) _).alloc (by simp <;> omega) _)
  have sW : w.heap.size + 4 ≤ ((((w.alloc (.cells (wa a) 24)).alloc (.cells (wa b) 24)).alloc (.cells (wa 0) 24)).alloc (.cells (wa 0) 24)).heap.size := by simp
  generalize ((((w.alloc (.cells (wa a) 24)).alloc (.cells (wa b) 24)).alloc (.cells (wa 0) 24)).alloc (.cells (wa 0) 24)) = W at *
  refine region_mk2 (aQ := ?aQ) 8 ⟨8, 10, 24, 6, 14, wa 0, wa q⟩ ⟨9, 11, 24, 7, 15, wa 0, wa r⟩ (by kernel_rfl) (by kernel_rfl) (by simp) (fun w1x => ?hq) ?hok1 ?hok2 ?hh
  case hq =>
    simp only [List.take_succ_cons, List.take_zero]
    repeat (first | (go_big_quiet_want; refine quiet_load_row 24 _ rfl _ (wa a) rfl (fun w2 hw2 => by obtain ⟨g, rfl⟩ := hw2; exact g.block (w1x.block f2)) Try.underlying24 Try.infoWa ?_; simp only [Act.put, List.setIfInBounds_toArray, List.set_cons_succ, List.set_cons_zero]; go_big_quiet_on) | (go_big_quiet_want; refine quiet_load_row 24 _ rfl _ (wa b) rfl (fun w2 hw2 => by obtain ⟨g, rfl⟩ := hw2; exact g.block (w1x.block f3)) Try.underlying24 Try.infoWa ?_; simp only [Act.put, List.setIfInBounds_toArray, List.set_cons_succ, List.set_cons_zero]; go_big_quiet_on) | go_big_quiet_step (first | (go_at_call 67; first | with_reducible exact calls_ext (H1.out _) | with_reducible exact calls_ext (H2.out _)) | (go_at_call 43; with_reducible exact calls_ext (H3.out _))))
    refine wpQuiet_nil ?_
    rfl
  case hok1 => exact ⟨Try.zeroValue24, Try.infoW, rfl, by simp [wa, Value.oneCell'], by simp, rfl⟩
  case hok2 => exact ⟨Try.zeroValue24, Try.infoW, rfl, by simp [wa, Value.oneCell'], by simp, rfl⟩
  case hh =>
    intro b6 b7 w6 b1 l6 l7 hne f6 f7
    simp only [Act.put, List.setIfInBounds_toArray, List.set_cons_succ, List.set_cons_zero]
    dsimp only at f6 f7
    have hs0 := sW
    replace f2 := Below.stays b1 f2
    replace f3 := Below.stays b1 f3
    replace f4 := Below.stays b1 f4
    replace f5 := Below.stays b1 f5
    replace bW := bW.trans (b1.mono bW.size)
    replace sW := Nat.le_trans sW b1.size
    clear b1
    replace l6 : w.heap.size + 4 ≤ b6 := Nat.le_trans hs0 l6
    replace l7 : w.heap.size + 4 ≤ b7 := Nat.le_trans hs0 l7
    clear hs0 hz
    go_wp2_with fail
    have g2 := fun g : Ext w6 => g.word f2
    have g3 := fun g : Ext w6 => g.word f3
    have fo := fold_wa
    refine region_ext (by kernel_rfl) (by kernel_rfl) ?_
    repeat (go_big_quiet_step ((go_at_call 68; first | with_reducible exact calls_ext (H4.out _) | with_reducible exact calls_ext (H5.out _))))
    refine wpQuiet_nil ?_
    rintro _ ⟨g, rfl⟩
    clear g2 g3 fo
    have b1 := g.below
    replace f2 := Below.stays b1 f2
    replace f3 := Below.stays b1 f3
    replace f4 := Below.stays b1 f4
    replace f5 := Below.stays b1 f5
    replace f6 := Below.stays b1 f6
    replace f7 := Below.stays b1 f7
    replace bW := bW.trans (b1.mono bW.size)
    replace sW := Nat.le_trans sW b1.size
    clear b1
    generalize g.on = w8 at *
    go_wp2_with (refine wpList_load_row rfl 24 _ rfl _ rfl 24 _ (0, 0) _ (by assumption) Try.underlying24 rfl Try.infoWa ?_)
    refine (H4.out _).mono ?_
    rintro e w11 ⟨rfl, b1⟩
    replace f2 := Below.stays b1 f2
    replace f3 := Below.stays b1 f3
    replace f4 := Below.stays b1 f4
    replace f5 := Below.stays b1 f5
    replace f6 := Below.stays b1 f6
    replace f7 := Below.stays b1 f7
    replace bW := bW.trans (b1.mono bW.size)
    replace sW := Nat.le_trans sW b1.size
    clear b1
    go_wp2_with fail
    have d6 := word_cells f6
    have d7 := word_cells f7
    have fo := fold_wa
    have k1 := store_old (w := w11.drew) (m := q) f4
    have k2 := store_old (m := r) (blk_row_other (w := w11.drew) (b := w.heap.size + 1 + 1) (c' := wa q) f5 (by omega))
    have d8 := word_cells (blk_row_other (w := w11.drew) (b := w.heap.size + 1 + 1) (c' := wa q) f7 (by omega))
    go_region
    all_goals
      have e4 := word_cells (blk_row_other (b := w.heap.size + 1 + 1 + 1) (c' := wa r) (blk_row (w := w11.drew) (c' := wa q) f4) (by omega))
      have e5 := word_cells (blk_row (c' := wa r) (blk_row_other (w := w11.drew) (b := w.heap.size + 1 + 1) (c' := wa q) f5 (by omega)))
      clear k1 k2 d6 d7 d8 fo
      go_wp2_with fail
      exact bodyPost_ret (v := .tuple #[wd q, wd r]) (by simp [results, Try.results44, go_sem, e4, e5, fold_wa]) rfl ⟨rfl, below_setRow (below_setRow bW.drew (by omega) _) (by omega) _⟩

set_option maxHeartbeats 2000000 in
theorem sdiv_walk01 (a b x y q r nq : Nat) (w : World) (H1 : Hid (∀ w : World, Calls Try.prog 67 #[wd a] w fun e w' => e = .returned (wd x) ∧ Below w.heap.size w w')) (H2 : Hid (∀ w : World, Calls Try.prog 67 #[wd b] w fun e w' => e = .returned (wd y) ∧ Below w.heap.size w w')) (H3 : Hid (∀ w : World, Calls Try.prog 43 #[wd x, wd y] w fun e w' => e = .returned (.tuple #[wd q, wd r]) ∧ Below w.heap.size w w')) (H4 : Hid (∀ w : World, Calls Try.prog 68 #[wd a] w fun e w' => e = .returned (.bool false) ∧ Below w.heap.size w w')) (H5 : Hid (∀ w : World, Calls Try.prog 68 #[wd b] w fun e w' => e = .returned (.bool true) ∧ Below w.heap.size w w')) (H6 : Hid (∀ w : World, Calls Try.prog 69 #[wd q] w fun e w' => e = .returned (wd nq) ∧ Below w.heap.size w w')) :
    Calls Try.prog 44 #[wd a, wd b] w fun e w' => e = .returned (.tuple #[wd nq, wd r]) ∧ Below w.heap.size w w' := by
  have hz := z4_wa
  have hsz := wa_size
  go_enter Try.func44, Try.ntmps44
  go_upto_region 1 with fail
  have f2 : ((((w.alloc (.cells (wa a) 24)).alloc (.cells (wa b) 24)).alloc (.cells (wa 0) 24)).alloc (.cells (wa 0) 24)).heap[w.heap.size]? = some (.cells (wa a) 24) := blk_alloc (blk_alloc (blk_alloc (blk_new _ rfl)))
  have f3 : ((((w.alloc (.cells (wa a) 24)).alloc (.cells (wa b) 24)).alloc (.cells (wa 0) 24)).alloc (.cells (wa 0) 24)).heap[w.heap.size + 1]? = some (.cells (wa b) 24) := blk_alloc (blk_alloc (blk_new _ (by simp)))
  have f4 : ((((w.alloc (.cells (wa a) 24)).alloc (.cells (wa b) 24)).alloc (.cells (wa 0) 24)).alloc (.cells (wa 0) 24)).heap[w.heap.size + 1 + 1]? = some (.cells (wa 0) 24) := blk_alloc (blk_new _ (by simp))
  have f5 : ((((w.alloc (.cells (wa a) 24)).alloc (.cells (wa b) 24)).alloc (.cells (wa 0) 24)).alloc (.cells (wa 0) 24)).heap[w.heap.size + 1 + 1 + 1]? = some (.cells (wa 0) 24) := blk_new _ (by simp)
  have bW : Below w.heap.size w ((((w.alloc (.cells (wa a) 24)).alloc (.cells (wa b) 24)).alloc (.cells (wa 0) 24)).alloc (.cells (wa 0) 24)) := (((((Below.refl _ _).alloc (Nat.le_refl _) _).alloc (by simp <;> omega) _).alloc (by simp <;> omega) _).alloc (by simp <;> omega) _)
  have sW : w.heap.size + 4 ≤ ((((w.alloc (.cells (wa a) 24)).alloc (.cells (wa b) 24)).alloc (.cells (wa 0) 24)).alloc (.cells (wa 0) 24)).heap.size := by simp
  generalize ((((w.alloc (.cells (wa a) 24)).alloc (.cells (wa b) 24)).alloc (.cells (wa 0) 24)).alloc (.cells (wa 0) 24)) = W at *
  refine region_mk2 (aQ := ?aQ) 8 ⟨8, 10, 24, 6, 14, wa 0, wa q⟩ ⟨9, 11, 24, 7, 15, wa 0, wa r⟩ (by kernel_rfl) (by kernel_rfl) (by simp) (fun w1x => ?hq) ?hok1 ?hok2 ?hh
  case hq =>
    simp only [List.take_succ_cons, List.take_zero]
    repeat (first | (go_big_quiet_want; refine quiet_load_row 24 _ rfl _ (wa a) rfl (fun w2 hw2 => by obtain ⟨g, rfl⟩ := hw2; exact g.block (w1x.block f2)) Try.underlying24 Try.infoWa ?_; simp only [Act.put, List.setIfInBounds_toArray, List.set_cons_succ, List.set_cons_zero]; go_big_quiet_on) | (go_big_quiet_want; refine quiet_load_row 24 _ rfl _ (wa b) rfl (fun w2 hw2 => by obtain ⟨g, rfl⟩ := hw2; exact g.block (w1x.block f3)) Try.underlying24 Try.infoWa ?_; simp only [Act.put, List.setIfInBounds_toArray, List.set_cons_succ, List.set_cons_zero]; go_big_quiet_on) | go_big_quiet_step (first | (go_at_call 67; first | with_reducible exact calls_ext (H1.out _) | with_reducible exact calls_ext (H2.out _)) | (go_at_call 43; with_reducible exact calls_ext (H3.out _))))
    refine wpQuiet_nil ?_
    rfl
  case hok1 => exact ⟨Try.zeroValue24, Try.infoW, rfl, by simp [wa, Value.oneCell'], by simp, rfl⟩
  case hok2 => exact ⟨Try.zeroValue24, Try.infoW, rfl, by simp [wa, Value.oneCell'], by simp, rfl⟩
  case hh =>
    intro b6 b7 w6 b1 l6 l7 hne f6 f7
    simp only [Act.put, List.setIfInBounds_toArray, List.set_cons_succ, List.set_cons_zero]
    dsimp only at f6 f7
    have hs0 := sW
    replace f2 := Below.stays b1 f2
    replace f3 := Below.stays b1 f3
    replace f4 := Below.stays b1 f4
    replace f5 := Below.stays b1 f5
    replace bW := bW.trans (b1.mono bW.size)
    replace sW := Nat.le_trans sW b1.size
    clear b1
    replace l6 : w.heap.size + 4 ≤ b6 := Nat.le_trans hs0 l6
    replace l7 : w.heap.size + 4 ≤ b7 := Nat.le_trans hs0 l7
    clear hs0 hz
    go_wp2_with fail
    have g2 := fun g : Ext w6 => g.word f2
    have g3 := fun g : Ext w6 => g.word f3
    have fo := fold_wa
    refine region_ext (by kernel_rfl) (by kernel_rfl) ?_
    repeat (go_big_quiet_step ((go_at_call 68; first | with_reducible exact calls_ext (H4.out _) | with_reducible exact calls_ext (H5.out _))))
    refine wpQuiet_nil ?_
    rintro _ ⟨g, rfl⟩
    clear g2 g3 fo
    have b1 := g.below
    replace f2 := Below.stays b1 f2
    replace f3 := Below.stays b1 f3
    replace f4 := Below.stays b1 f4
    replace f5 := Below.stays b1 f5
    replace f6 := Below.stays b1 f6
    replace f7 := Below.stays b1 f7
    replace bW := bW.trans (b1.mono bW.size)
    replace sW := Nat.le_trans sW b1.size
    clear b1
    generalize g.on = w8 at *
    go_wp2_with (refine wpList_load_row rfl 24 _ rfl _ rfl 24 _ (0, 0) _ (by assumption) Try.underlying24 rfl Try.infoWa ?_)
    refine (H6.out _).mono ?_
    rintro e w9 ⟨rfl, b1⟩
    replace f2 := Below.stays b1 f2
    replace f3 := Below.stays b1 f3
    replace f4 := Below.stays b1 f4
    replace f5 := Below.stays b1 f5
    replace f6 := Below.stays b1 f6
    replace f7 := Below.stays b1 f7
    replace bW := bW.trans (b1.mono bW.size)
    replace sW := Nat.le_trans sW b1.size
    clear b1
    go_upto_region 4 with (refine wpList_store_row rfl 24 (.tmp 6) _ rfl _ _ (wa nq) rfl rfl f6 Try.infoWa rfl wa_one ?_)
    simp only [Act.put]
    replace f2 := blk_row_other (b := b6) (c' := wa nq) f2 (by omega)
    replace f3 := blk_row_other (b := b6) (c' := wa nq) f3 (by omega)
    replace f4 := blk_row_other (b := b6) (c' := wa nq) f4 (by omega)
    replace f5 := blk_row_other (b := b6) (c' := wa nq) f5 (by omega)
    replace f7 := blk_row_other (b := b6) (c' := wa nq) f7 (by omega)
    replace f6 := blk_row (c' := wa nq) f6
    replace bW : Below w.heap.size w (w9.setRow (b6) (wa nq)) := below_setRow bW (by omega) _
    replace sW := Nat.le_trans sW (Nat.le_of_eq (setRow_size w9 (b6) (wa nq)).symm)
    generalize (w9.setRow (b6) (wa nq)) = w10 at *
    go_wp2_with (refine wpList_load_row rfl 24 _ rfl _ rfl 24 _ (0, 0) _ (by assumption) Try.underlying24 rfl Try.infoWa ?_)
    refine (H4.out _).mono ?_
    rintro e w11 ⟨rfl, b1⟩
    replace f2 := Below.stays b1 f2
    replace f3 := Below.stays b1 f3
    replace f4 := Below.stays b1 f4
    replace f5 := Below.stays b1 f5
    replace f6 := Below.stays b1 f6
    replace f7 := Below.stays b1 f7
    replace bW := bW.trans (b1.mono bW.size)
    replace sW := Nat.le_trans sW b1.size
    clear b1
    go_wp2_with fail
    have d6 := word_cells f6
    have d7 := word_cells f7
    have fo := fold_wa
    have k1 := store_old (w := w11.drew) (m := nq) f4
    have k2 := store_old (m := r) (blk_row_other (w := w11.drew) (b := w.heap.size + 1 + 1) (c' := wa nq) f5 (by omega))
    have d8 := word_cells (blk_row_other (w := w11.drew) (b := w.heap.size + 1 + 1) (c' := wa nq) f7 (by omega))
    go_region
    all_goals
      have e4 := word_cells (blk_row_other (b := w.heap.size + 1 + 1 + 1) (c' := wa r) (blk_row (w := w11.drew) (c' := wa nq) f4) (by omega))
      have e5 := word_cells (blk_row (c' := wa r) (blk_row_other (w := w11.drew) (b := w.heap.size + 1 + 1) (c' := wa nq) f5 (by omega)))
      clear k1 k2 d6 d7 d8 fo
      go_wp2_with fail
      exact bodyPost_ret (v := .tuple #[wd nq, wd r]) (by simp [results, Try.results44, go_sem, e4, e5, fold_wa]) rfl ⟨rfl, below_setRow (below_setRow bW.drew (by omega) _) (by omega) _⟩

set_option maxHeartbeats 2000000 in
theorem sdiv_walk10 (a b x y q r nq nr : Nat) (w : World) (H1 : Hid (∀ w : World, Calls Try.prog 67 #[wd a] w fun e w' => e = .returned (wd x) ∧ Below w.heap.size w w')) (H2 : Hid (∀ w : World, Calls Try.prog 67 #[wd b] w fun e w' => e = .returned (wd y) ∧ Below w.heap.size w w')) (H3 : Hid (∀ w : World, Calls Try.prog 43 #[wd x, wd y] w fun e w' => e = .returned (.tuple #[wd q, wd r]) ∧ Below w.heap.size w w')) (H4 : Hid (∀ w : World, Calls Try.prog 68 #[wd a] w fun e w' => e = .returned (.bool true) ∧ Below w.heap.size w w')) (H5 : Hid (∀ w : World, Calls Try.prog 68 #[wd b] w fun e w' => e = .returned (.bool false) ∧ Below w.heap.size w w')) (H6 : Hid (∀ w : World, Calls Try.prog 69 #[wd q] w fun e w' => e = .returned (wd nq) ∧ Below w.heap.size w w')) (H7 : Hid (∀ w : World, Calls Try.prog 69 #[wd r] w fun e w' => e = .returned (wd nr) ∧ Below w.heap.size w w')) :
    Calls Try.prog 44 #[wd a, wd b] w fun e w' => e = .returned (.tuple #[wd nq, wd nr]) ∧ Below w.heap.size w w' := by
  have hz := z4_wa
  have hsz := wa_size
  go_enter Try.func44, Try.ntmps44
  go_upto_region 1 with fail
  have f2 : ((((w.alloc (.cells (wa a) 24)).alloc (.cells (wa b) 24)).alloc (.cells (wa 0) 24)).alloc (.cells (wa 0) 24)).heap[w.heap.size]? = some (.cells (wa a) 24) := blk_alloc (blk_alloc (blk_alloc (blk_new _ rfl)))
  have f3 : ((((w.alloc (.cells (wa a) 24)).alloc (.cells (wa b) 24)).alloc (.cells (wa 0) 24)).alloc (.cells (wa 0) 24)).heap[w.heap.size + 1]? = some (.cells (wa b) 24) := blk_alloc (blk_alloc (blk_new _ (by simp)))
  have f4 : ((((w.alloc (.cells (wa a) 24)).alloc (.cells (wa b) 24)).alloc (.cells (wa 0) 24)).alloc (.cells (wa 0) 24)).heap[w.heap.size + 1 + 1]? = some (.cells (wa 0) 24) := blk_alloc (blk_new _ (by simp))
  have f5 : ((((w.alloc (.cells (wa a) 24)).alloc (.cells (wa b) 24)).alloc (.cells (wa 0) 24)).alloc (.cells (wa 0) 24)).heap[w.heap.size + 1 + 1 + 1]? = some (.cells (wa 0) 24) := blk_new _ (by simp)
  have bW : Below w.heap.size w ((((w.alloc (.cells (wa a) 24)).alloc (.cells (wa b) 24)).alloc (.cells (wa 0) 24)).alloc (.cells (wa 0) 24)) := (((((Below.refl _ _).alloc (Nat.le_refl _) _).alloc (by simp <;> omega) _).alloc (by simp <;> omega) _).alloc (by simp <;> omega) _)
  have sW : w.heap.size + 4 ≤ ((((w.alloc (.cells (wa a) 24)).alloc (.cells (wa b) 24)).alloc (.cells (wa 0) 24)).alloc (.cells (wa 0) 24)).heap.size := by simp
  generalize ((((w.alloc (.cells (wa a) 24)).alloc (.cells (wa b) 24)).alloc (.cells (wa 0) 24)).alloc (.cells (wa 0) 24)) = W at *
  refine region_mk2 (aQ := ?aQ) 8 ⟨8, 10, 24, 6, 14, wa 0, wa q⟩ ⟨9, 11, 24, 7, 15, wa 0, wa r⟩ (by kernel_rfl) (by kernel_rfl) (by simp) (fun w1x => ?hq) ?hok1 ?hok2 ?hh
  case hq =>
    simp only [List.take_succ_cons, List.take_zero]
    repeat (first | (go_big_quiet_want; refine quiet_load_row 24 _ rfl _ (wa a) rfl (fun w2 hw2 => by obtain ⟨g, rfl⟩ := hw2; exact g.block (w1x.block f2)) Try.underlying24 Try.infoWa ?_; simp only [Act.put, List.setIfInBounds_toArray, List.set_cons_succ, List.set_cons_zero]; go_big_quiet_on) | (go_big_quiet_want; refine quiet_load_row 24 _ rfl _ (wa b) rfl (fun w2 hw2 => by obtain ⟨g, rfl⟩ := hw2; exact g.block (w1x.block f3)) Try.underlying24 Try.infoWa ?_; simp only [Act.put, List.setIfInBounds_toArray, List.set_cons_succ, List.set_cons_zero]; go_big_quiet_on) | go_big_quiet_step (first | (go_at_call 67; first | with_reducible exact calls_ext (H1.out _) | with_reducible exact calls_ext (H2.out _)) | (go_at_call 43; with_reducible exact calls_ext (H3.out _))))
    refine wpQuiet_nil ?_
    rfl
  case hok1 => exact ⟨Try.zeroValue24, Try.infoW, rfl, by simp [wa, Value.oneCell'], by simp, rfl⟩
  case hok2 => exact ⟨Try.zeroValue24, Try.infoW, rfl, by simp [wa, Value.oneCell'], by simp, rfl⟩
  case hh =>
    intro b6 b7 w6 b1 l6 l7 hne f6 f7
    simp only [Act.put, List.setIfInBounds_toArray, List.set_cons_succ, List.set_cons_zero]
    dsimp only at f6 f7
    have hs0 := sW
    replace f2 := Below.stays b1 f2
    replace f3 := Below.stays b1 f3
    replace f4 := Below.stays b1 f4
    replace f5 := Below.stays b1 f5
    replace bW := bW.trans (b1.mono bW.size)
    replace sW := Nat.le_trans sW b1.size
    clear b1
    replace l6 : w.heap.size + 4 ≤ b6 := Nat.le_trans hs0 l6
    replace l7 : w.heap.size + 4 ≤ b7 := Nat.le_trans hs0 l7
    clear hs0 hz
    go_wp2_with fail
    have g2 := fun g : Ext w6 => g.word f2
    have g3 := fun g : Ext w6 => g.word f3
    have fo := fold_wa
    refine region_ext (by kernel_rfl) (by kernel_rfl) ?_
    repeat (go_big_quiet_step ((go_at_call 68; first | with_reducible exact calls_ext (H4.out _) | with_reducible exact calls_ext (H5.out _))))
    refine wpQuiet_nil ?_
    rintro _ ⟨g, rfl⟩
    clear g2 g3 fo
    have b1 := g.below
    replace f2 := Below.stays b1 f2
    replace f3 := Below.stays b1 f3
    replace f4 := Below.stays b1 f4
    replace f5 := Below.stays b1 f5
    replace f6 := Below.stays b1 f6
    replace f7 := Below.stays b1 f7
    replace bW := bW.trans (b1.mono bW.size)
    replace sW := Nat.le_trans sW b1.size
    clear b1
    generalize g.on = w8 at *
    go_wp2_with (refine wpList_load_row rfl 24 _ rfl _ rfl 24 _ (0, 0) _ (by assumption) Try.underlying24 rfl Try.infoWa ?_)
    refine (H6.out _).mono ?_
    rintro e w9 ⟨rfl, b1⟩
    replace f2 := Below.stays b1 f2
    replace f3 := Below.stays b1 f3
    replace f4 := Below.stays b1 f4
    replace f5 := Below.stays b1 f5
    replace f6 := Below.stays b1 f6
    replace f7 := Below.stays b1 f7
    replace bW := bW.trans (b1.mono bW.size)
    replace sW := Nat.le_trans sW b1.size
    clear b1
    go_upto_region 4 with (refine wpList_store_row rfl 24 (.tmp 6) _ rfl _ _ (wa nq) rfl rfl f6 Try.infoWa rfl wa_one ?_)
    simp only [Act.put]
    replace f2 := blk_row_other (b := b6) (c' := wa nq) f2 (by omega)
    replace f3 := blk_row_other (b := b6) (c' := wa nq) f3 (by omega)
    replace f4 := blk_row_other (b := b6) (c' := wa nq) f4 (by omega)
    replace f5 := blk_row_other (b := b6) (c' := wa nq) f5 (by omega)
    replace f7 := blk_row_other (b := b6) (c' := wa nq) f7 (by omega)
    replace f6 := blk_row (c' := wa nq) f6
    replace bW : Below w.heap.size w (w9.setRow (b6) (wa nq)) := below_setRow bW (by omega) _
    replace sW := Nat.le_trans sW (Nat.le_of_eq (setRow_size w9 (b6) (wa nq)).symm)
    generalize (w9.setRow (b6) (wa nq)) = w10 at *
    go_wp2_with (refine wpList_load_row rfl 24 _ rfl _ rfl 24 _ (0, 0) _ (by assumption) Try.underlying24 rfl Try.infoWa ?_)
    refine (H4.out _).mono ?_
    rintro e w11 ⟨rfl, b1⟩
    replace f2 := Below.stays b1 f2
    replace f3 := Below.stays b1 f3
    replace f4 := Below.stays b1 f4
    replace f5 := Below.stays b1 f5
    replace f6 := Below.stays b1 f6
    replace f7 := Below.stays b1 f7
    replace bW := bW.trans (b1.mono bW.size)
    replace sW := Nat.le_trans sW b1.size
    clear b1
    go_wp2_with (refine wpList_load_row rfl 24 _ rfl _ rfl 24 _ (0, 0) _ (by assumption) Try.underlying24 rfl Try.infoWa ?_)
    refine (H7.out _).mono ?_
    rintro e w12 ⟨rfl, b1⟩
    replace f2 := Below.stays b1 f2
    replace f3 := Below.stays b1 f3
    replace f4 := Below.stays b1 f4
    replace f5 := Below.stays b1 f5
    replace f6 := Below.stays b1 f6
    replace f7 := Below.stays b1 f7
    replace bW := bW.trans (b1.mono bW.size)
    replace sW := Nat.le_trans sW b1.size
    clear b1
    go_upto_region 6 with (refine wpList_store_row rfl 24 (.tmp 7) _ rfl _ _ (wa nr) rfl rfl f7 Try.infoWa rfl wa_one ?_)
    simp only [Act.put]
    replace f2 := blk_row_other (b := b7) (c' := wa nr) f2 (by omega)
    replace f3 := blk_row_other (b := b7) (c' := wa nr) f3 (by omega)
    replace f4 := blk_row_other (b := b7) (c' := wa nr) f4 (by omega)
    replace f5 := blk_row_other (b := b7) (c' := wa nr) f5 (by omega)
    replace f6 := blk_row_other (b := b7) (c' := wa nr) f6 (by omega)
    replace f7 := blk_row (c' := wa nr) f7
    replace bW : Below w.heap.size w (w12.setRow (b7) (wa nr)) := below_setRow bW (by omega) _
    replace sW := Nat.le_trans sW (Nat.le_of_eq (setRow_size w12 (b7) (wa nr)).symm)
    generalize (w12.setRow (b7) (wa nr)) = w13 at *
    have d6 := word_cells f6
    have d7 := word_cells f7
    have fo := fold_wa
    have k1 := store_old (w := w13.drew) (m := nq) f4
    have k2 := store_old (m := nr) (blk_row_other (w := w13.drew) (b := w.heap.size + 1 + 1) (c' := wa nq) f5 (by omega))
    have d8 := word_cells (blk_row_other (w := w13.drew) (b := w.heap.size + 1 + 1) (c' := wa nq) f7 (by omega))
    go_region
    all_goals
      have e4 := word_cells (blk_row_other (b := w.heap.size + 1 + 1 + 1) (c' := wa nr) (blk_row (w := w13.drew) (c' := wa nq) f4) (by omega))
      have e5 := word_cells (blk_row (c' := wa nr) (blk_row_other (w := w13.drew) (b := w.heap.size + 1 + 1) (c' := wa nq) f5 (by omega)))
      clear k1 k2 d6 d7 d8 fo
      go_wp2_with fail
      exact bodyPost_ret (v := .tuple #[wd nq, wd nr]) (by simp [results, Try.results44, go_sem, e4, e5, fold_wa]) rfl ⟨rfl, below_setRow (below_setRow bW.drew (by omega) _) (by omega) _⟩

set_option maxHeartbeats 2000000 in
theorem sdiv_walk11 (a b x y q r nr : Nat) (w : World) (H1 : Hid (∀ w : World, Calls Try.prog 67 #[wd a] w fun e w' => e = .returned (wd x) ∧ Below w.heap.size w w')) (H2 : Hid (∀ w : World, Calls Try.prog 67 #[wd b] w fun e w' => e = .returned (wd y) ∧ Below w.heap.size w w')) (H3 : Hid (∀ w : World, Calls Try.prog 43 #[wd x, wd y] w fun e w' => e = .returned (.tuple #[wd q, wd r]) ∧ Below w.heap.size w w')) (H4 : Hid (∀ w : World, Calls Try.prog 68 #[wd a] w fun e w' => e = .returned (.bool true) ∧ Below w.heap.size w w')) (H5 : Hid (∀ w : World, Calls Try.prog 68 #[wd b] w fun e w' => e = .returned (.bool true) ∧ Below w.heap.size w w')) (H7 : Hid (∀ w : World, Calls Try.prog 69 #[wd r] w fun e w' => e = .returned (wd nr) ∧ Below w.heap.size w w')) :
    Calls Try.prog 44 #[wd a, wd b] w fun e w' => e = .returned (.tuple #[wd q, wd nr]) ∧ Below w.heap.size w w' := by
  have hz := z4_wa
  have hsz := wa_size
  go_enter Try.func44, Try.ntmps44
  go_upto_region 1 with fail
  have f2 : ((((w.alloc (.cells (wa a) 24)).alloc (.cells (wa b) 24)).alloc (.cells (wa 0) 24)).alloc (.cells (wa 0) 24)).heap[w.heap.size]? = some (.cells (wa a) 24) := blk_alloc (blk_alloc (blk_alloc (blk_new _ rfl)))
  have f3 : ((((w.alloc (.cells (wa a) 24)).alloc (.cells (wa b) 24)).alloc (.cells (wa 0) 24)).alloc (.cells (wa 0) 24)).heap[w.heap.size + 1]? = some (.cells (wa b) 24) := blk_alloc (blk_alloc (blk_new _ (by simp)))
  have f4 : ((((w.alloc (.cells (wa a) 24)).alloc (.cells (wa b) 24)).alloc (.cells (wa 0) 24)).alloc (.cells (wa 0) 24)).heap[w.heap.size + 1 + 1]? = some (.cells (wa 0) 24) := blk_alloc (blk_new _ (by simp))
  have f5 : ((((w.alloc (.cells (wa a) 24)).alloc (.cells (wa b) 24)).alloc (.cells (wa 0) 24)).alloc (.cells (wa 0) 24)).heap[w.heap.size + 1 + 1 + 1]? = some (.cells (wa 0) 24) := blk_new _ (by simp)
  have bW : Below w.heap.size w ((((w.alloc (.cells (wa a) 24)).alloc (.cells (wa b) 24)).alloc (.cells (wa 0) 24)).alloc (.cells (wa 0) 24)) := (((((Below.refl _ _).alloc (Nat.le_refl _) _).alloc (by simp <;> omega) _).alloc (by simp <;> omega) _).alloc (by simp <;> omega) _)
  have sW : w.heap.size + 4 ≤ ((((w.alloc (.cells (wa a) 24)).alloc (.cells (wa b) 24)).alloc (.cells (wa 0) 24)).alloc (.cells (wa 0) 24)).heap.size := by simp
  generalize ((((w.alloc (.cells (wa a) 24)).alloc (.cells (wa b) 24)).alloc (.cells (wa 0) 24)).alloc (.cells (wa 0) 24)) = W at *
  refine region_mk2 (aQ := ?aQ) 8 ⟨8, 10, 24, 6, 14, wa 0, wa q⟩ ⟨9, 11, 24, 7, 15, wa 0, wa r⟩ (by kernel_rfl) (by kernel_rfl) (by simp) (fun w1x => ?hq) ?hok1 ?hok2 ?hh
  case hq =>
    simp only [List.take_succ_cons, List.take_zero]
    repeat (first | (go_big_quiet_want; refine quiet_load_row 24 _ rfl _ (wa a) rfl (fun w2 hw2 => by obtain ⟨g, rfl⟩ := hw2; exact g.block (w1x.block f2)) Try.underlying24 Try.infoWa ?_; simp only [Act.put, List.setIfInBounds_toArray, List.set_cons_succ, List.set_cons_zero]; go_big_quiet_on) | (go_big_quiet_want; refine quiet_load_row 24 _ rfl _ (wa b) rfl (fun w2 hw2 => by obtain ⟨g, rfl⟩ := hw2; exact g.block (w1x.block f3)) Try.underlying24 Try.infoWa ?_; simp only [Act.put, List.setIfInBounds_toArray, List.set_cons_succ, List.set_cons_zero]; go_big_quiet_on) | go_big_quiet_step (first | (go_at_call 67; first | with_reducible exact calls_ext (H1.out _) | with_reducible exact calls_ext (H2.out _)) | (go_at_call 43; with_reducible exact calls_ext (H3.out _))))
    refine wpQuiet_nil ?_
    rfl
  case hok1 => exact ⟨Try.zeroValue24, Try.infoW, rfl, by simp [wa, Value.oneCell'], by simp, rfl⟩
  case hok2 => exact ⟨Try.zeroValue24, Try.infoW, rfl, by simp [wa, Value.oneCell'], by simp, rfl⟩
  case hh =>
    intro b6 b7 w6 b1 l6 l7 hne f6 f7
    simp only [Act.put, List.setIfInBounds_toArray, List.set_cons_succ, List.set_cons_zero]
    dsimp only at f6 f7
    have hs0 := sW
    replace f2 := Below.stays b1 f2
    replace f3 := Below.stays b1 f3
    replace f4 := Below.stays b1 f4
    replace f5 := Below.stays b1 f5
    replace bW := bW.trans (b1.mono bW.size)
    replace sW := Nat.le_trans sW b1.size
    clear b1
    replace l6 : w.heap.size + 4 ≤ b6 := Nat.le_trans hs0 l6
    replace l7 : w.heap.size + 4 ≤ b7 := Nat.le_trans hs0 l7
    clear hs0 hz
    go_wp2_with fail
    have g2 := fun g : Ext w6 => g.word f2
    have g3 := fun g : Ext w6 => g.word f3
    have fo := fold_wa
    refine region_ext (by kernel_rfl) (by kernel_rfl) ?_
    repeat (go_big_quiet_step ((go_at_call 68; first | with_reducible exact calls_ext (H4.out _) | with_reducible exact calls_ext (H5.out _))))
    refine wpQuiet_nil ?_
    rintro _ ⟨g, rfl⟩
    clear g2 g3 fo
    have b1 := g.below
    replace f2 := Below.stays b1 f2
    replace f3 := Below.stays b1 f3
    replace f4 := Below.stays b1 f4
    replace f5 := Below.stays b1 f5
    replace f6 := Below.stays b1 f6
    replace f7 := Below.stays b1 f7
    replace bW := bW.trans (b1.mono bW.size)
    replace sW := Nat.le_trans sW b1.size
    clear b1
    generalize g.on = w8 at *
    go_wp2_with (refine wpList_load_row rfl 24 _ rfl _ rfl 24 _ (0, 0) _ (by assumption) Try.underlying24 rfl Try.infoWa ?_)
    refine (H4.out _).mono ?_
    rintro e w11 ⟨rfl, b1⟩
    replace f2 := Below.stays b1 f2
    replace f3 := Below.stays b1 f3
    replace f4 := Below.stays b1 f4
    replace f5 := Below.stays b1 f5
    replace f6 := Below.stays b1 f6
    replace f7 := Below.stays b1 f7
    replace bW := bW.trans (b1.mono bW.size)
    replace sW := Nat.le_trans sW b1.size
    clear b1
    go_wp2_with (refine wpList_load_row rfl 24 _ rfl _ rfl 24 _ (0, 0) _ (by assumption) Try.underlying24 rfl Try.infoWa ?_)
    refine (H7.out _).mono ?_
    rintro e w12 ⟨rfl, b1⟩
    replace f2 := Below.stays b1 f2
    replace f3 := Below.stays b1 f3
    replace f4 := Below.stays b1 f4
    replace f5 := Below.stays b1 f5
    replace f6 := Below.stays b1 f6
    replace f7 := Below.stays b1 f7
    replace bW := bW.trans (b1.mono bW.size)
    replace sW := Nat.le_trans sW b1.size
    clear b1
    go_upto_region 6 with (refine wpList_store_row rfl 24 (.tmp 7) _ rfl _ _ (wa nr) rfl rfl f7 Try.infoWa rfl wa_one ?_)
    simp only [Act.put]
    replace f2 := blk_row_other (b := b7) (c' := wa nr) f2 (by omega)
    replace f3 := blk_row_other (b := b7) (c' := wa nr) f3 (by omega)
    replace f4 := blk_row_other (b := b7) (c' := wa nr) f4 (by omega)
    replace f5 := blk_row_other (b := b7) (c' := wa nr) f5 (by omega)
    replace f6 := blk_row_other (b := b7) (c' := wa nr) f6 (by omega)
    replace f7 := blk_row (c' := wa nr) f7
    replace bW : Below w.heap.size w (w12.setRow (b7) (wa nr)) := below_setRow bW (by omega) _
    replace sW := Nat.le_trans sW (Nat.le_of_eq (setRow_size w12 (b7) (wa nr)).symm)
    generalize (w12.setRow (b7) (wa nr)) = w13 at *
    have d6 := word_cells f6
    have d7 := word_cells f7
    have fo := fold_wa
    have k1 := store_old (w := w13.drew) (m := q) f4
    have k2 := store_old (m := nr) (blk_row_other (w := w13.drew) (b := w.heap.size + 1 + 1) (c' := wa q) f5 (by omega))
    have d8 := word_cells (blk_row_other (w := w13.drew) (b := w.heap.size + 1 + 1) (c' := wa q) f7 (by omega))
    go_region
    all_goals
      have e4 := word_cells (blk_row_other (b := w.heap.size + 1 + 1 + 1) (c' := wa nr) (blk_row (w := w13.drew) (c' := wa q) f4) (by omega))
      have e5 := word_cells (blk_row (c' := wa nr) (blk_row_other (w := w13.drew) (b := w.heap.size + 1 + 1) (c' := wa q) f5 (by omega)))
      clear k1 k2 d6 d7 d8 fo
      go_wp2_with fail
      exact bodyPost_ret (v := .tuple #[wd q, wd nr]) (by simp [results, Try.results44, go_sem, e4, e5, fold_wa]) rfl ⟨rfl, below_setRow (below_setRow bW.drew (by omega) _) (by omega) _⟩
theorem sdiv_wd (a b : Nat) (w : World) : Calls Try.prog 44 #[wd a, wd b] w fun e w' => e = .returned (.tuple #[wd (sq a b), wd (sr a b)]) ∧ Below w.heap.size w w' := by
  have h1 := Lib.hid fun w => ssize_wd a w
  have h2 := Lib.hid fun w => ssize_wd b w
  have h3 := Lib.hid fun w => div_wd (sz a) (sz b) w
  have h4 := fun w => below_wd a w
  have h5 := fun w => below_wd b w
  unfold sq sr
  cases hA : bel a <;> cases hB : bel b <;> rw [hA] at h4 <;> rw [hB] at h5
  · exact sdiv_walk00 _ _ _ _ _ _ w h1 h2 h3 (Lib.hid h4) (Lib.hid h5)
  · exact sdiv_walk01 _ _ _ _ _ _ _ w h1 h2 h3 (Lib.hid h4) (Lib.hid h5) (Lib.hid fun w => sneg_wd _ w)
  · exact sdiv_walk10 _ _ _ _ _ _ _ _ w h1 h2 h3 (Lib.hid h4) (Lib.hid h5) (Lib.hid fun w => sneg_wd _ w) (Lib.hid fun w => sneg_wd _ w)
  · exact sdiv_walk11 _ _ _ _ _ _ _ w h1 h2 h3 (Lib.hid h4) (Lib.hid h5) (Lib.hid fun w => sneg_wd _ w)
end Go.Proofs.Ytdpbjdecbilaeaa
/- What the function Extend of package sign does, and the document's Below, Size, neg and Less; all older memory is as it was. -/
namespace Go.Proofs.Ytdpbjdecbilaeaa
open Go.RowKit SmWord
set_option maxRecDepth 100000

set_option maxHeartbeats 1000000 in
theorem extend_walk0 (n a : Nat) (w : World) (H1 : Hid (∀ w : World, Calls Try.prog 53 #[wd n] w fun e w' => e = .returned (.tuple #[.int .u64 0, .bool false]) ∧ Below w.heap.size w w')) :
    Calls Try.prog 46 #[wd n, wd a] w fun e w' => e = .returned (wd a) ∧ Below w.heap.size w w' := by
  have hz := z4_wa
  have hsz := wa_size
  go_enter Try.func46, Try.ntmps46
  go_upto_region 1 with fail
  have f2 : (((w.alloc (.cells (wa n) 24)).alloc (.cells (wa a) 24)).alloc (.cells (wa 0) 24)).heap[w.heap.size]? = some (.cells (wa n) 24) := blk_alloc (blk_alloc (blk_new _ rfl))
  have f3 : (((w.alloc (.cells (wa n) 24)).alloc (.cells (wa a) 24)).alloc (.cells (wa 0) 24)).heap[w.heap.size + 1]? = some (.cells (wa a) 24) := blk_alloc (blk_new _ (by simp))
  have f4 : (((w.alloc (.cells (wa n) 24)).alloc (.cells (wa a) 24)).alloc (.cells (wa 0) 24)).heap[w.heap.size + 1 + 1]? = some (.cells (wa 0) 24) := blk_new _ (by simp)
  have bW : Below w.heap.size w (((w.alloc (.cells (wa n) 24)).alloc (.cells (wa a) 24)).alloc (.cells (wa 0) 24)) := ((((Below.refl _ _).alloc (Nat.le_refl _) _).alloc (by simp <;> omega) _).alloc (by simp <;> omega) _)
  have sW : w.heap.size + 3 ≤ (((w.alloc (.cells (wa n) 24)).alloc (.cells (wa a) 24)).alloc (.cells (wa 0) 24)).heap.size := by simp
  generalize (((w.alloc (.cells (wa n) 24)).alloc (.cells (wa a) 24)).alloc (.cells (wa 0) 24)) = W at *
  go_wp2_with (refine wpList_load_row rfl 24 _ rfl _ rfl 24 _ (0, 0) _ (by assumption) Try.underlying24 rfl Try.infoWa ?_)
  refine (H1.out _).mono ?_
  rintro e w1 ⟨rfl, b1⟩
  replace f2 := Below.stays b1 f2
  replace f3 := Below.stays b1 f3
  replace f4 := Below.stays b1 f4
  replace bW := bW.trans (b1.mono bW.size)
  replace sW := Nat.le_trans sW b1.size
  clear b1
  go_wp2_with (first | (refine wpList_load_row rfl 24 _ rfl _ rfl 24 _ (0, 0) _ (by assumption) Try.underlying24 rfl Try.infoWa ?_) | (refine wpList_store_row rfl 24 (.tmp 4) _ rfl _ _ (wa a) rfl rfl f4 Try.infoWa rfl wa_one ?_))
  have e2 := word_cells (blk_row (c' := wa a) f4)
  exact bodyPost_ret (v := wd a) (by simp [results, Try.results46, go_sem, e2, fold_wa]) rfl ⟨rfl, below_setRow bW (by omega) _⟩

set_option maxHeartbeats 1000000 in
theorem extend_walk1 (n a v : Nat) (w : World) (hv : 31 ≤ v) (H1 : Hid (∀ w : World, Calls Try.prog 53 #[wd n] w fun e w' => e = .returned (.tuple #[.int .u64 (v : Int), .bool true]) ∧ Below w.heap.size w w')) :
    Calls Try.prog 46 #[wd n, wd a] w fun e w' => e = .returned (wd a) ∧ Below w.heap.size w w' := by
  have hz := z4_wa
  have hsz := wa_size
  go_enter Try.func46, Try.ntmps46
  go_upto_region 1 with fail
  have f2 : (((w.alloc (.cells (wa n) 24)).alloc (.cells (wa a) 24)).alloc (.cells (wa 0) 24)).heap[w.heap.size]? = some (.cells (wa n) 24) := blk_alloc (blk_alloc (blk_new _ rfl))
  have f3 : (((w.alloc (.cells (wa n) 24)).alloc (.cells (wa a) 24)).alloc (.cells (wa 0) 24)).heap[w.heap.size + 1]? = some (.cells (wa a) 24) := blk_alloc (blk_new _ (by simp))
  have f4 : (((w.alloc (.cells (wa n) 24)).alloc (.cells (wa a) 24)).alloc (.cells (wa 0) 24)).heap[w.heap.size + 1 + 1]? = some (.cells (wa 0) 24) := blk_new _ (by simp)
  have bW : Below w.heap.size w (((w.alloc (.cells (wa n) 24)).alloc (.cells (wa a) 24)).alloc (.cells (wa 0) 24)) := ((((Below.refl _ _).alloc (Nat.le_refl _) _).alloc (by simp <;> omega) _).alloc (by simp <;> omega) _)
  have sW : w.heap.size + 3 ≤ (((w.alloc (.cells (wa n) 24)).alloc (.cells (wa a) 24)).alloc (.cells (wa 0) 24)).heap.size := by simp
  generalize (((w.alloc (.cells (wa n) 24)).alloc (.cells (wa a) 24)).alloc (.cells (wa 0) 24)) = W at *
  go_wp2_with (refine wpList_load_row rfl 24 _ rfl _ rfl 24 _ (0, 0) _ (by assumption) Try.underlying24 rfl Try.infoWa ?_)
  refine (H1.out _).mono ?_
  rintro e w1 ⟨rfl, b1⟩
  replace f2 := Below.stays b1 f2
  replace f3 := Below.stays b1 f3
  replace f4 := Below.stays b1 f4
  replace bW := bW.trans (b1.mono bW.size)
  replace sW := Nat.le_trans sW b1.size
  clear b1
  go_wp2_with (first | (refine wpList_load_row rfl 24 _ rfl _ rfl 24 _ (0, 0) _ (by assumption) Try.underlying24 rfl Try.infoWa ?_) | (refine wpList_store_row rfl 24 (.tmp 4) _ rfl _ _ (wa a) rfl rfl f4 Try.infoWa rfl wa_one ?_))
  have e2 := word_cells (blk_row (c' := wa a) f4)
  exact bodyPost_ret (v := wd a) (by simp [results, Try.results46, go_sem, e2, fold_wa]) rfl ⟨rfl, below_setRow bW (by omega) _⟩

set_option maxHeartbeats 1000000 in
theorem extend_walk2 (n a v x t : Nat) (w : World) (hv : v ≤ 30) (hs : Hid (8 * (31 - (v : Int)) = ((8 * (31 - v) : Nat) : Int))) (H1 : Hid (∀ w : World, Calls Try.prog 53 #[wd n] w fun e w' => e = .returned (.tuple #[.int .u64 (v : Int), .bool true]) ∧ Below w.heap.size w w')) (H2 : Hid (∀ (i : Int), i = ((8 * (31 - v) : Nat) : Int) → ∀ w : World, Calls Try.prog 56 #[wd a, .int .u64 i] w fun e w' => e = .returned (wd x) ∧ Below w.heap.size w w')) (H3 : Hid (∀ (i : Int), i = ((8 * (31 - v) : Nat) : Int) → ∀ w : World, Calls Try.prog 59 #[wd x, .int .u64 i] w fun e w' => e = .returned (wd t) ∧ Below w.heap.size w w')) :
    Calls Try.prog 46 #[wd n, wd a] w fun e w' => e = .returned (wd t) ∧ Below w.heap.size w w' := by
  have hz := z4_wa
  have hsz := wa_size
  go_enter Try.func46, Try.ntmps46
  go_upto_region 1 with fail
  have f2 : (((w.alloc (.cells (wa n) 24)).alloc (.cells (wa a) 24)).alloc (.cells (wa 0) 24)).heap[w.heap.size]? = some (.cells (wa n) 24) := blk_alloc (blk_alloc (blk_new _ rfl))
  have f3 : (((w.alloc (.cells (wa n) 24)).alloc (.cells (wa a) 24)).alloc (.cells (wa 0) 24)).heap[w.heap.size + 1]? = some (.cells (wa a) 24) := blk_alloc (blk_new _ (by simp))
  have f4 : (((w.alloc (.cells (wa n) 24)).alloc (.cells (wa a) 24)).alloc (.cells (wa 0) 24)).heap[w.heap.size + 1 + 1]? = some (.cells (wa 0) 24) := blk_new _ (by simp)
  have bW : Below w.heap.size w (((w.alloc (.cells (wa n) 24)).alloc (.cells (wa a) 24)).alloc (.cells (wa 0) 24)) := ((((Below.refl _ _).alloc (Nat.le_refl _) _).alloc (by simp <;> omega) _).alloc (by simp <;> omega) _)
  have sW : w.heap.size + 3 ≤ (((w.alloc (.cells (wa n) 24)).alloc (.cells (wa a) 24)).alloc (.cells (wa 0) 24)).heap.size := by simp
  generalize (((w.alloc (.cells (wa n) 24)).alloc (.cells (wa a) 24)).alloc (.cells (wa 0) 24)) = W at *
  go_wp2_with (refine wpList_load_row rfl 24 _ rfl _ rfl 24 _ (0, 0) _ (by assumption) Try.underlying24 rfl Try.infoWa ?_)
  refine (H1.out _).mono ?_
  rintro e w1 ⟨rfl, b1⟩
  replace f2 := Below.stays b1 f2
  replace f3 := Below.stays b1 f3
  replace f4 := Below.stays b1 f4
  replace bW := bW.trans (b1.mono bW.size)
  replace sW := Nat.le_trans sW b1.size
  clear b1
  go_wp2_with (refine wpList_load_row rfl 24 _ rfl _ rfl 24 _ (0, 0) _ (by assumption) Try.underlying24 rfl Try.infoWa ?_)
  refine (H2.out _ ?_ _).mono ?_
  · exact hs.out
  rintro e w2 ⟨rfl, b1⟩
  replace f2 := Below.stays b1 f2
  replace f3 := Below.stays b1 f3
  replace f4 := Below.stays b1 f4
  replace bW := bW.trans (b1.mono bW.size)
  replace sW := Nat.le_trans sW b1.size
  clear b1
  go_wp2_with fail
  refine (H3.out _ ?_ _).mono ?_
  · exact hs.out
  rintro e w3 ⟨rfl, b1⟩
  replace f2 := Below.stays b1 f2
  replace f3 := Below.stays b1 f3
  replace f4 := Below.stays b1 f4
  replace bW := bW.trans (b1.mono bW.size)
  replace sW := Nat.le_trans sW b1.size
  clear b1
  go_wp2_with (refine wpList_store_row rfl 24 (.tmp 4) _ rfl _ _ (wa t) rfl rfl f4 Try.infoWa rfl wa_one ?_)
  have e2 := word_cells (blk_row (c' := wa t) f4)
  exact bodyPost_ret (v := wd t) (by simp [results, Try.results46, go_sem, e2, fold_wa]) rfl ⟨rfl, below_setRow bW (by omega) _⟩
/-- The lowest bytes of a word with their sign, of any number of bytes. -/
def exn (n a : Nat) : Nat := if smallB n = true ∧ l0 n ≤ 30 then ext (l0 n) a else a
theorem extend_wd (n a : Nat) (w : World) : Calls Try.prog 46 #[wd n, wd a] w fun e w' => e = .returned (wd (exn n a)) ∧ Below w.heap.size w w' := by
  have h1 := fun w => small_wd n w
  unfold exn
  cases hS : smallB n
  · rw [if_neg (fun h => Bool.false_ne_true h.1)]
    rw [hS] at h1
    exact extend_walk0 n a w (Lib.hid h1)
  · rw [hS] at h1
    by_cases hv : l0 n ≤ 30
    · rw [if_pos ⟨rfl, hv⟩]
      refine extend_walk2 n a (l0 n) (a * 2 ^ (8 * (31 - l0 n))) (ext (l0 n) a) w hv (Lib.hid (by omega)) (Lib.hid h1) (Lib.hid fun i hi w => ?_) (Lib.hid fun i hi w => ?_)
      · subst hi
        exact shl_wd a _ (by simp only [B]; omega) w
      · subst hi
        exact sar_wd _ _ (by simp only [B]; omega) w
    · rw [if_neg (fun h => hv h.2)]
      exact extend_walk1 n a (l0 n) w (by omega) (Lib.hid h1)

end Go.Proofs.Ytdpbjdecbilaeaa
