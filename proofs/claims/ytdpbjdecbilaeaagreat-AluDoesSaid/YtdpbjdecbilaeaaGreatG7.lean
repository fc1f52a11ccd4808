/- Plain arithmetic on words with a sign. -/
import Derived.Test.YtdpbjdecbilaeaaGreatG0
import Derived.Test.YtdpbjdecbilaeaaGreatG2
import Derived.Test.YtdpbjdecbilaeaaGreatG4
import Derived.Test.YtdpbjdecbilaeaaGreatG3
import Derived.Test.YtdpbjdecbilaeaaGreatG6
import Derived.Test.YtdpbjdecbilaeaaGreatG5
import Derived.Deep.RegionHeld3
import Derived.Deep.DeepCutAuto
namespace Go.Proofs.YtdpbjdecbilaeaaGreat.SmWord

/-- 2^255 -/
def Hf : Nat := 57896044618658097711785492504343953926634992332820282019728792003956564819968
theorem Hf_2 : Hf = 2 ^ 255 := by decide
theorem M_Hf : M = Hf * 2 := by decide
theorem M_pos : 0 < M := by decide
/-- Is it below 0? -/
def bel (a : Nat) : Bool := decide (Hf ≤ a % M)
/-- 0 less a word. -/
def ng (a : Nat) : Nat := M - 1 - a % M + 1
/-- A word without its sign. -/
def sz (a : Nat) : Nat := if bel a then ng a else a
def sq (a b : Nat) : Nat := if bel a != bel b then ng (sz a % M / (sz b % M)) else sz a % M / (sz b % M)
def sr (a b : Nat) : Nat := if bel a then ng (rs (sz a % M) (sz b % M)) else rs (sz a % M) (sz b % M)
def sless (a b : Nat) : Bool := decide ((a + Hf) % M < (b + Hf) % M)

theorem bel_bit (a : Nat) : (bitN a 255 = 1) = (bel a = true) := by
  unfold bitN bel
  have h1 : a % M / Hf = a / Hf % 2 := by rw [M_Hf, Nat.mod_mul_right_div_self]
  have h2 : a % M < M := Nat.mod_lt _ M_pos
  rw [← Hf_2, ← h1]
  clear h1
  apply propext
  rw [decide_eq_true_iff]
  simp only [M, Hf] at *
  omega
theorem bel_bitD (a : Nat) : decide (255 < 256 ∧ bitN a 255 = 1) = bel a := by
  rw [Bool.eq_iff_iff, ← bel_bit, decide_eq_true_iff]
  omega
theorem bel_l3 (a : Nat) : decide ((9223372036854775808 : Int) ≤ ((l3 a : Nat) : Int)) = bel a := by
  unfold bel l3
  have h : a / B / B / B % B = a % M / (B * B * B) := by
    rw [M_eq, Nat.mod_mul_right_div_self, Nat.div_div_eq_div_mul, Nat.div_div_eq_div_mul, Nat.mul_assoc]
  rw [h]
  have h2 : a % M < M := Nat.mod_lt _ M_pos
  rw [Bool.eq_iff_iff, decide_eq_true_iff, decide_eq_true_iff]
  simp only [M, Hf, B] at *
  omega
theorem bel_congr {m n : Nat} (h : m % M = n % M) : bel m = bel n := by unfold bel; rw [h]
theorem ng_sub (a : Nat) : (ng a + a) % M = 0 % M := by
  unfold ng
  have h2 : a % M < M := Nat.mod_lt _ M_pos
  simp only [M] at *
  omega
theorem less_eq (a b : Nat) : sless a b = if bel a != bel b then bel a else decide (a % M < b % M) := by
  unfold sless bel
  by_cases h1 : Hf ≤ a % M <;> by_cases h2 : Hf ≤ b % M
  · simp only [h1, h2, decide_true, bne_self_eq_false, Bool.false_eq_true, if_false]
    rw [Bool.eq_iff_iff, decide_eq_true_iff, decide_eq_true_iff]
    simp only [M, Hf] at *
    omega
  · rw [decide_eq_true h1, decide_eq_false h2, if_pos (by decide), decide_eq_true_iff]
    simp only [M, Hf] at *
    omega
  · rw [decide_eq_true h2, decide_eq_false h1, if_pos (by decide), decide_eq_false_iff_not]
    simp only [M, Hf] at *
    omega
  · simp only [h1, h2, decide_false, bne_self_eq_false, Bool.false_eq_true, if_false]
    rw [Bool.eq_iff_iff, decide_eq_true_iff, decide_eq_true_iff]
    simp only [M, Hf] at *
    omega
theorem less_not (a b : Nat) : ¬ (sless a b = true ∧ sless b a = true) ∧ ((sless a b = true ∨ sless b a = true) ↔ a % M ≠ b % M) := by
  unfold sless
  rw [decide_eq_true_iff, decide_eq_true_iff]
  simp only [M, Hf] at *
  omega

/-! Quotients. -/
theorem sz_le (a : Nat) : sz a % M ≤ Hf := by
  unfold sz
  by_cases h : bel a = true
  · rw [if_pos h]; unfold bel at h; unfold ng; rw [decide_eq_true_iff] at h
    simp only [M, Hf] at *; omega
  · rw [if_neg h]; unfold bel at h; rw [decide_eq_true_iff] at h
    simp only [M, Hf] at *; omega
theorem sz_zero (b : Nat) : (sz b % M = 0) = (b % M = 0) := by
  apply propext
  unfold sz
  by_cases h : bel b = true
  · rw [if_pos h]; unfold bel at h; unfold ng; rw [decide_eq_true_iff] at h
    simp only [M, Hf] at *; omega
  · rw [if_neg h]
theorem ng_int (a : Nat) : ∃ k : Int, (ng a : Int) = -(a : Int) + (M : Int) * k := by
  have h := ng_sub a
  rw [Nat.zero_mod] at h
  obtain ⟨k, hk⟩ := Nat.dvd_of_mod_eq_zero h
  refine ⟨(k : Int), ?_⟩
  have : ((ng a + a : Nat) : Int) = ((M * k : Nat) : Int) := by rw [hk]
  rw [Int.natCast_add, Int.natCast_mul] at this
  omega
theorem mod_int (a : Nat) : ∃ k : Int, ((a % M : Nat) : Int) = (a : Int) + (M : Int) * k := by
  refine ⟨-((a / M : Nat) : Int), ?_⟩
  have := Nat.mod_add_div a M
  have h2 : ((a % M + M * (a / M) : Nat) : Int) = (a : Int) := by rw [this]
  rw [Int.natCast_add, Int.natCast_mul] at h2
  rw [Int.mul_neg]
  omega
theorem int_mod {x y : Nat} {k : Int} (h : (x : Int) = (y : Int) + (M : Int) * k) : x % M = y % M := by
  have : ((x % M : Nat) : Int) = ((y % M : Nat) : Int) := by
    rw [Int.natCast_emod, Int.natCast_emod, h, Int.add_mul_emod_self_left]
  omega
/-- The sign of a word. -/
def sg (a : Nat) : Int := if bel a then -1 else 1
theorem sz_int (a : Nat) : ∃ k : Int, (a : Int) = sg a * ((sz a % M : Nat) : Int) + (M : Int) * k := by
  obtain ⟨k1, h1⟩ := mod_int (sz a)
  obtain ⟨k2, h2⟩ := ng_int a
  unfold sz at *
  unfold sg
  by_cases h : bel a = true
  · rw [if_pos h] at h1
    rw [if_pos h, if_pos h]
    exact ⟨k1 + k2, by rw [h1, h2, Int.mul_add (M : Int) k1 k2]; omega⟩
  · rw [if_neg h] at h1
    rw [if_neg h, if_neg h]
    exact ⟨-k1, by rw [h1, Int.mul_neg]; omega⟩
theorem sq_int (a b : Nat) : ∃ k : Int, (sq a b : Int) = sg a * sg b * ((sz a % M / (sz b % M) : Nat) : Int) + (M : Int) * k := by
  obtain ⟨k2, h2⟩ := ng_int (sz a % M / (sz b % M))
  unfold sq sg
  cases hA : bel a <;> cases hB : bel b
  all_goals simp only [bne_self_eq_false, Bool.false_eq_true, if_false, if_true, Bool.true_bne, Bool.false_bne, Bool.not_false]
  · exact ⟨0, by omega⟩
  · exact ⟨k2, by omega⟩
  · exact ⟨k2, by omega⟩
  · exact ⟨0, by omega⟩
theorem sr_int (a b : Nat) : ∃ k : Int, (sr a b : Int) = sg a * ((rs (sz a % M) (sz b % M) : Nat) : Int) + (M : Int) * k := by
  obtain ⟨k2, h2⟩ := ng_int (rs (sz a % M) (sz b % M))
  unfold sr sg
  cases hA : bel a
  all_goals simp only [Bool.false_eq_true, if_false, if_true]
  · exact ⟨0, by omega⟩
  · exact ⟨k2, by omega⟩
theorem put_together (a b : Nat) (hb : b % M ≠ 0) : (sq a b * b + sr a b) % M = a % M := by
  obtain ⟨ka, ea⟩ := sz_int a
  obtain ⟨kb, eb⟩ := sz_int b
  obtain ⟨kq, eq⟩ := sq_int a b
  obtain ⟨kr, er⟩ := sr_int a b
  have hz : sz b % M ≠ 0 := by rw [ne_eq, sz_zero]; exact hb
  rw [rs_pos hz] at er
  have hd : ((sz b % M * (sz a % M / (sz b % M)) + sz a % M % (sz b % M) : Nat) : Int) = ((sz a % M : Nat) : Int) := by rw [Nat.div_add_mod]
  rw [Int.natCast_add, Int.natCast_mul] at hd
  have hs : sg b * sg b = 1 := by unfold sg; split <;> rfl
  refine int_mod (k := sg a * sg b * ((sz a % M / (sz b % M) : Nat) : Int) * kb + kq * (b : Int) + kr - ka) ?_
  rw [Int.natCast_add, Int.natCast_mul]
  generalize ((sz a % M / (sz b % M) : Nat) : Int) = Q at *
  generalize ((sz a % M % (sz b % M) : Nat) : Int) = R at *
  generalize ((sz a % M : Nat) : Int) = X at *
  generalize ((sz b % M : Nat) : Int) = Y at *
  generalize (sq a b : Int) = q at *
  generalize (sr a b : Int) = r at *
  generalize (a : Int) = x at *
  generalize (b : Int) = y at *
  generalize (M : Int) = m at *
  generalize sg a = s at *
  generalize sg b = t at *
  clear hz hb
  have e1 : q * y = s * (t * t) * Q * Y + m * (s * t * Q * kb + kq * y) := by
    rw [eq]
    conv => lhs; rw [Int.add_mul]; arg 1; rw [eb]
    grind
  rw [hs] at e1
  rw [e1, er, ea, ← hd]
  grind
theorem rest_lt (a b : Nat) (hb : b % M ≠ 0) : rs (sz a % M) (sz b % M) < sz b % M := by
  have hz : sz b % M ≠ 0 := by rw [ne_eq, sz_zero]; exact hb
  rw [rs_pos hz]
  exact Nat.mod_lt _ (by omega)
theorem rest_near (a b : Nat) (hb : b % M ≠ 0) : sz (sr a b) % M < sz b % M := by
  have h1 := rest_lt a b hb
  have h2 := sz_le b
  refine Nat.lt_of_le_of_lt ?_ h1
  generalize hR : rs (sz a % M) (sz b % M) = R at *
  have h3 : R < Hf := by omega
  unfold sr
  rw [hR]
  cases bel a
  · rw [if_neg (by decide)]
    unfold sz
    rw [if_neg (by unfold bel; rw [decide_eq_true_iff]; simp only [M, Hf] at *; omega)]
    exact Nat.mod_le _ _
  · rw [if_pos rfl]
    clear h1 h2 hR
    unfold sz
    by_cases h0 : R = 0
    · subst h0
      decide
    · have hb : bel (ng R) = true := by unfold bel ng; rw [decide_eq_true_iff]; simp only [M, Hf] at *; omega
      rw [if_pos hb]
      unfold ng
      simp only [M, Hf] at *
      omega
theorem rest_sign (a b : Nat) (hb : b % M ≠ 0) : sr a b % M = 0 ∨ bel (sr a b) = bel a := by
  have h1 := rest_lt a b hb
  have h2 := sz_le b
  generalize hR : rs (sz a % M) (sz b % M) = R at *
  have h3 : R < Hf := by omega
  unfold sr
  rw [hR]
  cases bel a
  · rw [if_neg (by decide)]
    refine Or.inr ?_
    unfold bel
    rw [decide_eq_false_iff_not]
    simp only [M, Hf] at *
    omega
  · rw [if_pos rfl]
    by_cases h0 : R = 0
    · subst h0
      exact Or.inl (by decide)
    · refine Or.inr ?_
      unfold bel ng
      rw [decide_eq_true_iff]
      simp only [M, Hf] at *
      omega
theorem by_zero (a b : Nat) (hb : b % M = 0) : sq a b % M = b % M ∧ sr a b % M = b % M := by
  have hz : sz b % M = 0 := by rw [sz_zero]; exact hb
  have hn : ng 0 % M = 0 := by decide
  unfold sq sr
  rw [hz, rs_zero, Nat.div_zero, hb]
  constructor
  · split
    · exact hn
    · decide
  · split
    · exact hn
    · decide

/-! Shifts down. -/
def sar (a n : Nat) : Nat := if bel a then M - 1 - (M - 1 - a % M) % M / 2 ^ n % M else a % M / 2 ^ n
theorem bit_not {x i : Nat} (hx : x < M) (hi : i < 256) : bitN (M - 1 - x) i = 1 - bitN x i := by
  have h := Nat.testBit_two_pow_sub_succ (x := x) (n := 256) (by rw [← M_2]; exact hx) i
  have e : M - 1 - x = 2 ^ 256 - (x + 1) := by rw [← M_2]; omega
  rw [← e] at h
  have a1 := bitN_test (M - 1 - x) i
  have a2 := bitN_test x i
  rw [h] at a1
  have b1 := bitN_lt (M - 1 - x) i
  have b2 := bitN_lt x i
  simp only [hi, decide_true, Bool.true_and, Bool.not_eq_true', eq_iff_iff] at a1 a2
  cases ht : x.testBit i
  · rw [ht] at a1 a2
    have c1 := a1.2 rfl
    have c2 : ¬ bitN x i = 1 := fun hh => by have := a2.1 hh; cases this
    omega
  · rw [ht] at a1 a2
    have c2 := a2.2 rfl
    have c1 : ¬ bitN (M - 1 - x) i = 1 := fun hh => by have := a1.1 hh; cases this
    omega
theorem sar_bit (a n i : Nat) (hi : i < 256) : bitN (sar a n) i = if i + n < 256 then bitN a (i + n) else bitN a 255 := by
  have hA : a % M < M := Nat.mod_lt _ M_pos
  have hb := bel_bit a
  have hl := bitN_lt a 255
  have hc : ∀ j, j < 256 → bitN (a % M) j = bitN a j := fun j hj => bit_congr (Nat.mod_mod _ _) hj
  unfold sar
  cases h : bel a
  · rw [if_neg (by decide), bit_down]
    rw [h] at hb
    by_cases hn : i + n < 256
    · rw [if_pos hn, hc _ hn]
    · rw [if_neg hn, bitN_high hA (by omega)]
      have : ¬ bitN a 255 = 1 := fun hh => by rw [hb] at hh; cases hh
      omega
  · rw [if_pos rfl]
    rw [h] at hb
    have h1 : bitN a 255 = 1 := by rw [hb]
    have hx : (M - 1 - a % M) % M = M - 1 - a % M := Nat.mod_eq_of_lt (by omega)
    have hy : (M - 1 - a % M) / 2 ^ n % M = (M - 1 - a % M) / 2 ^ n := Nat.mod_eq_of_lt (Nat.lt_of_le_of_lt (Nat.div_le_self _ _) (by omega))
    rw [hx, hy, bit_not (Nat.lt_of_le_of_lt (Nat.div_le_self _ _) (by omega)) hi, bit_down]
    by_cases hn : i + n < 256
    · rw [if_pos hn, bit_not hA hn, hc _ hn]
      have := bitN_lt a (i + n)
      omega
    · rw [if_neg hn, bitN_high (by omega) (by omega), h1]
theorem sar_bits (a n k i : Nat) (hk : k = min n 300) (hi : i < 256) : bitN (sar a n) i = if i + k < 256 then bitN a (i + k) else bitN a 255 := by
  rw [sar_bit a n i hi]
  by_cases h : n ≤ 300
  · rw [show k = n by omega]
  · rw [if_neg (by omega), if_neg (by omega)]
theorem sar_num (a n : Nat) (hn : n ≤ 256) : sar a n = if bel a then M - 2 ^ (256 - n) + a % M / 2 ^ n else a % M / 2 ^ n := by
  unfold sar
  cases bel a
  · rfl
  · rw [if_pos rfl, if_pos rfl]
    have hA : a % M < M := Nat.mod_lt _ M_pos
    have hx : (M - 1 - a % M) % M = M - 1 - a % M := Nat.mod_eq_of_lt (by omega)
    have hy : (M - 1 - a % M) / 2 ^ n % M = (M - 1 - a % M) / 2 ^ n := Nat.mod_eq_of_lt (Nat.lt_of_le_of_lt (Nat.div_le_self _ _) (by omega))
    rw [hx, hy]
    have e : M = 2 ^ n * 2 ^ (256 - n) := by rw [← Nat.pow_add, M_2]; congr 1; omega
    have hp : 0 < 2 ^ n := Nat.two_pow_pos n
    have hr : a % M % 2 ^ n < 2 ^ n := Nat.mod_lt _ hp
    have hd := Nat.div_add_mod (a % M) (2 ^ n)
    have hq : a % M / 2 ^ n < 2 ^ (256 - n) := by
      rw [Nat.div_lt_iff_lt_mul hp, Nat.mul_comm, ← e]; exact hA
    have h1 : (M - 1 - a % M) / 2 ^ n = 2 ^ (256 - n) - 1 - a % M / 2 ^ n := by
      have e2 : M - 1 - a % M = (2 ^ n - 1 - a % M % 2 ^ n) + 2 ^ n * (2 ^ (256 - n) - 1 - a % M / 2 ^ n) := by
        rw [Nat.mul_sub, Nat.mul_sub, ← e, Nat.mul_one]
        have : 2 ^ n * (a % M / 2 ^ n) + 2 ^ n ≤ M := by
          rw [← Nat.mul_succ]; conv => rhs; rw [e]
          exact Nat.mul_le_mul_left _ hq
        omega
      rw [e2, Nat.add_mul_div_left _ _ hp, Nat.div_eq_of_lt (by omega), Nat.zero_add]
    rw [h1]
    have hP : 2 ^ (256 - n) ≤ M := by rw [M_2]; exact Nat.pow_le_pow_right (by decide) (by omega)
    clear h1 e hd hr hx hy
    generalize a % M / 2 ^ n = x at *
    generalize 2 ^ (256 - n) = y at *
    omega
theorem sar_low (a n : Nat) (hn : n ≤ 256) : sar a n * 2 ^ n % M = a % M - a % M % 2 ^ n := by
  have hA : a % M < M := Nat.mod_lt _ M_pos
  have e : M = 2 ^ n * 2 ^ (256 - n) := by rw [← Nat.pow_add, M_2]; congr 1; omega
  have hd := Nat.div_add_mod (a % M) (2 ^ n)
  have hP : 2 ^ (256 - n) ≤ M := by rw [M_2]; exact Nat.pow_le_pow_right (by decide) (by omega)
  have hz : a % M / 2 ^ n * 2 ^ n = a % M - a % M % 2 ^ n := by rw [Nat.mul_comm]; omega
  rw [sar_num a n hn]
  cases bel a
  · rw [if_neg (by decide), hz]
    exact Nat.mod_eq_of_lt (by omega)
  · rw [if_pos rfl, Nat.add_mul, hz]
    have e3 : (M - 2 ^ (256 - n)) * 2 ^ n = M * (2 ^ n - 1) := by
      rw [Nat.sub_mul, Nat.mul_comm (2 ^ (256 - n)), ← e, Nat.mul_sub, Nat.mul_one]
    rw [e3, Nat.add_comm, Nat.add_mul_mod_self_left]
    exact Nat.mod_eq_of_lt (by omega)
theorem sar_left (a n k : Nat) (hn : n ≤ 254) (hk : (k + sar a n * 2 ^ n) % M = a % M) : k % M < 2 ^ n % M := by
  have hA : a % M < M := Nat.mod_lt _ M_pos
  have hr : a % M % 2 ^ n < 2 ^ n := Nat.mod_lt _ (Nat.two_pow_pos n)
  have hle := Nat.mod_le (a % M) (2 ^ n)
  rw [Nat.add_mod, sar_low a n (by omega)] at hk
  have h2 : 2 ^ n % M = 2 ^ n := Nat.mod_eq_of_lt (by rw [M_2]; exact Nat.pow_lt_pow_right (by decide) (by omega))
  rw [h2]
  have hK : k % M < M := Nat.mod_lt _ M_pos
  generalize k % M = K at *
  generalize a % M = A at *
  generalize A % 2 ^ n = R at *
  generalize 2 ^ n = p at *
  simp only [M] at *
  omega
theorem sar_above (a n : Nat) (hn : n ≤ 254) : sless a (sar a n * 2 ^ n) = false := by
  have hA : a % M < M := Nat.mod_lt _ M_pos
  have hl := sar_low a n (by omega)
  have hd := Nat.div_add_mod (a % M) (2 ^ n)
  have hle := Nat.mod_le (a % M) (2 ^ n)
  have hs : Hf ≤ a % M → Hf ≤ a % M - a % M % 2 ^ n := fun h => by
    have e : Hf = 2 ^ n * 2 ^ (255 - n) := by rw [← Nat.pow_add, Hf_2]; congr 1; omega
    have h1 : 2 ^ (255 - n) ≤ a % M / 2 ^ n := by rw [Nat.le_div_iff_mul_le (Nat.two_pow_pos n), Nat.mul_comm, ← e]; exact h
    have h2 := Nat.mul_le_mul_left (2 ^ n) h1
    rw [← e] at h2
    omega
  unfold sless
  rw [decide_eq_false_iff_not]
  generalize sar a n * 2 ^ n = L at *
  clear hd
  generalize a % M % 2 ^ n = R at *
  simp only [M, Hf] at *
  omega

/-! The lowest bytes with their sign. -/
def ext (n a : Nat) : Nat := sar (a * 2 ^ (8 * (31 - n))) (8 * (31 - n))
theorem pow_256 (k : Nat) : (256 : Nat) ^ k = 2 ^ (8 * k) := by rw [show (256 : Nat) = 2 ^ 8 from rfl, ← Nat.pow_mul]
theorem ext_parts (n a : Nat) (hn : n ≤ 30) : (bel (a * 2 ^ (8 * (31 - n))) = decide (128 ≤ dig a n)) ∧ a * 2 ^ (8 * (31 - n)) % M / 2 ^ (8 * (31 - n)) = a % 256 ^ (n + 1) := by
  have e : M = 256 ^ (n + 1) * 2 ^ (8 * (31 - n)) := by rw [pow_256, ← Nat.pow_add, M_2]; congr 1; omega
  have hp : 0 < 2 ^ (8 * (31 - n)) := Nat.two_pow_pos _
  have h1 : a * 2 ^ (8 * (31 - n)) % M = a % 256 ^ (n + 1) * 2 ^ (8 * (31 - n)) := by
    rw [e, Nat.mul_mod_mul_right]
  refine ⟨?_, by rw [h1, Nat.mul_div_cancel _ hp]⟩
  have hd : dig a n = a % 256 ^ (n + 1) / 256 ^ n := by
    unfold dig
    rw [Nat.pow_succ, Nat.mod_mul_right_div_self]
  have e2 : Hf = 128 * 256 ^ n * 2 ^ (8 * (31 - n)) := by
    rw [pow_256, show 128 = 2 ^ 7 from rfl, ← Nat.pow_add, ← Nat.pow_add, Hf_2]; congr 1; omega
  unfold bel
  rw [h1, e2, hd, Bool.eq_iff_iff, decide_eq_true_iff, decide_eq_true_iff, Nat.le_div_iff_mul_le (Nat.pow_pos (by decide))]
  exact Nat.mul_le_mul_right_iff hp
theorem ext_num (n a : Nat) (hn : n ≤ 30) : ext n a = if 128 ≤ dig a n then M - 256 ^ (n + 1) + a % 256 ^ (n + 1) else a % 256 ^ (n + 1) := by
  obtain ⟨h1, h2⟩ := ext_parts n a hn
  unfold ext
  rw [sar_num _ _ (by omega), h1, h2, show 256 - 8 * (31 - n) = 8 * (n + 1) by omega, ← pow_256]
  by_cases h : 128 ≤ dig a n
  · rw [decide_eq_true h, if_pos rfl, if_pos h]
  · rw [decide_eq_false h, if_neg (by decide), if_neg h]
theorem ext_low (n a : Nat) (hn : n ≤ 30) : ext n a % 256 ^ (n + 1) = a % 256 ^ (n + 1) := by
  rw [ext_num n a hn]
  split
  · have e : M - 256 ^ (n + 1) = 256 ^ (n + 1) * (256 ^ (31 - n) - 1) := by
      rw [Nat.mul_sub, Nat.mul_one, ← Nat.pow_add, M_256]; congr 2; omega
    rw [e, Nat.add_comm, Nat.add_mul_mod_self_left, Nat.mod_mod]
  · exact Nat.mod_mod _ _
theorem dig_low {m k n : Nat} (h : m % 256 ^ (n + 1) = k % 256 ^ (n + 1)) {i : Nat} (hi : i ≤ n) : dig m i = dig k i := by
  have key : ∀ x : Nat, dig (x % 256 ^ (n + 1)) i = dig x i := fun x => by
    unfold dig
    have e : 256 ^ (n + 1) = 256 ^ i * (256 * 256 ^ (n - i)) := by rw [← Nat.pow_succ', ← Nat.pow_add]; congr 1; omega
    rw [e, Nat.mod_mul_right_div_self, Nat.mod_mul_right_mod]
  rw [← key m, ← key k, h]
theorem ext_again (n a : Nat) (hn : n ≤ 30) : ext n (ext n a) = ext n a := by
  have h := ext_low n a hn
  rw [ext_num n (ext n a) hn, h, dig_low h (Nat.le_refl n), ← ext_num n a hn]
theorem ext_dig (n a i : Nat) (hn : n ≤ 30) (hi : i < 32) : dig (ext n a) i = if i ≤ n then dig a i else if 128 ≤ dig a n then 255 else 0 := by
  by_cases h : i ≤ n
  · rw [if_pos h, dig_low (ext_low n a hn) h]
  · rw [if_neg h, ext_num n a hn]
    have hP : (256 : Nat) ^ (n + 1) ≤ 256 ^ i := Nat.pow_le_pow_right (by decide) (by omega)
    have hr : a % 256 ^ (n + 1) < 256 ^ (n + 1) := Nat.mod_lt _ (Nat.pow_pos (by decide))
    split
    · have e : M = 256 ^ i * (256 * 256 ^ (31 - i)) := by rw [← Nat.pow_succ', ← Nat.pow_add, M_256]; congr 1; omega
      have hq : 0 < 256 ^ (31 - i) := Nat.pow_pos (by decide)
      have e2 : M = 256 ^ i + 256 ^ i * (256 * 256 ^ (31 - i) - 1) := by
        rw [Nat.mul_sub, Nat.mul_one, ← e]
        have : 256 ^ i ≤ M := by rw [M_256]; exact Nat.pow_le_pow_right (by decide) (by omega)
        omega
      have e3 : M - 256 ^ (n + 1) + a % 256 ^ (n + 1) = (256 ^ i - 256 ^ (n + 1) + a % 256 ^ (n + 1)) + 256 ^ i * (256 * 256 ^ (31 - i) - 1) := by omega
      unfold dig
      rw [e3, Nat.add_mul_div_left _ _ (Nat.pow_pos (by decide)), Nat.div_eq_of_lt (by omega)]
      generalize 256 ^ (31 - i) = z at *
      omega
    · unfold dig
      rw [Nat.div_eq_of_lt (by omega)]
end Go.Proofs.YtdpbjdecbilaeaaGreat.SmWord
/- What the functions Below, Neg, size, Less, Sar and Extend of package sign do, in numbers; all older memory is as it was. -/
namespace Go.Proofs.YtdpbjdecbilaeaaGreat
open Go.RowKit SmWord
set_option maxRecDepth 100000

set_option maxHeartbeats 1000000 in
theorem below_walk (a : Nat) (p : Bool) (w : World) (H : Hid (∀ w : World, Calls Tryz.prog 100 #[wd a, .int .u64 255] w fun e w' => e = .returned (.bool p) ∧ Below w.heap.size w w')) :
    Calls Tryz.prog 97 #[wd a] w fun e w' => e = .returned (.bool p) ∧ Below w.heap.size w w' := by
  go_enter Tryz.func97, Tryz.ntmps97
  have hsz := wa_size
  go_upto_region 1 with fail
  have f1 : (w.alloc (.cells (wa a) 24)).heap[w.heap.size]? = some (.cells (wa a) 24) := blk_new _ rfl
  have bW : Below w.heap.size w (w.alloc (.cells (wa a) 24)) := ((Below.refl _ _).alloc (Nat.le_refl _) _)
  have sW : w.heap.size + 1 ≤ (w.alloc (.cells (wa a) 24)).heap.size := by simp
  generalize (w.alloc (.cells (wa a) 24)) = W at *
  go_wp2_with (refine wpList_load_row rfl 24 _ rfl _ rfl 24 _ (0, 0) _ (by assumption) Tryz.underlying24 rfl Tryz.infoWa ?_)
  refine (H.out _).mono ?_
  rintro e w1 ⟨rfl, b1⟩
  replace f1 := Below.stays b1 f1
  replace bW := bW.trans (b1.mono bW.size)
  replace sW := Nat.le_trans sW b1.size
  clear b1
  go_wp2
  go_ret
  exact ⟨rfl, bW⟩
theorem below_wd (a : Nat) (w : World) : Calls Tryz.prog 97 #[wd a] w fun e w' => e = .returned (.bool (bel a)) ∧ Below w.heap.size w w' :=
  below_walk a _ w (Lib.hid fun w => by
    have := wbit_wd a 255 w (by decide)
    rw [bel_bitD] at this
    exact this)

set_option maxHeartbeats 1000000 in
theorem sneg_walk (a t : Nat) (w : World) (H : Hid (∀ w : World, Calls Tryz.prog 64 #[wd 0, wd a] w fun e w' => e = .returned (wd t) ∧ Below w.heap.size w w')) :
    Calls Tryz.prog 98 #[wd a] w fun e w' => e = .returned (wd t) ∧ Below w.heap.size w w' := by
  have hz := z4_wa
  have hsz := wa_size
  go_enter Tryz.func98, Tryz.ntmps98
  go_upto_region 1 with fail
  have f1 : ((w.alloc (.cells (wa a) 24)).alloc (.cells (wa 0) 24)).heap[w.heap.size]? = some (.cells (wa a) 24) := blk_alloc (blk_new _ rfl)
  have f2 : ((w.alloc (.cells (wa a) 24)).alloc (.cells (wa 0) 24)).heap[w.heap.size + 1]? = some (.cells (wa 0) 24) := blk_new _ (by simp)
  have bW : Below w.heap.size w ((w.alloc (.cells (wa a) 24)).alloc (.cells (wa 0) 24)) := (((Below.refl _ _).alloc (Nat.le_refl _) _).alloc (by simp <;> omega) _)
  have sW : w.heap.size + 2 ≤ ((w.alloc (.cells (wa a) 24)).alloc (.cells (wa 0) 24)).heap.size := by simp
  generalize ((w.alloc (.cells (wa a) 24)).alloc (.cells (wa 0) 24)) = W at *
  go_wp2_with (refine wpList_load_row rfl 24 _ rfl _ rfl 24 _ (0, 0) _ (by assumption) Tryz.underlying24 rfl Tryz.infoWa ?_)
  refine (H.out _).mono ?_
  rintro e w1 ⟨rfl, b1⟩
  replace f1 := Below.stays b1 f1
  replace f2 := Below.stays b1 f2
  replace bW := bW.trans (b1.mono bW.size)
  replace sW := Nat.le_trans sW b1.size
  clear b1
  go_wp2_with (refine wpList_store_row rfl 24 (.tmp 2) _ rfl _ _ (wa t) rfl rfl f2 Tryz.infoWa rfl wa_one ?_)
  have e2 := word_cells (blk_row (c' := wa t) f2)
  exact bodyPost_ret (v := wd t) (by simp [results, Tryz.results98, go_sem, e2, fold_wa]) rfl ⟨rfl, below_setRow bW (by omega) _⟩
theorem sneg_wd (a : Nat) (w : World) : Calls Tryz.prog 98 #[wd a] w fun e w' => e = .returned (wd (ng a)) ∧ Below w.heap.size w w' :=
  sneg_walk a _ w (Lib.hid fun w => sub_wd 0 a (ng a) w (ng_sub a))

set_option maxHeartbeats 1000000 in
theorem size_walk0 (a : Nat) (w : World) (H1 : Hid (∀ w : World, Calls Tryz.prog 97 #[wd a] w fun e w' => e = .returned (.bool false) ∧ Below w.heap.size w w')) :
    Calls Tryz.prog 96 #[wd a] w fun e w' => e = .returned (wd a) ∧ Below w.heap.size w w' := by
  have hz := z4_wa
  have hsz := wa_size
  go_enter Tryz.func96, Tryz.ntmps96
  go_upto_region 1 with fail
  have f1 : ((w.alloc (.cells (wa a) 24)).alloc (.cells (wa 0) 24)).heap[w.heap.size]? = some (.cells (wa a) 24) := blk_alloc (blk_new _ rfl)
  have f2 : ((w.alloc (.cells (wa a) 24)).alloc (.cells (wa 0) 24)).heap[w.heap.size + 1]? = some (.cells (wa 0) 24) := blk_new _ (by simp)
  have bW : Below w.heap.size w ((w.alloc (.cells (wa a) 24)).alloc (.cells (wa 0) 24)) := (((Below.refl _ _).alloc (Nat.le_refl _) _).alloc (by simp <;> omega) _)
  have sW : w.heap.size + 2 ≤ ((w.alloc (.cells (wa a) 24)).alloc (.cells (wa 0) 24)).heap.size := by simp
  generalize ((w.alloc (.cells (wa a) 24)).alloc (.cells (wa 0) 24)) = W at *
  go_wp2_with (refine wpList_load_row rfl 24 _ rfl _ rfl 24 _ (0, 0) _ (by assumption) Tryz.underlying24 rfl Tryz.infoWa ?_)
  refine (H1.out _).mono ?_
  rintro e w1 ⟨rfl, b1⟩
  replace f1 := Below.stays b1 f1
  replace f2 := Below.stays b1 f2
  replace bW := bW.trans (b1.mono bW.size)
  replace sW := Nat.le_trans sW b1.size
  clear b1
  go_wp2_with (first | (refine wpList_load_row rfl 24 _ rfl _ rfl 24 _ (0, 0) _ (by assumption) Tryz.underlying24 rfl Tryz.infoWa ?_) | (refine wpList_store_row rfl 24 (.tmp 2) _ rfl _ _ (wa a) rfl rfl f2 Tryz.infoWa rfl wa_one ?_))
  have e2 := word_cells (blk_row (c' := wa a) f2)
  exact bodyPost_ret (v := wd a) (by simp [results, Tryz.results96, go_sem, e2, fold_wa]) rfl ⟨rfl, below_setRow bW (by omega) _⟩

set_option maxHeartbeats 1000000 in
theorem size_walk1 (a t : Nat) (w : World) (H1 : Hid (∀ w : World, Calls Tryz.prog 97 #[wd a] w fun e w' => e = .returned (.bool true) ∧ Below w.heap.size w w')) (H2 : Hid (∀ w : World, Calls Tryz.prog 98 #[wd a] w fun e w' => e = .returned (wd t) ∧ Below w.heap.size w w')) :
    Calls Tryz.prog 96 #[wd a] w fun e w' => e = .returned (wd t) ∧ Below w.heap.size w w' := by
  have hz := z4_wa
  have hsz := wa_size
  go_enter Tryz.func96, Tryz.ntmps96
  go_upto_region 1 with fail
  have f1 : ((w.alloc (.cells (wa a) 24)).alloc (.cells (wa 0) 24)).heap[w.heap.size]? = some (.cells (wa a) 24) := blk_alloc (blk_new _ rfl)
  have f2 : ((w.alloc (.cells (wa a) 24)).alloc (.cells (wa 0) 24)).heap[w.heap.size + 1]? = some (.cells (wa 0) 24) := blk_new _ (by simp)
  have bW : Below w.heap.size w ((w.alloc (.cells (wa a) 24)).alloc (.cells (wa 0) 24)) := (((Below.refl _ _).alloc (Nat.le_refl _) _).alloc (by simp <;> omega) _)
  have sW : w.heap.size + 2 ≤ ((w.alloc (.cells (wa a) 24)).alloc (.cells (wa 0) 24)).heap.size := by simp
  generalize ((w.alloc (.cells (wa a) 24)).alloc (.cells (wa 0) 24)) = W at *
  go_wp2_with (refine wpList_load_row rfl 24 _ rfl _ rfl 24 _ (0, 0) _ (by assumption) Tryz.underlying24 rfl Tryz.infoWa ?_)
  refine (H1.out _).mono ?_
  rintro e w1 ⟨rfl, b1⟩
  replace f1 := Below.stays b1 f1
  replace f2 := Below.stays b1 f2
  replace bW := bW.trans (b1.mono bW.size)
  replace sW := Nat.le_trans sW b1.size
  clear b1
  go_wp2_with (refine wpList_load_row rfl 24 _ rfl _ rfl 24 _ (0, 0) _ (by assumption) Tryz.underlying24 rfl Tryz.infoWa ?_)
  refine (H2.out _).mono ?_
  rintro e w2 ⟨rfl, b1⟩
  replace f1 := Below.stays b1 f1
  replace f2 := Below.stays b1 f2
  replace bW := bW.trans (b1.mono bW.size)
  replace sW := Nat.le_trans sW b1.size
  clear b1
  go_wp2_with (refine wpList_store_row rfl 24 (.tmp 2) _ rfl _ _ (wa t) rfl rfl f2 Tryz.infoWa rfl wa_one ?_)
  have e2 := word_cells (blk_row (c' := wa t) f2)
  exact bodyPost_ret (v := wd t) (by simp [results, Tryz.results96, go_sem, e2, fold_wa]) rfl ⟨rfl, below_setRow bW (by omega) _⟩
theorem ssize_wd (a : Nat) (w : World) : Calls Tryz.prog 96 #[wd a] w fun e w' => e = .returned (wd (sz a)) ∧ Below w.heap.size w w' := by
  have hb := fun w => below_wd a w
  unfold sz
  cases h : bel a
  · rw [h] at hb
    exact size_walk0 a w (Lib.hid hb)
  · rw [h] at hb
    exact size_walk1 a _ w (Lib.hid hb) (Lib.hid fun w => sneg_wd a w)

set_option maxHeartbeats 2000000 in
theorem sless_ne (a b : Nat) (p : Bool) (w : World) (H1 : Hid (∀ w : World, Calls Tryz.prog 97 #[wd a] w fun e w' => e = .returned (.bool p) ∧ Below w.heap.size w w')) (H2 : Hid (∀ w : World, Calls Tryz.prog 97 #[wd b] w fun e w' => e = .returned (.bool (!p)) ∧ Below w.heap.size w w')) :
    Calls Tryz.prog 71 #[wd a, wd b] w fun e w' => e = .returned (.bool p) ∧ Below w.heap.size w w' := by
  cases p
  all_goals
    simp only [Bool.not_false, Bool.not_true] at H2
    have hsz := wa_size
    go_enter Tryz.func71, Tryz.ntmps71
    go_upto_region 1 with fail
    have f2 : ((w.alloc (.cells (wa a) 24)).alloc (.cells (wa b) 24)).heap[w.heap.size]? = some (.cells (wa a) 24) := blk_alloc (blk_new _ rfl)
    have f3 : ((w.alloc (.cells (wa a) 24)).alloc (.cells (wa b) 24)).heap[w.heap.size + 1]? = some (.cells (wa b) 24) := blk_new _ (by simp)
    have bW : Below w.heap.size w ((w.alloc (.cells (wa a) 24)).alloc (.cells (wa b) 24)) := (((Below.refl _ _).alloc (Nat.le_refl _) _).alloc (by simp <;> omega) _)
    have sW : w.heap.size + 2 ≤ ((w.alloc (.cells (wa a) 24)).alloc (.cells (wa b) 24)).heap.size := by simp
    generalize ((w.alloc (.cells (wa a) 24)).alloc (.cells (wa b) 24)) = W at *
    have g2 := fun g : Ext W => g.word f2
    have g3 := fun g : Ext W => g.word f3
    have fo := fold_wa
    refine region_ext (by kernel_rfl) (by kernel_rfl) ?_
    repeat (go_big_quiet_step ((go_at_call 97; first | with_reducible exact calls_ext (H1.out _) | with_reducible exact calls_ext (H2.out _))))
    refine wpQuiet_nil ?_
    rintro _ ⟨g, rfl⟩
    replace f2 := Below.stays g.below f2
    replace f3 := Below.stays g.below f3
    replace bW := bW.trans (g.below.mono bW.size)
    clear g2 g3 fo
    generalize g.on = w1 at *
    go_wp2_with (refine wpList_load_row rfl 24 _ rfl _ rfl 24 _ (0, 0) _ (by assumption) Tryz.underlying24 rfl Tryz.infoWa ?_)
    refine (H1.out _).mono ?_
    rintro e w2 ⟨rfl, b1⟩
    go_wp2
    go_ret
    exact ⟨rfl, bW.trans (b1.mono bW.size)⟩

set_option maxHeartbeats 2000000 in
theorem sless_eq (a b : Nat) (p : Bool) (z : Int) (w : World) (H1 : Hid (∀ w : World, Calls Tryz.prog 97 #[wd a] w fun e w' => e = .returned (.bool p) ∧ Below w.heap.size w w')) (H2 : Hid (∀ w : World, Calls Tryz.prog 97 #[wd b] w fun e w' => e = .returned (.bool p) ∧ Below w.heap.size w w')) (H3 : Hid (∀ w : World, Calls Tryz.prog 70 #[wd a, wd b] w fun e w' => e = .returned (.int .i64 z) ∧ Below w.heap.size w w')) :
    Calls Tryz.prog 71 #[wd a, wd b] w fun e w' => e = .returned (.bool (decide (z < 0))) ∧ Below w.heap.size w w' := by
  cases p
  all_goals
    have hsz := wa_size
    go_enter Tryz.func71, Tryz.ntmps71
    go_upto_region 1 with fail
    have f2 : ((w.alloc (.cells (wa a) 24)).alloc (.cells (wa b) 24)).heap[w.heap.size]? = some (.cells (wa a) 24) := blk_alloc (blk_new _ rfl)
    have f3 : ((w.alloc (.cells (wa a) 24)).alloc (.cells (wa b) 24)).heap[w.heap.size + 1]? = some (.cells (wa b) 24) := blk_new _ (by simp)
    have bW : Below w.heap.size w ((w.alloc (.cells (wa a) 24)).alloc (.cells (wa b) 24)) := (((Below.refl _ _).alloc (Nat.le_refl _) _).alloc (by simp <;> omega) _)
    have sW : w.heap.size + 2 ≤ ((w.alloc (.cells (wa a) 24)).alloc (.cells (wa b) 24)).heap.size := by simp
    generalize ((w.alloc (.cells (wa a) 24)).alloc (.cells (wa b) 24)) = W at *
    have g2 := fun g : Ext W => g.word f2
    have g3 := fun g : Ext W => g.word f3
    have fo := fold_wa
    refine region_ext (by kernel_rfl) (by kernel_rfl) ?_
    repeat (go_big_quiet_step ((go_at_call 97; first | with_reducible exact calls_ext (H1.out _) | with_reducible exact calls_ext (H2.out _))))
    refine wpQuiet_nil ?_
    rintro _ ⟨g, rfl⟩
    replace f2 := Below.stays g.below f2
    replace f3 := Below.stays g.below f3
    replace bW := bW.trans (g.below.mono bW.size)
    clear g2 g3 fo
    generalize g.on = w1 at *
    go_wp2_with (refine wpList_load_row rfl 24 _ rfl _ rfl 24 _ (0, 0) _ (by assumption) Tryz.underlying24 rfl Tryz.infoWa ?_)
    refine (H3.out _).mono ?_
    rintro e w2 ⟨rfl, b1⟩
    go_wp2
    go_ret
    exact ⟨rfl, bW.trans (b1.mono bW.size)⟩
theorem cmpN_neg (m n : Nat) : decide (cmpN m n < 0) = decide (m < n) := by
  unfold cmpN
  rw [Bool.eq_iff_iff, decide_eq_true_iff, decide_eq_true_iff]
  split
  · omega
  · split <;> omega
theorem sless_wd (a b : Nat) (w : World) : Calls Tryz.prog 71 #[wd a, wd b] w fun e w' => e = .returned (.bool (sless a b)) ∧ Below w.heap.size w w' := by
  have h1 := fun w => below_wd a w
  have h2 := fun w => below_wd b w
  rw [less_eq]
  by_cases h : bel a = bel b
  · rw [if_neg (by simp [h]), ← cmpN_neg]
    rw [← h] at h2
    exact sless_eq a b _ _ w (Lib.hid h1) (Lib.hid h2) (Lib.hid fun w => compare_wd a b w)
  · have e : bel b = !bel a := by cases hA : bel a <;> cases hB : bel b <;> simp_all
    rw [if_pos (by simp [h])]
    rw [e] at h2
    exact sless_ne a b _ w (Lib.hid h1) (Lib.hid h2)

set_option maxHeartbeats 1000000 in
theorem sar_walk0 (a t : Nat) (n : Int) (w : World) (H1 : Hid (∀ w : World, Calls Tryz.prog 97 #[wd a] w fun e w' => e = .returned (.bool false) ∧ Below w.heap.size w w')) (H2 : Hid (∀ w : World, Calls Tryz.prog 80 #[wd a, .int .u64 n] w fun e w' => e = .returned (wd t) ∧ Below w.heap.size w w')) :
    Calls Tryz.prog 81 #[wd a, .int .u64 n] w fun e w' => e = .returned (wd t) ∧ Below w.heap.size w w' := by
  have hz := z4_wa
  have hsz := wa_size
  go_enter Tryz.func81, Tryz.ntmps81
  go_upto_region 1 with fail
  have f2 : ((w.alloc (.cells (wa a) 24)).alloc (.cells (wa 0) 24)).heap[w.heap.size]? = some (.cells (wa a) 24) := blk_alloc (blk_new _ rfl)
  have f4 : ((w.alloc (.cells (wa a) 24)).alloc (.cells (wa 0) 24)).heap[w.heap.size + 1]? = some (.cells (wa 0) 24) := blk_new _ (by simp)
  have bW : Below w.heap.size w ((w.alloc (.cells (wa a) 24)).alloc (.cells (wa 0) 24)) := (((Below.refl _ _).alloc (Nat.le_refl _) _).alloc (by simp <;> omega) _)
  have sW : w.heap.size + 2 ≤ ((w.alloc (.cells (wa a) 24)).alloc (.cells (wa 0) 24)).heap.size := by simp
  generalize ((w.alloc (.cells (wa a) 24)).alloc (.cells (wa 0) 24)) = W at *
  go_wp2_with (refine wpList_load_row rfl 24 _ rfl _ rfl 24 _ (0, 0) _ (by assumption) Tryz.underlying24 rfl Tryz.infoWa ?_)
  refine (H1.out _).mono ?_
  rintro e w1 ⟨rfl, b1⟩
  replace f2 := Below.stays b1 f2
  replace f4 := Below.stays b1 f4
  replace bW := bW.trans (b1.mono bW.size)
  replace sW := Nat.le_trans sW b1.size
  clear b1
  go_wp2_with (refine wpList_load_row rfl 24 _ rfl _ rfl 24 _ (0, 0) _ (by assumption) Tryz.underlying24 rfl Tryz.infoWa ?_)
  refine (H2.out _).mono ?_
  rintro e w2 ⟨rfl, b1⟩
  replace f2 := Below.stays b1 f2
  replace f4 := Below.stays b1 f4
  replace bW := bW.trans (b1.mono bW.size)
  replace sW := Nat.le_trans sW b1.size
  clear b1
  go_wp2_with (refine wpList_store_row rfl 24 (.tmp 4) _ rfl _ _ (wa t) rfl rfl f4 Tryz.infoWa rfl wa_one ?_)
  have e2 := word_cells (blk_row (c' := wa t) f4)
  exact bodyPost_ret (v := wd t) (by simp [results, Tryz.results81, go_sem, e2, fold_wa]) rfl ⟨rfl, below_setRow bW (by omega) _⟩

set_option maxHeartbeats 1000000 in
theorem sar_walk1 (a x y t : Nat) (n : Int) (w : World) (H1 : Hid (∀ w : World, Calls Tryz.prog 97 #[wd a] w fun e w' => e = .returned (.bool true) ∧ Below w.heap.size w w')) (H2 : Hid (∀ w : World, Calls Tryz.prog 82 #[wd a] w fun e w' => e = .returned (wd x) ∧ Below w.heap.size w w')) (H3 : Hid (∀ w : World, Calls Tryz.prog 80 #[wd x, .int .u64 n] w fun e w' => e = .returned (wd y) ∧ Below w.heap.size w w')) (H4 : Hid (∀ w : World, Calls Tryz.prog 82 #[wd y] w fun e w' => e = .returned (wd t) ∧ Below w.heap.size w w')) :
    Calls Tryz.prog 81 #[wd a, .int .u64 n] w fun e w' => e = .returned (wd t) ∧ Below w.heap.size w w' := by
  have hz := z4_wa
  have hsz := wa_size
  go_enter Tryz.func81, Tryz.ntmps81
  go_upto_region 1 with fail
  have f2 : ((w.alloc (.cells (wa a) 24)).alloc (.cells (wa 0) 24)).heap[w.heap.size]? = some (.cells (wa a) 24) := blk_alloc (blk_new _ rfl)
  have f4 : ((w.alloc (.cells (wa a) 24)).alloc (.cells (wa 0) 24)).heap[w.heap.size + 1]? = some (.cells (wa 0) 24) := blk_new _ (by simp)
  have bW : Below w.heap.size w ((w.alloc (.cells (wa a) 24)).alloc (.cells (wa 0) 24)) := (((Below.refl _ _).alloc (Nat.le_refl _) _).alloc (by simp <;> omega) _)
  have sW : w.heap.size + 2 ≤ ((w.alloc (.cells (wa a) 24)).alloc (.cells (wa 0) 24)).heap.size := by simp
  generalize ((w.alloc (.cells (wa a) 24)).alloc (.cells (wa 0) 24)) = W at *
  go_wp2_with (refine wpList_load_row rfl 24 _ rfl _ rfl 24 _ (0, 0) _ (by assumption) Tryz.underlying24 rfl Tryz.infoWa ?_)
  refine (H1.out _).mono ?_
  rintro e w1 ⟨rfl, b1⟩
  replace f2 := Below.stays b1 f2
  replace f4 := Below.stays b1 f4
  replace bW := bW.trans (b1.mono bW.size)
  replace sW := Nat.le_trans sW b1.size
  clear b1
  go_wp2_with (refine wpList_load_row rfl 24 _ rfl _ rfl 24 _ (0, 0) _ (by assumption) Tryz.underlying24 rfl Tryz.infoWa ?_)
  refine (H2.out _).mono ?_
  rintro e w2 ⟨rfl, b1⟩
  replace f2 := Below.stays b1 f2
  replace f4 := Below.stays b1 f4
  replace bW := bW.trans (b1.mono bW.size)
  replace sW := Nat.le_trans sW b1.size
  clear b1
  go_wp2_with fail
  refine (H3.out _).mono ?_
  rintro e w3 ⟨rfl, b1⟩
  replace f2 := Below.stays b1 f2
  replace f4 := Below.stays b1 f4
  replace bW := bW.trans (b1.mono bW.size)
  replace sW := Nat.le_trans sW b1.size
  clear b1
  go_wp2_with fail
  refine (H4.out _).mono ?_
  rintro e w4 ⟨rfl, b1⟩
  replace f2 := Below.stays b1 f2
  replace f4 := Below.stays b1 f4
  replace bW := bW.trans (b1.mono bW.size)
  replace sW := Nat.le_trans sW b1.size
  clear b1
  go_wp2_with (refine wpList_store_row rfl 24 (.tmp 4) _ rfl _ _ (wa t) rfl rfl f4 Tryz.infoWa rfl wa_one ?_)
  have e2 := word_cells (blk_row (c' := wa t) f4)
  exact bodyPost_ret (v := wd t) (by simp [results, Tryz.results81, go_sem, e2, fold_wa]) rfl ⟨rfl, below_setRow bW (by omega) _⟩
theorem sar_wd (a n : Nat) (hn : n < B) (w : World) : Calls Tryz.prog 81 #[wd a, .int .u64 (n : Int)] w fun e w' => e = .returned (wd (sar a n)) ∧ Below w.heap.size w w' := by
  have hb := fun w => below_wd a w
  unfold sar
  cases h : bel a
  · rw [h] at hb
    exact sar_walk0 a _ _ w (Lib.hid hb) (Lib.hid fun w => shr_wd a n hn w)
  · rw [h] at hb
    exact sar_walk1 a _ _ _ _ w (Lib.hid hb) (Lib.hid fun w => not_wd a w) (Lib.hid fun w => shr_wd _ n hn w) (Lib.hid fun w => not_wd _ w)
end Go.Proofs.YtdpbjdecbilaeaaGreat
/- What the functions Div and Extend of package sign do, in numbers; all older memory is as it was. -/
namespace Go.Proofs.YtdpbjdecbilaeaaGreat
open Go.RowKit SmWord
set_option maxRecDepth 100000

set_option maxHeartbeats 2000000 in
theorem sdiv_walk00 (a b x y q r : Nat) (w : World) (H1 : Hid (∀ w : World, Calls Tryz.prog 96 #[wd a] w fun e w' => e = .returned (wd x) ∧ Below w.heap.size w w')) (H2 : Hid (∀ w : World, Calls Tryz.prog 96 #[wd b] w fun e w' => e = .returned (wd y) ∧ Below w.heap.size w w')) (H3 : Hid (∀ w : World, Calls Tryz.prog 65 #[wd x, wd y] w fun e w' => e = .returned (.tuple #[wd q, wd r]) ∧ Below w.heap.size w w')) (H4 : Hid (∀ w : World, Calls Tryz.prog 97 #[wd a] w fun e w' => e = .returned (.bool false) ∧ Below w.heap.size w w')) (H5 : Hid (∀ w : World, Calls Tryz.prog 97 #[wd b] w fun e w' => e = .returned (.bool false) ∧ Below w.heap.size w w')) :
    Calls Tryz.prog 66 #[wd a, wd b] w fun e w' => e = .returned (.tuple #[wd q, wd r]) ∧ Below w.heap.size w w' := by
  have hz := z4_wa
  have hsz := wa_size
  go_enter Tryz.func66, Tryz.ntmps66
  go_upto_region 1 with fail
  have f2 : ((((w.alloc (.cells (wa a) 24)).alloc (.cells (wa b) 24)).alloc (.cells (wa 0) 24)).alloc (.cells (wa 0) 24)).heap[w.heap.size]? = some (.cells (wa a) 24) := blk_alloc (blk_alloc (blk_alloc (blk_new _ rfl)))
  have f3 : ((((w.alloc (.cells (wa a) 24)).alloc (.cells (wa b) 24)).alloc (.cells (wa 0) 24)).alloc (.cells (wa 0) 24)).heap[w.heap.size + 1]? = some (.cells (wa b) 24) := blk_alloc (blk_alloc (blk_new _ (by simp)))
  have f4 : ((((w.alloc (.cells (wa a) 24)).alloc (.cells (wa b) 24)).alloc (.cells (wa 0) 24)).alloc (.cells (wa 0) 24)).heap[w.heap.size + 1 + 1]? = some (.cells (wa 0) 24) := blk_alloc (blk_new _ (by simp))
  have f5 : ((((w.alloc (.cells (wa a) 24)).alloc (.cells (wa b) 24)).alloc (.cells (wa 0) 24)).alloc (.cells (wa 0) 24)).heap[w.heap.size + 1 + 1 + 1]? = some (.cells (wa 0) 24) := blk_new _ (by simp)
  have bW : Below w.heap.size w ((((w.alloc (.cells (wa a) 24)).alloc (.cells (wa b) 24)).alloc (.cells (wa 0) 24)).alloc (.cells (wa 0) 24)) := (((((Below.refl _ _).alloc (Nat.le_refl _) _).alloc (by simp <;> omega) _).alloc (by simp <;> omega) _).alloc (by simp <;> omega) _)
  have sW : w.heap.size + 4 ≤ ((((w.alloc (.cells (wa a) 24)).alloc (.cells (wa b) 24)).alloc (.cells (wa 0) 24)).alloc (.cells (wa 0) 24)).heap.size := by simp
  generalize ((((w.alloc (.cells (wa a) 24)).alloc (.cells (wa b) 24)).alloc (.cells (wa 0) 24)).alloc (.cells (wa 0) 24)) = W at *
  refine region_mk2 (aQ := ?aQ) 8 ⟨8, 10, 24, 6, 14, wa 0, wa q⟩ ⟨9, 11, 24, 7, 15, wa 0, wa r⟩ (by kernel_rfl) (by kernel_rfl) (by simp) (fun w1x => ?hq) ?hok1 ?hok2 ?hh
  case hq =>
    simp only [List.take_succ_cons, List.take_zero]
    repeat (first | (go_big_quiet_want; refine quiet_load_row 24 _ rfl _ (wa a) rfl (fun w2 hw2 => by obtain ⟨g, rfl⟩ := hw2; exact g.block (w1x.block f2)) Tryz.underlying24 Tryz.infoWa ?_; simp only [Act.put, List.setIfInBounds_toArray, List.set_cons_succ, List.set_cons_zero]; go_big_quiet_on) | (go_big_quiet_want; refine quiet_load_row 24 _ rfl _ (wa b) rfl (fun w2 hw2 => by obtain ⟨g, rfl⟩ := hw2; exact g.block (w1x.block f3)) Tryz.underlying24 Tryz.infoWa ?_; simp only [Act.put, List.setIfInBounds_toArray, List.set_cons_succ, List.set_cons_zero]; go_big_quiet_on) | go_big_quiet_step (first | (go_at_call 96; first | with_reducible exact calls_ext (H1.out _) | with_reducible exact calls_ext (H2.out _)) | (go_at_call 65; with_reducible exact calls_ext (H3.out _))))
    refine wpQuiet_nil ?_
    rfl
  case hok1 => exact ⟨Tryz.zeroValue24, Tryz.infoW, rfl, by simp [wa, Value.oneCell'], by simp, rfl⟩
  case hok2 => exact ⟨Tryz.zeroValue24, Tryz.infoW, rfl, by simp [wa, Value.oneCell'], by simp, rfl⟩
  case hh =>
    intro b6 b7 w6 b1 l6 l7 hne f6 f7
    simp only [Act.put, List.setIfInBounds_toArray, List.set_cons_succ, List.set_cons_zero]
    dsimp only at f6 f7
    have hs0 := sW
    replace f2 := Below.stays b1 f2
    replace f3 := Below.stays b1 f3
    replace f4 := Below.stays b1 f4
    replace f5 := Below.stays b1 f5
    replace bW := bW.trans (b1.mono bW.size)
    replace sW := Nat.le_trans sW b1.size
    clear b1
    replace l6 : w.heap.size + 4 ≤ b6 := Nat.le_trans hs0 l6
    replace l7 : w.heap.size + 4 ≤ b7 := Nat.le_trans hs0 l7
    clear hs0 hz
    go_wp2_with fail
    have g2 := fun g : Ext w6 => g.word f2
    have g3 := fun g : Ext w6 => g.word f3
    have fo := fold_wa
    refine region_ext (by kernel_rfl) (by kernel_rfl) ?_
    repeat (go_big_quiet_step ((go_at_call 97; first | with_reducible exact calls_ext (H4.out _) | with_reducible exact calls_ext (H5.out _))))
    refine wpQuiet_nil ?_
    rintro _ ⟨g, rfl⟩
    clear g2 g3 fo
    have b1 := g.below
    replace f2 := Below.stays b1 f2
    replace f3 := Below.stays b1 f3
    replace f4 := Below.stays b1 f4
    replace f5 := Below.stays b1 f5
    replace f6 := Below.stays b1 f6
    replace f7 := Below.stays b1 f7
    replace bW := bW.trans (b1.mono bW.size)
    replace sW := Nat.le_trans sW b1.size
    clear b1
    generalize g.on = w8 at *
    go_wp2_with (refine wpList_load_row rfl 24 _ rfl _ rfl 24 _ (0, 0) _ (by assumption) Tryz.underlying24 rfl Tryz.infoWa ?_)
    refine (H4.out _).mono ?_
    rintro e w11 ⟨rfl, b1⟩
    replace f2 := Below.stays b1 f2
    replace f3 := Below.stays b1 f3
    replace f4 := Below.stays b1 f4
    replace f5 := Below.stays b1 f5
    replace f6 := Below.stays b1 f6
    replace f7 := Below.stays b1 f7
    replace bW := bW.trans (b1.mono bW.size)
    replace sW := Nat.le_trans sW b1.size
    clear b1
    go_wp2_with fail
    have d6 := word_cells f6
    have d7 := word_cells f7
    have fo := fold_wa
    have k1 := store_old (w := w11.drew) (m := q) f4
    have k2 := store_old (m := r) (blk_row_other (w := w11.drew) (b := w.heap.size + 1 + 1) (c' := wa q) f5 (by omega))
    have d8 := word_cells (blk_row_other (w := w11.drew) (b := w.heap.size + 1 + 1) (c' := wa q) f7 (by omega))
    go_region
    all_goals
      have e4 := word_cells (blk_row_other (b := w.heap.size + 1 + 1 + 1) (c' := wa r) (blk_row (w := w11.drew) (c' := wa q) f4) (by omega))
      have e5 := word_cells (blk_row (c' := wa r) (blk_row_other (w := w11.drew) (b := w.heap.size + 1 + 1) (c' := wa q) f5 (by omega)))
      clear k1 k2 d6 d7 d8 fo
      go_wp2_with fail
      exact bodyPost_ret (v := .tuple #[wd q, wd r]) (by simp [results, Tryz.results66, go_sem, e4, e5, fold_wa]) rfl ⟨rfl, below_setRow (below_setRow bW.drew (by omega) _) (by omega) _⟩

set_option maxHeartbeats 2000000 in
theorem sdiv_walk01 (a b x y q r nq : Nat) (w : World) (H1 : Hid (∀ w : World, Calls Tryz.prog 96 #[wd a] w fun e w' => e = .returned (wd x) ∧ Below w.heap.size w w')) (H2 : Hid (∀ w : World, Calls Tryz.prog 96 #[wd b] w fun e w' => e = .returned (wd y) ∧ Below w.heap.size w w')) (H3 : Hid (∀ w : World, Calls Tryz.prog 65 #[wd x, wd y] w fun e w' => e = .returned (.tuple #[wd q, wd r]) ∧ Below w.heap.size w w')) (H4 : Hid (∀ w : World, Calls Tryz.prog 97 #[wd a] w fun e w' => e = .returned (.bool false) ∧ Below w.heap.size w w')) (H5 : Hid (∀ w : World, Calls Tryz.prog 97 #[wd b] w fun e w' => e = .returned (.bool true) ∧ Below w.heap.size w w')) (H6 : Hid (∀ w : World, Calls Tryz.prog 98 #[wd q] w fun e w' => e = .returned (wd nq) ∧ Below w.heap.size w w')) :
    Calls Tryz.prog 66 #[wd a, wd b] w fun e w' => e = .returned (.tuple #[wd nq, wd r]) ∧ Below w.heap.size w w' := by
  have hz := z4_wa
  have hsz := wa_size
  go_enter Tryz.func66, Tryz.ntmps66
  go_upto_region 1 with fail
  have f2 : ((((w.alloc (.cells (wa a) 24)).alloc (.cells (wa b) 24)).alloc (.cells (wa 0) 24)).alloc (.cells (wa 0) 24)).heap[w.heap.size]? = some (.cells (wa a) 24) := blk_alloc (blk_alloc (blk_alloc (blk_new _ rfl)))
  have f3 : ((((w.alloc (.cells (wa a) 24)).alloc (.cells (wa b) 24)).alloc (.cells (wa 0) 24)).alloc (.cells (wa 0) 24)).heap[w.heap.size + 1]? = some (.cells (wa b) 24) := blk_alloc (blk_alloc (blk_new _ (by simp)))
  have f4 : ((((w.alloc (.cells (wa a) 24)).alloc (.cells (wa b) 24)).alloc (.cells (wa 0) 24)).alloc (.cells (wa 0) 24)).heap[w.heap.size + 1 + 1]? = some (.cells (wa 0) 24) := blk_alloc (blk_new _ (by simp))
  have f5 : ((((w.alloc (.cells (wa a) 24)).alloc (.cells (wa b) 24)).alloc (.cells (wa 0) 24)).alloc (.cells (wa 0) 24)).heap[w.heap.size + 1 + 1 + 1]? = some (.cells (wa 0) 24) := blk_new _ (by simp)
  have bW : Below w.heap.size w ((((w.alloc (.cells (wa a) 24)).alloc (.cells (wa b) 24)).alloc (.cells (wa 0) 24)).alloc (.cells (wa 0) 24)) := (((((Below.refl _ _).alloc (Nat.le_refl _) _).alloc (by simp <;> omega) _).alloc (by simp <;> omega) _).alloc (by simp <;> omega) _)
  have sW : w.heap.size + 4 ≤ ((((w.alloc (.cells (wa a) 24)).alloc (.cells (wa b) 24)).alloc (.cells (wa 0) 24)).alloc (.cells (wa 0) 24)).heap.size := by simp
  generalize ((((w.alloc (.cells (wa a) 24)).alloc (.cells (wa b) 24)).alloc (.cells (wa 0) 24)).alloc (.cells (wa 0) 24)) = W at *
  refine region_mk2 (aQ := ?aQ) 8 ⟨8, 10, 24, 6, 14, wa 0, wa q⟩ ⟨9, 11, 24, 7, 15, wa 0, wa r⟩ (by kernel_rfl) (by kernel_rfl) (by simp) (fun w1x => ?hq) ?hok1 ?hok2 ?hh
  case hq =>
    simp only [List.take_succ_cons, List.take_zero]
    repeat (first | (go_big_quiet_want; refine quiet_load_row 24 _ rfl _ (wa a) rfl (fun w2 hw2 => by obtain ⟨g, rfl⟩ := hw2; exact g.block (w1x.block f2)) Tryz.underlying24 Tryz.infoWa ?_; simp only [Act.put, List.setIfInBounds_toArray, List.set_cons_succ, List.set_cons_zero]; go_big_quiet_on) | (go_big_quiet_want; refine quiet_load_row 24 _ rfl _ (wa b) rfl (fun w2 hw2 => by obtain ⟨g, rfl⟩ := hw2; exact g.block (w1x.block f3)) Tryz.underlying24 Tryz.infoWa ?_; simp only [Act.put, List.setIfInBounds_toArray, List.set_cons_succ, List.set_cons_zero]; go_big_quiet_on) | go_big_quiet_step (first | (go_at_call 96; first | with_reducible exact calls_ext (H1.out _) | with_reducible exact calls_ext (H2.out _)) | (go_at_call 65; with_reducible exact calls_ext (H3.out _))))
    refine wpQuiet_nil ?_
    rfl
  case hok1 => exact ⟨Tryz.zeroValue24, Tryz.infoW, rfl, by simp [wa, Value.oneCell'], by simp, rfl⟩
  case hok2 => exact ⟨Tryz.zeroValue24, Tryz.infoW, rfl, by simp [wa, Value.oneCell'], by simp, rfl⟩
  case hh =>
    intro b6 b7 w6 b1 l6 l7 hne f6 f7
    simp only [Act.put, List.setIfInBounds_toArray, List.set_cons_succ, List.set_cons_zero]
    dsimp only at f6 f7
    have hs0 := sW
    replace f2 := Below.stays b1 f2
    replace f3 := Below.stays b1 f3
    replace f4 := Below.stays b1 f4
    replace f5 := Below.stays b1 f5
    replace bW := bW.trans (b1.mono bW.size)
    replace sW := Nat.le_trans sW b1.size
    clear b1
    replace l6 : w.heap.size + 4 ≤ b6 := Nat.le_trans hs0 l6
    replace l7 : w.heap.size + 4 ≤ b7 := Nat.le_trans hs0 l7
    clear hs0 hz
    go_wp2_with fail
    have g2 := fun g : Ext w6 => g.word f2
    have g3 := fun g : Ext w6 => g.word f3
    have fo := fold_wa
    refine region_ext (by kernel_rfl) (by kernel_rfl) ?_
    repeat (go_big_quiet_step ((go_at_call 97; first | with_reducible exact calls_ext (H4.out _) | with_reducible exact calls_ext (H5.out _))))
    refine wpQuiet_nil ?_
    rintro _ ⟨g, rfl⟩
    clear g2 g3 fo
    have b1 := g.below
    replace f2 := Below.stays b1 f2
    replace f3 := Below.stays b1 f3
    replace f4 := Below.stays b1 f4
    replace f5 := Below.stays b1 f5
    replace f6 := Below.stays b1 f6
    replace f7 := Below.stays b1 f7
    replace bW := bW.trans (b1.mono bW.size)
    replace sW := Nat.le_trans sW b1.size
    clear b1
    generalize g.on = w8 at *
    go_wp2_with (refine wpList_load_row rfl 24 _ rfl _ rfl 24 _ (0, 0) _ (by assumption) Tryz.underlying24 rfl Tryz.infoWa ?_)
    refine (H6.out _).mono ?_
    rintro e w9 ⟨rfl, b1⟩
    replace f2 := Below.stays b1 f2
    replace f3 := Below.stays b1 f3
    replace f4 := Below.stays b1 f4
    replace f5 := Below.stays b1 f5
    replace f6 := Below.stays b1 f6
    replace f7 := Below.stays b1 f7
    replace bW := bW.trans (b1.mono bW.size)
    replace sW := Nat.le_trans sW b1.size
    clear b1
    go_upto_region 4 with (refine wpList_store_row rfl 24 (.tmp 6) _ rfl _ _ (wa nq) rfl rfl f6 Tryz.infoWa rfl wa_one ?_)
    simp only [Act.put]
    replace f2 := blk_row_other (b := b6) (c' := wa nq) f2 (by omega)
    replace f3 := blk_row_other (b := b6) (c' := wa nq) f3 (by omega)
    replace f4 := blk_row_other (b := b6) (c' := wa nq) f4 (by omega)
    replace f5 := blk_row_other (b := b6) (c' := wa nq) f5 (by omega)
    replace f7 := blk_row_other (b := b6) (c' := wa nq) f7 (by omega)
    replace f6 := blk_row (c' := wa nq) f6
    replace bW : Below w.heap.size w (w9.setRow (b6) (wa nq)) := below_setRow bW (by omega) _
    replace sW := Nat.le_trans sW (Nat.le_of_eq (setRow_size w9 (b6) (wa nq)).symm)
    generalize (w9.setRow (b6) (wa nq)) = w10 at *
    go_wp2_with (refine wpList_load_row rfl 24 _ rfl _ rfl 24 _ (0, 0) _ (by assumption) Tryz.underlying24 rfl Tryz.infoWa ?_)
    refine (H4.out _).mono ?_
    rintro e w11 ⟨rfl, b1⟩
    replace f2 := Below.stays b1 f2
    replace f3 := Below.stays b1 f3
    replace f4 := Below.stays b1 f4
    replace f5 := Below.stays b1 f5
    replace f6 := Below.stays b1 f6
    replace f7 := Below.stays b1 f7
    replace bW := bW.trans (b1.mono bW.size)
    replace sW := Nat.le_trans sW b1.size
    clear b1
    go_wp2_with fail
    have d6 := word_cells f6
    have d7 := word_cells f7
    have fo := fold_wa
    have k1 := store_old (w := w11.drew) (m := nq) f4
    have k2 := store_old (m := r) (blk_row_other (w := w11.drew) (b := w.heap.size + 1 + 1) (c' := wa nq) f5 (by omega))
    have d8 := word_cells (blk_row_other (w := w11.drew) (b := w.heap.size + 1 + 1) (c' := wa nq) f7 (by omega))
    go_region
    all_goals
      have e4 := word_cells (blk_row_other (b := w.heap.size + 1 + 1 + 1) (c' := wa r) (blk_row (w := w11.drew) (c' := wa nq) f4) (by omega))
      have e5 := word_cells (blk_row (c' := wa r) (blk_row_other (w := w11.drew) (b := w.heap.size + 1 + 1) (c' := wa nq) f5 (by omega)))
      clear k1 k2 d6 d7 d8 fo
      go_wp2_with fail
      exact bodyPost_ret (v := .tuple #[wd nq, wd r]) (by simp [results, Tryz.results66, go_sem, e4, e5, fold_wa]) rfl ⟨rfl, below_setRow (below_setRow bW.drew (by omega) _) (by omega) _⟩

set_option maxHeartbeats 2000000 in
theorem sdiv_walk10 (a b x y q r nq nr : Nat) (w : World) (H1 : Hid (∀ w : World, Calls Tryz.prog 96 #[wd a] w fun e w' => e = .returned (wd x) ∧ Below w.heap.size w w')) (H2 : Hid (∀ w : World, Calls Tryz.prog 96 #[wd b] w fun e w' => e = .returned (wd y) ∧ Below w.heap.size w w')) (H3 : Hid (∀ w : World, Calls Tryz.prog 65 #[wd x, wd y] w fun e w' => e = .returned (.tuple #[wd q, wd r]) ∧ Below w.heap.size w w')) (H4 : Hid (∀ w : World, Calls Tryz.prog 97 #[wd a] w fun e w' => e = .returned (.bool true) ∧ Below w.heap.size w w')) (H5 : Hid (∀ w : World, Calls Tryz.prog 97 #[wd b] w fun e w' => e = .returned (.bool false) ∧ Below w.heap.size w w')) (H6 : Hid (∀ w : World, Calls Tryz.prog 98 #[wd q] w fun e w' => e = .returned (wd nq) ∧ Below w.heap.size w w')) (H7 : Hid (∀ w : World, Calls Tryz.prog 98 #[wd r] w fun e w' => e = .returned (wd nr) ∧ Below w.heap.size w w')) :
    Calls Tryz.prog 66 #[wd a, wd b] w fun e w' => e = .returned (.tuple #[wd nq, wd nr]) ∧ Below w.heap.size w w' := by
  have hz := z4_wa
  have hsz := wa_size
  go_enter Tryz.func66, Tryz.ntmps66
  go_upto_region 1 with fail
  have f2 : ((((w.alloc (.cells (wa a) 24)).alloc (.cells (wa b) 24)).alloc (.cells (wa 0) 24)).alloc (.cells (wa 0) 24)).heap[w.heap.size]? = some (.cells (wa a) 24) := blk_alloc (blk_alloc (blk_alloc (blk_new _ rfl)))
  have f3 : ((((w.alloc (.cells (wa a) 24)).alloc (.cells (wa b) 24)).alloc (.cells (wa 0) 24)).alloc (.cells (wa 0) 24)).heap[w.heap.size + 1]? = some (.cells (wa b) 24) := blk_alloc (blk_alloc (blk_new _ (by simp)))
  have f4 : ((((w.alloc (.cells (wa a) 24)).alloc (.cells (wa b) 24)).alloc (.cells (wa 0) 24)).alloc (.cells (wa 0) 24)).heap[w.heap.size + 1 + 1]? = some (.cells (wa 0) 24) := blk_alloc (blk_new _ (by simp))
  have f5 : ((((w.alloc (.cells (wa a) 24)).alloc (.cells (wa b) 24)).alloc (.cells (wa 0) 24)).alloc (.cells (wa 0) 24)).heap[w.heap.size + 1 + 1 + 1]? = some (.cells (wa 0) 24) := blk_new _ (by simp)
  have bW : Below w.heap.size w ((((w.alloc (.cells (wa a) 24)).alloc (.cells (wa b) 24)).alloc (.cells (wa 0) 24)).alloc (.cells (wa 0) 24)) := (((((Below.refl _ _).alloc (Nat.le_refl _) _).alloc (by simp <;> omega) _).alloc (by simp <;> omega) _).alloc (by simp <;> omega) _)
  have sW : w.heap.size + 4 ≤ ((((w.alloc (.cells (wa a) 24)).alloc (.cells (wa b) 24)).alloc (.cells (wa 0) 24)).alloc (.cells (wa 0) 24)).heap.size := by simp
  generalize ((((w.alloc (.cells (wa a) 24)).alloc (.cells (wa b) 24)).alloc (.cells (wa 0) 24)).alloc (.cells (wa 0) 24)) = W at *
  refine region_mk2 (aQ := ?aQ) 8 ⟨8, 10, 24, 6, 14, wa 0, wa q⟩ ⟨9, 11, 24, 7, 15, wa 0, wa r⟩ (by kernel_rfl) (by kernel_rfl) (by simp) (fun w1x => ?hq) ?hok1 ?hok2 ?hh
  case hq =>
    simp only [List.take_succ_cons, List.take_zero]
    repeat (first | (go_big_quiet_want; refine quiet_load_row 24 _ rfl _ (wa a) rfl (fun w2 hw2 => by obtain ⟨g, rfl⟩ := hw2; exact g.block (w1x.block f2)) Tryz.underlying24 Tryz.infoWa ?_; simp only [Act.put, List.setIfInBounds_toArray, List.set_cons_succ, List.set_cons_zero]; go_big_quiet_on) | (go_big_quiet_want; refine quiet_load_row 24 _ rfl _ (wa b) rfl (fun w2 hw2 => by obtain ⟨g, rfl⟩ := hw2; exact g.block (w1x.block f3)) Tryz.underlying24 Tryz.infoWa ?_; simp only [Act.put, List.setIfInBounds_toArray, List.set_cons_succ, List.set_cons_zero]; go_big_quiet_on) | go_big_quiet_step (first | (go_at_call 96; first | with_reducible exact calls_ext (H1.out _) | with_reducible exact calls_ext (H2.out _)) | (go_at_call 65; with_reducible exact calls_ext (H3.out _))))
    refine wpQuiet_nil ?_
    rfl
  case hok1 => exact ⟨Tryz.zeroValue24, Tryz.infoW, rfl, by simp [wa, Value.oneCell'], by simp, rfl⟩
  case hok2 => exact ⟨Tryz.zeroValue24, Tryz.infoW, rfl, by simp [wa, Value.oneCell'], by simp, rfl⟩
  case hh =>
    intro b6 b7 w6 b1 l6 l7 hne f6 f7
    simp only [Act.put, List.setIfInBounds_toArray, List.set_cons_succ, List.set_cons_zero]
    dsimp only at f6 f7
    have hs0 := sW
    replace f2 := Below.stays b1 f2
    replace f3 := Below.stays b1 f3
    replace f4 := Below.stays b1 f4
    replace f5 := Below.stays b1 f5
    replace bW := bW.trans (b1.mono bW.size)
    replace sW := Nat.le_trans sW b1.size
    clear b1
    replace l6 : w.heap.size + 4 ≤ b6 := Nat.le_trans hs0 l6
    replace l7 : w.heap.size + 4 ≤ b7 := Nat.le_trans hs0 l7
    clear hs0 hz
    go_wp2_with fail
    have g2 := fun g : Ext w6 => g.word f2
    have g3 := fun g : Ext w6 => g.word f3
    have fo := fold_wa
    refine region_ext (by kernel_rfl) (by kernel_rfl) ?_
    repeat (go_big_quiet_step ((go_at_call 97; first | with_reducible exact calls_ext (H4.out _) | with_reducible exact calls_ext (H5.out _))))
    refine wpQuiet_nil ?_
    rintro _ ⟨g, rfl⟩
    clear g2 g3 fo
    have b1 := g.below
    replace f2 := Below.stays b1 f2
    replace f3 := Below.stays b1 f3
    replace f4 := Below.stays b1 f4
    replace f5 := Below.stays b1 f5
    replace f6 := Below.stays b1 f6
    replace f7 := Below.stays b1 f7
    replace bW := bW.trans (b1.mono bW.size)
    replace sW := Nat.le_trans sW b1.size
    clear b1
    generalize g.on = w8 at *
    go_wp2_with (refine wpList_load_row rfl 24 _ rfl _ rfl 24 _ (0, 0) _ (by assumption) Tryz.underlying24 rfl Tryz.infoWa ?_)
    refine (H6.out _).mono ?_
    rintro e w9 ⟨rfl, b1⟩
    replace f2 := Below.stays b1 f2
    replace f3 := Below.stays b1 f3
    replace f4 := Below.stays b1 f4
    replace f5 := Below.stays b1 f5
    replace f6 := Below.stays b1 f6
    replace f7 := Below.stays b1 f7
    replace bW := bW.trans (b1.mono bW.size)
    replace sW := Nat.le_trans sW b1.size
    clear b1
    go_upto_region 4 with (refine wpList_store_row rfl 24 (.tmp 6) _ rfl _ _ (wa nq) rfl rfl f6 Tryz.infoWa rfl wa_one ?_)
    simp only [Act.put]
    replace f2 := blk_row_other (b := b6) (c' := wa nq) f2 (by omega)
    replace f3 := blk_row_other (b := b6) (c' := wa nq) f3 (by omega)
    replace f4 := blk_row_other (b := b6) (c' := wa nq) f4 (by omega)
    replace f5 := blk_row_other (b := b6) (c' := wa nq) f5 (by omega)
    replace f7 := blk_row_other (b := b6) (c' := wa nq) f7 (by omega)
    replace f6 := blk_row (c' := wa nq) f6
    replace bW : Below w.heap.size w (w9.setRow (b6) (wa nq)) := below_setRow bW (by omega) _
    replace sW := Nat.le_trans sW (Nat.le_of_eq (setRow_size w9 (b6) (wa nq)).symm)
    generalize (w9.setRow (b6) (wa nq)) = w10 at *
    go_wp2_with (refine wpList_load_row rfl 24 _ rfl _ rfl 24 _ (0, 0) _ (by assumption) Tryz.underlying24 rfl Tryz.infoWa ?_)
    refine (H4.out _).mono ?_
    rintro e w11 ⟨rfl, b1⟩
    replace f2 := Below.stays b1 f2
    replace f3 := Below.stays b1 f3
    replace f4 := Below.stays b1 f4
    replace f5 := Below.stays b1 f5
    replace f6 := Below.stays b1 f6
    replace f7 := Below.stays b1 f7
    replace bW := bW.trans (b1.mono bW.size)
    replace sW := Nat.le_trans sW b1.size
    clear b1
    go_wp2_with (refine wpList_load_row rfl 24 _ rfl _ rfl 24 _ (0, 0) _ (by assumption) Tryz.underlying24 rfl Tryz.infoWa ?_)
    refine (H7.out _).mono ?_
    rintro e w12 ⟨rfl, b1⟩
    replace f2 := Below.stays b1 f2
    replace f3 := Below.stays b1 f3
    replace f4 := Below.stays b1 f4
    replace f5 := Below.stays b1 f5
    replace f6 := Below.stays b1 f6
    replace f7 := Below.stays b1 f7
    replace bW := bW.trans (b1.mono bW.size)
    replace sW := Nat.le_trans sW b1.size
    clear b1
    go_upto_region 6 with (refine wpList_store_row rfl 24 (.tmp 7) _ rfl _ _ (wa nr) rfl rfl f7 Tryz.infoWa rfl wa_one ?_)
    simp only [Act.put]
    replace f2 := blk_row_other (b := b7) (c' := wa nr) f2 (by omega)
    replace f3 := blk_row_other (b := b7) (c' := wa nr) f3 (by omega)
    replace f4 := blk_row_other (b := b7) (c' := wa nr) f4 (by omega)
    replace f5 := blk_row_other (b := b7) (c' := wa nr) f5 (by omega)
    replace f6 := blk_row_other (b := b7) (c' := wa nr) f6 (by omega)
    replace f7 := blk_row (c' := wa nr) f7
    replace bW : Below w.heap.size w (w12.setRow (b7) (wa nr)) := below_setRow bW (by omega) _
    replace sW := Nat.le_trans sW (Nat.le_of_eq (setRow_size w12 (b7) (wa nr)).symm)
    generalize (w12.setRow (b7) (wa nr)) = w13 at *
    have d6 := word_cells f6
    have d7 := word_cells f7
    have fo := fold_wa
    have k1 := store_old (w := w13.drew) (m := nq) f4
    have k2 := store_old (m := nr) (blk_row_other (w := w13.drew) (b := w.heap.size + 1 + 1) (c' := wa nq) f5 (by omega))
    have d8 := word_cells (blk_row_other (w := w13.drew) (b := w.heap.size + 1 + 1) (c' := wa nq) f7 (by omega))
    go_region
    all_goals
      have e4 := word_cells (blk_row_other (b := w.heap.size + 1 + 1 + 1) (c' := wa nr) (blk_row (w := w13.drew) (c' := wa nq) f4) (by omega))
      have e5 := word_cells (blk_row (c' := wa nr) (blk_row_other (w := w13.drew) (b := w.heap.size + 1 + 1) (c' := wa nq) f5 (by omega)))
      clear k1 k2 d6 d7 d8 fo
      go_wp2_with fail
      exact bodyPost_ret (v := .tuple #[wd nq, wd nr]) (by simp [results, Tryz.results66, go_sem, e4, e5, fold_wa]) rfl ⟨rfl, below_setRow (below_setRow bW.drew (by omega) _) (by omega) _⟩

set_option maxHeartbeats 2000000 in
theorem sdiv_walk11 (a b x y q r nr : Nat) (w : World) (H1 : Hid (∀ w : World, Calls Tryz.prog 96 #[wd a] w fun e w' => e = .returned (wd x) ∧ Below w.heap.size w w')) (H2 : Hid (∀ w : World, Calls Tryz.prog 96 #[wd b] w fun e w' => e = .returned (wd y) ∧ Below w.heap.size w w')) (H3 : Hid (∀ w : World, Calls Tryz.prog 65 #[wd x, wd y] w fun e w' => e = .returned (.tuple #[wd q, wd r]) ∧ Below w.heap.size w w')) (H4 : Hid (∀ w : World, Calls Tryz.prog 97 #[wd a] w fun e w' => e = .returned (.bool true) ∧ Below w.heap.size w w')) (H5 : Hid (∀ w : World, Calls Tryz.prog 97 #[wd b] w fun e w' => e = .returned (.bool true) ∧ Below w.heap.size w w')) (H7 : Hid (∀ w : World, Calls Tryz.prog 98 #[wd r] w fun e w' => e = .returned (wd nr) ∧ Below w.heap.size w w')) :
    Calls Tryz.prog 66 #[wd a, wd b] w fun e w' => e = .returned (.tuple #[wd q, wd nr]) ∧ Below w.heap.size w w' := by
  have hz := z4_wa
  have hsz := wa_size
  go_enter Tryz.func66, Tryz.ntmps66
  go_upto_region 1 with fail
  have f2 : ((((w.alloc (.cells (wa a) 24)).alloc (.cells (wa b) 24)).alloc (.cells (wa 0) 24)).alloc (.cells (wa 0) 24)).heap[w.heap.size]? = some (.cells (wa a) 24) := blk_alloc (blk_alloc (blk_alloc (blk_new _ rfl)))
  have f3 : ((((w.alloc (.cells (wa a) 24)).alloc (.cells (wa b) 24)).alloc (.cells (wa 0) 24)).alloc (.cells (wa 0) 24)).heap[w.heap.size + 1]? = some (.cells (wa b) 24) := blk_alloc (blk_alloc (blk_new _ (by simp)))
  have f4 : ((((w.alloc (.cells (wa a) 24)).alloc (.cells (wa b) 24)).alloc (.cells (wa 0) 24)).alloc (.cells (wa 0) 24)).heap[w.heap.size + 1 + 1]? = some (.cells (wa 0) 24) := blk_alloc (blk_new _ (by simp))
  have f5 : ((((w.alloc (.cells (wa a) 24)).alloc (.cells (wa b) 24)).alloc (.cells (wa 0) 24)).alloc (.cells (wa 0) 24)).heap[w.heap.size + 1 + 1 + 1]? = some (.cells (wa 0) 24) := blk_new _ (by simp)
  have bW : Below w.heap.size w ((((w.alloc (.cells (wa a) 24)).alloc (.cells (wa b) 24)).alloc (.cells (wa 0) 24)).alloc (.cells (wa 0) 24)) := (((((Below.refl _ _).alloc (Nat.le_refl _) _).alloc (by simp <;> omega) _).alloc (by simp <;> omega) _).alloc (by simp <;> omega) _)
  have sW : w.heap.size + 4 ≤ ((((w.alloc (.cells (wa a) 24)).alloc (.cells (wa b) 24)).alloc (.cells (wa 0) 24)).alloc (.cells (wa 0) 24)).heap.size := by simp
  generalize ((((w.alloc (.cells (wa a) 24)).alloc (.cells (wa b) 24)).alloc (.cells (wa 0) 24)).alloc (.cells (wa 0) 24)) = W at *
  refine region_mk2 (aQ := ?aQ) 8 ⟨8, 10, 24, 6, 14, wa 0, wa q⟩ ⟨9, 11, 24, 7, 15, wa 0, wa r⟩ (by kernel_rfl) (by kernel_rfl) (by simp) (fun w1x => ?hq) ?hok1 ?hok2 ?hh
  case hq =>
    simp only [List.take_succ_cons, List.take_zero]
    repeat (first | (go_big_quiet_want; refine quiet_load_row 24 _ rfl _ (wa a) rfl (fun w2 hw2 => by obtain ⟨g, rfl⟩ := hw2; exact g.block (w1x.block f2)) Tryz.underlying24 Tryz.infoWa ?_; simp only [Act.put, List.setIfInBounds_toArray, List.set_cons_succ, List.set_cons_zero]; go_big_quiet_on) | (go_big_quiet_want; refine quiet_load_row 24 _ rfl _ (wa b) rfl (fun w2 hw2 => by obtain ⟨g, rfl⟩ := hw2; exact g.block (w1x.block f3)) Tryz.underlying24 Tryz.infoWa ?_; simp only [Act.put, List.setIfInBounds_toArray, List.set_cons_succ, List.set_cons_zero]; go_big_quiet_on) | go_big_quiet_step (first | (go_at_call 96; first | with_reducible exact calls_ext (H1.out _) | with_reducible exact calls_ext (H2.out _)) | (go_at_call 65; with_reducible exact calls_ext (H3.out _))))
    refine wpQuiet_nil ?_
    rfl
  case hok1 => exact ⟨Tryz.zeroValue24, Tryz.infoW, rfl, by simp [wa, Value.oneCell'], by simp, rfl⟩
  case hok2 => exact ⟨Tryz.zeroValue24, Tryz.infoW, rfl, by simp [wa, Value.oneCell'], by simp, rfl⟩
  case hh =>
    intro b6 b7 w6 b1 l6 l7 hne f6 f7
    simp only [Act.put, List.setIfInBounds_toArray, List.set_cons_succ, List.set_cons_zero]
    dsimp only at f6 f7
    have hs0 := sW
    replace f2 := Below.stays b1 f2
    replace f3 := Below.stays b1 f3
    replace f4 := Below.stays b1 f4
    replace f5 := Below.stays b1 f5
    replace bW := bW.trans (b1.mono bW.size)
    replace sW := Nat.le_trans sW b1.size
    clear b1
    replace l6 : w.heap.size + 4 ≤ b6 := Nat.le_trans hs0 l6
    replace l7 : w.heap.size + 4 ≤ b7 := Nat.le_trans hs0 l7
    clear hs0 hz
    go_wp2_with fail
    have g2 := fun g : Ext w6 => g.word f2
    have g3 := fun g : Ext w6 => g.word f3
    have fo := fold_wa
    refine region_ext (by kernel_rfl) (by kernel_rfl) ?_
    repeat (go_big_quiet_step ((go_at_call 97; first | with_reducible exact calls_ext (H4.out _) | with_reducible exact calls_ext (H5.out _))))
    refine wpQuiet_nil ?_
    rintro _ ⟨g, rfl⟩
    clear g2 g3 fo
    have b1 := g.below
    replace f2 := Below.stays b1 f2
    replace f3 := Below.stays b1 f3
    replace f4 := Below.stays b1 f4
    replace f5 := Below.stays b1 f5
    replace f6 := Below.stays b1 f6
    replace f7 := Below.stays b1 f7
    replace bW := bW.trans (b1.mono bW.size)
    replace sW := Nat.le_trans sW b1.size
    clear b1
    generalize g.on = w8 at *
    go_wp2_with (refine wpList_load_row rfl 24 _ rfl _ rfl 24 _ (0, 0) _ (by assumption) Tryz.underlying24 rfl Tryz.infoWa ?_)
    refine (H4.out _).mono ?_
    rintro e w11 ⟨rfl, b1⟩
    replace f2 := Below.stays b1 f2
    replace f3 := Below.stays b1 f3
    replace f4 := Below.stays b1 f4
    replace f5 := Below.stays b1 f5
    replace f6 := Below.stays b1 f6
    replace f7 := Below.stays b1 f7
    replace bW := bW.trans (b1.mono bW.size)
    replace sW := Nat.le_trans sW b1.size
    clear b1
    go_wp2_with (refine wpList_load_row rfl 24 _ rfl _ rfl 24 _ (0, 0) _ (by assumption) Tryz.underlying24 rfl Tryz.infoWa ?_)
    refine (H7.out _).mono ?_
    rintro e w12 ⟨rfl, b1⟩
    replace f2 := Below.stays b1 f2
    replace f3 := Below.stays b1 f3
    replace f4 := Below.stays b1 f4
    replace f5 := Below.stays b1 f5
    replace f6 := Below.stays b1 f6
    replace f7 := Below.stays b1 f7
    replace bW := bW.trans (b1.mono bW.size)
    replace sW := Nat.le_trans sW b1.size
    clear b1
    go_upto_region 6 with (refine wpList_store_row rfl 24 (.tmp 7) _ rfl _ _ (wa nr) rfl rfl f7 Tryz.infoWa rfl wa_one ?_)
    simp only [Act.put]
    replace f2 := blk_row_other (b := b7) (c' := wa nr) f2 (by omega)
    replace f3 := blk_row_other (b := b7) (c' := wa nr) f3 (by omega)
    replace f4 := blk_row_other (b := b7) (c' := wa nr) f4 (by omega)
    replace f5 := blk_row_other (b := b7) (c' := wa nr) f5 (by omega)
    replace f6 := blk_row_other (b := b7) (c' := wa nr) f6 (by omega)
    replace f7 := blk_row (c' := wa nr) f7
    replace bW : Below w.heap.size w (w12.setRow (b7) (wa nr)) := below_setRow bW (by omega) _
    replace sW := Nat.le_trans sW (Nat.le_of_eq (setRow_size w12 (b7) (wa nr)).symm)
    generalize (w12.setRow (b7) (wa nr)) = w13 at *
    have d6 := word_cells f6
    have d7 := word_cells f7
    have fo := fold_wa
    have k1 := store_old (w := w13.drew) (m := q) f4
    have k2 := store_old (m := nr) (blk_row_other (w := w13.drew) (b := w.heap.size + 1 + 1) (c' := wa q) f5 (by omega))
    have d8 := word_cells (blk_row_other (w := w13.drew) (b := w.heap.size + 1 + 1) (c' := wa q) f7 (by omega))
    go_region
    all_goals
      have e4 := word_cells (blk_row_other (b := w.heap.size + 1 + 1 + 1) (c' := wa nr) (blk_row (w := w13.drew) (c' := wa q) f4) (by omega))
      have e5 := word_cells (blk_row (c' := wa nr) (blk_row_other (w := w13.drew) (b := w.heap.size + 1 + 1) (c' := wa q) f5 (by omega)))
      clear k1 k2 d6 d7 d8 fo
      go_wp2_with fail
      exact bodyPost_ret (v := .tuple #[wd q, wd nr]) (by simp [results, Tryz.results66, go_sem, e4, e5, fold_wa]) rfl ⟨rfl, below_setRow (below_setRow bW.drew (by omega) _) (by omega) _⟩
theorem sdiv_wd (a b : Nat) (w : World) : Calls Tryz.prog 66 #[wd a, wd b] w fun e w' => e = .returned (.tuple #[wd (sq a b), wd (sr a b)]) ∧ Below w.heap.size w w' := by
  have h1 := Lib.hid fun w => ssize_wd a w
  have h2 := Lib.hid fun w => ssize_wd b w
  have h3 := Lib.hid fun w => div_wd (sz a) (sz b) w
  have h4 := fun w => below_wd a w
  have h5 := fun w => below_wd b w
  unfold sq sr
  cases hA : bel a <;> cases hB : bel b <;> rw [hA] at h4 <;> rw [hB] at h5
  · exact sdiv_walk00 _ _ _ _ _ _ w h1 h2 h3 (Lib.hid h4) (Lib.hid h5)
  · exact sdiv_walk01 _ _ _ _ _ _ _ w h1 h2 h3 (Lib.hid h4) (Lib.hid h5) (Lib.hid fun w => sneg_wd _ w)
  · exact sdiv_walk10 _ _ _ _ _ _ _ _ w h1 h2 h3 (Lib.hid h4) (Lib.hid h5) (Lib.hid fun w => sneg_wd _ w) (Lib.hid fun w => sneg_wd _ w)
  · exact sdiv_walk11 _ _ _ _ _ _ _ w h1 h2 h3 (Lib.hid h4) (Lib.hid h5) (Lib.hid fun w => sneg_wd _ w)
end Go.Proofs.YtdpbjdecbilaeaaGreat
/- What the function Extend of package sign does, and the document's Below, Size, neg and Less; all older memory is as it was. -/
namespace Go.Proofs.YtdpbjdecbilaeaaGreat
open Go.RowKit SmWord
set_option maxRecDepth 100000

set_option maxHeartbeats 1000000 in
theorem extend_walk0 (n a : Nat) (w : World) (H1 : Hid (∀ w : World, Calls Tryz.prog 75 #[wd n] w fun e w' => e = .returned (.tuple #[.int .u64 0, .bool false]) ∧ Below w.heap.size w w')) :
    Calls Tryz.prog 68 #[wd n, wd a] w fun e w' => e = .returned (wd a) ∧ Below w.heap.size w w' := by
  have hz := z4_wa
  have hsz := wa_size
  go_enter Tryz.func68, Tryz.ntmps68
  go_upto_region 1 with fail
  have f2 : (((w.alloc (.cells (wa n) 24)).alloc (.cells (wa a) 24)).alloc (.cells (wa 0) 24)).heap[w.heap.size]? = some (.cells (wa n) 24) := blk_alloc (blk_alloc (blk_new _ rfl))
  have f3 : (((w.alloc (.cells (wa n) 24)).alloc (.cells (wa a) 24)).alloc (.cells (wa 0) 24)).heap[w.heap.size + 1]? = some (.cells (wa a) 24) := blk_alloc (blk_new _ (by simp))
  have f4 : (((w.alloc (.cells (wa n) 24)).alloc (.cells (wa a) 24)).alloc (.cells (wa 0) 24)).heap[w.heap.size + 1 + 1]? = some (.cells (wa 0) 24) := blk_new _ (by simp)
  have bW : Below w.heap.size w (((w.alloc (.cells (wa n) 24)).alloc (.cells (wa a) 24)).alloc (.cells (wa 0) 24)) := ((((Below.refl _ _).alloc (Nat.le_refl _) _).alloc (by simp <;> omega) _).alloc (by simp <;> omega) _)
  have sW : w.heap.size + 3 ≤ (((w.alloc (.cells (wa n) 24)).alloc (.cells (wa a) 24)).alloc (.cells (wa 0) 24)).heap.size := by simp
  generalize (((w.alloc (.cells (wa n) 24)).alloc (.cells (wa a) 24)).alloc (.cells (wa 0) 24)) = W at *
  go_wp2_with (refine wpList_load_row rfl 24 _ rfl _ rfl 24 _ (0, 0) _ (by assumption) Tryz.underlying24 rfl Tryz.infoWa ?_)
  refine (H1.out _).mono ?_
  rintro e w1 ⟨rfl, b1⟩
  replace f2 := Below.stays b1 f2
  replace f3 := Below.stays b1 f3
  replace f4 := Below.stays b1 f4
  replace bW := bW.trans (b1.mono bW.size)
  replace sW := Nat.le_trans sW b1.size
  clear b1
  go_wp2_with (first | (refine wpList_load_row rfl 24 _ rfl _ rfl 24 _ (0, 0) _ (by assumption) Tryz.underlying24 rfl Tryz.infoWa ?_) | (refine wpList_store_row rfl 24 (.tmp 4) _ rfl _ _ (wa a) rfl rfl f4 Tryz.infoWa rfl wa_one ?_))
  have e2 := word_cells (blk_row (c' := wa a) f4)
  exact bodyPost_ret (v := wd a) (by simp [results, Tryz.results68, go_sem, e2, fold_wa]) rfl ⟨rfl, below_setRow bW (by omega) _⟩

set_option maxHeartbeats 1000000 in
theorem extend_walk1 (n a v : Nat) (w : World) (hv : 31 ≤ v) (H1 : Hid (∀ w : World, Calls Tryz.prog 75 #[wd n] w fun e w' => e = .returned (.tuple #[.int .u64 (v : Int), .bool true]) ∧ Below w.heap.size w w')) :
    Calls Tryz.prog 68 #[wd n, wd a] w fun e w' => e = .returned (wd a) ∧ Below w.heap.size w w' := by
  have hz := z4_wa
  have hsz := wa_size
  go_enter Tryz.func68, Tryz.ntmps68
  go_upto_region 1 with fail
  have f2 : (((w.alloc (.cells (wa n) 24)).alloc (.cells (wa a) 24)).alloc (.cells (wa 0) 24)).heap[w.heap.size]? = some (.cells (wa n) 24) := blk_alloc (blk_alloc (blk_new _ rfl))
  have f3 : (((w.alloc (.cells (wa n) 24)).alloc (.cells (wa a) 24)).alloc (.cells (wa 0) 24)).heap[w.heap.size + 1]? = some (.cells (wa a) 24) := blk_alloc (blk_new _ (by simp))
  have f4 : (((w.alloc (.cells (wa n) 24)).alloc (.cells (wa a) 24)).alloc (.cells (wa 0) 24)).heap[w.heap.size + 1 + 1]? = some (.cells (wa 0) 24) := blk_new _ (by simp)
  have bW : Below w.heap.size w (((w.alloc (.cells (wa n) 24)).alloc (.cells (wa a) 24)).alloc (.cells (wa 0) 24)) := ((((Below.refl _ _).alloc (Nat.le_refl _) _).alloc (by simp <;> omega) _).alloc (by simp <;> omega) _)
  have sW : w.heap.size + 3 ≤ (((w.alloc (.cells (wa n) 24)).alloc (.cells (wa a) 24)).alloc (.cells (wa 0) 24)).heap.size := by simp
  generalize (((w.alloc (.cells (wa n) 24)).alloc (.cells (wa a) 24)).alloc (.cells (wa 0) 24)) = W at *
  go_wp2_with (refine wpList_load_row rfl 24 _ rfl _ rfl 24 _ (0, 0) _ (by assumption) Tryz.underlying24 rfl Tryz.infoWa ?_)
  refine (H1.out _).mono ?_
  rintro e w1 ⟨rfl, b1⟩
  replace f2 := Below.stays b1 f2
  replace f3 := Below.stays b1 f3
  replace f4 := Below.stays b1 f4
  replace bW := bW.trans (b1.mono bW.size)
  replace sW := Nat.le_trans sW b1.size
  clear b1
  go_wp2_with (first | (refine wpList_load_row rfl 24 _ rfl _ rfl 24 _ (0, 0) _ (by assumption) Tryz.underlying24 rfl Tryz.infoWa ?_) | (refine wpList_store_row rfl 24 (.tmp 4) _ rfl _ _ (wa a) rfl rfl f4 Tryz.infoWa rfl wa_one ?_))
  have e2 := word_cells (blk_row (c' := wa a) f4)
  exact bodyPost_ret (v := wd a) (by simp [results, Tryz.results68, go_sem, e2, fold_wa]) rfl ⟨rfl, below_setRow bW (by omega) _⟩

set_option maxHeartbeats 1000000 in
theorem extend_walk2 (n a v x t : Nat) (w : World) (hv : v ≤ 30) (hs : Hid (8 * (31 - (v : Int)) = ((8 * (31 - v) : Nat) : Int))) (H1 : Hid (∀ w : World, Calls Tryz.prog 75 #[wd n] w fun e w' => e = .returned (.tuple #[.int .u64 (v : Int), .bool true]) ∧ Below w.heap.size w w')) (H2 : Hid (∀ (i : Int), i = ((8 * (31 - v) : Nat) : Int) → ∀ w : World, Calls Tryz.prog 78 #[wd a, .int .u64 i] w fun e w' => e = .returned (wd x) ∧ Below w.heap.size w w')) (H3 : Hid (∀ (i : Int), i = ((8 * (31 - v) : Nat) : Int) → ∀ w : World, Calls Tryz.prog 81 #[wd x, .int .u64 i] w fun e w' => e = .returned (wd t) ∧ Below w.heap.size w w')) :
    Calls Tryz.prog 68 #[wd n, wd a] w fun e w' => e = .returned (wd t) ∧ Below w.heap.size w w' := by
  have hz := z4_wa
  have hsz := wa_size
  go_enter Tryz.func68, Tryz.ntmps68
  go_upto_region 1 with fail
  have f2 : (((w.alloc (.cells (wa n) 24)).alloc (.cells (wa a) 24)).alloc (.cells (wa 0) 24)).heap[w.heap.size]? = some (.cells (wa n) 24) := blk_alloc (blk_alloc (blk_new _ rfl))
  have f3 : (((w.alloc (.cells (wa n) 24)).alloc (.cells (wa a) 24)).alloc (.cells (wa 0) 24)).heap[w.heap.size + 1]? = some (.cells (wa a) 24) := blk_alloc (blk_new _ (by simp))
  have f4 : (((w.alloc (.cells (wa n) 24)).alloc (.cells (wa a) 24)).alloc (.cells (wa 0) 24)).heap[w.heap.size + 1 + 1]? = some (.cells (wa 0) 24) := blk_new _ (by simp)
  have bW : Below w.heap.size w (((w.alloc (.cells (wa n) 24)).alloc (.cells (wa a) 24)).alloc (.cells (wa 0) 24)) := ((((Below.refl _ _).alloc (Nat.le_refl _) _).alloc (by simp <;> omega) _).alloc (by simp <;> omega) _)
  have sW : w.heap.size + 3 ≤ (((w.alloc (.cells (wa n) 24)).alloc (.cells (wa a) 24)).alloc (.cells (wa 0) 24)).heap.size := by simp
  generalize (((w.alloc (.cells (wa n) 24)).alloc (.cells (wa a) 24)).alloc (.cells (wa 0) 24)) = W at *
  go_wp2_with (refine wpList_load_row rfl 24 _ rfl _ rfl 24 _ (0, 0) _ (by assumption) Tryz.underlying24 rfl Tryz.infoWa ?_)
  refine (H1.out _).mono ?_
  rintro e w1 ⟨rfl, b1⟩
  replace f2 := Below.stays b1 f2
  replace f3 := Below.stays b1 f3
  replace f4 := Below.stays b1 f4
  replace bW := bW.trans (b1.mono bW.size)
  replace sW := Nat.le_trans sW b1.size
  clear b1
  go_wp2_with (refine wpList_load_row rfl 24 _ rfl _ rfl 24 _ (0, 0) _ (by assumption) Tryz.underlying24 rfl Tryz.infoWa ?_)
  refine (H2.out _ ?_ _).mono ?_
  · exact hs.out
  rintro e w2 ⟨rfl, b1⟩
  replace f2 := Below.stays b1 f2
  replace f3 := Below.stays b1 f3
  replace f4 := Below.stays b1 f4
  replace bW := bW.trans (b1.mono bW.size)
  replace sW := Nat.le_trans sW b1.size
  clear b1
  go_wp2_with fail
  refine (H3.out _ ?_ _).mono ?_
  · exact hs.out
  rintro e w3 ⟨rfl, b1⟩
  replace f2 := Below.stays b1 f2
  replace f3 := Below.stays b1 f3
  replace f4 := Below.stays b1 f4
  replace bW := bW.trans (b1.mono bW.size)
  replace sW := Nat.le_trans sW b1.size
  clear b1
  go_wp2_with (refine wpList_store_row rfl 24 (.tmp 4) _ rfl _ _ (wa t) rfl rfl f4 Tryz.infoWa rfl wa_one ?_)
  have e2 := word_cells (blk_row (c' := wa t) f4)
  exact bodyPost_ret (v := wd t) (by simp [results, Tryz.results68, go_sem, e2, fold_wa]) rfl ⟨rfl, below_setRow bW (by omega) _⟩
/-- The lowest bytes of a word with their sign, of any number of bytes. -/
def exn (n a : Nat) : Nat := if smallB n = true ∧ l0 n ≤ 30 then ext (l0 n) a else a
theorem extend_wd (n a : Nat) (w : World) : Calls Tryz.prog 68 #[wd n, wd a] w fun e w' => e = .returned (wd (exn n a)) ∧ Below w.heap.size w w' := by
  have h1 := fun w => small_wd n w
  unfold exn
  cases hS : smallB n
  · rw [if_neg (fun h => Bool.false_ne_true h.1)]
    rw [hS] at h1
    exact extend_walk0 n a w (Lib.hid h1)
  · rw [hS] at h1
    by_cases hv : l0 n ≤ 30
    · rw [if_pos ⟨rfl, hv⟩]
      refine extend_walk2 n a (l0 n) (a * 2 ^ (8 * (31 - l0 n))) (ext (l0 n) a) w hv (Lib.hid (by omega)) (Lib.hid h1) (Lib.hid fun i hi w => ?_) (Lib.hid fun i hi w => ?_)
      · subst hi
        exact shl_wd a _ (by simp only [B]; omega) w
      · subst hi
        exact sar_wd _ _ (by simp only [B]; omega) w
    · rw [if_neg (fun h => hv h.2)]
      exact extend_walk1 n a (l0 n) w (by omega) (Lib.hid h1)

set_option maxHeartbeats 1000000 in
theorem rbelow_walk (a : Nat) (p : Bool) (w : World) (hp : Hid (decide ((9223372036854775808 : Int) ≤ ((l3 a : Nat) : Int)) = p)) :
    Calls Tryz.prog 90 #[wd a] w fun e w' => e = .returned (.bool p) ∧ Below w.heap.size w w' := by
  have hsz := wa_size
  go_enter Tryz.func90, Tryz.ntmps90
  go_upto_region 1 with fail
  have f1 : (w.alloc (.cells (wa a) 24)).heap[w.heap.size]? = some (.cells (wa a) 24) := blk_new _ rfl
  have bW : Below w.heap.size w (w.alloc (.cells (wa a) 24)) := ((Below.refl _ _).alloc (Nat.le_refl _) _)
  have sW : w.heap.size + 1 ≤ (w.alloc (.cells (wa a) 24)).heap.size := by simp
  generalize (w.alloc (.cells (wa a) 24)) = W at *
  obtain ⟨c0, c1, c2, c3⟩ := word_cells f1
  clear c0 c1 c2
  go_wp2
  go_ret
  exact ⟨by rw [hp.out]; rfl, bW⟩
theorem rbelow_wd (a : Nat) (w : World) : Calls Tryz.prog 90 #[wd a] w fun e w' => e = .returned (.bool (bel a)) ∧ Below w.heap.size w w' :=
  rbelow_walk a _ w (Lib.hid (bel_l3 a))

set_option maxHeartbeats 1000000 in
theorem rneg_walk (a t : Nat) (d d2 : Array Value) (w : World) (H1 : Hid (∀ w : World, Calls Tryz.prog 13 #[wd a] w fun e w' => e = .returned (.agg d) ∧ Below w.heap.size w w')) (H2 : Hid (∀ w : World, Calls Tryz.prog 14 #[.agg d] w fun e w' => e = .returned (.agg d2) ∧ Below w.heap.size w w')) (H3 : Hid (∀ w : World, Calls Tryz.prog 20 #[.agg d2] w fun e w' => e = .returned (wd t) ∧ Below w.heap.size w w')) :
    Calls Tryz.prog 91 #[wd a] w fun e w' => e = .returned (wd t) ∧ Below w.heap.size w w' := by
  have hz := z4_wa
  have hsz := wa_size
  go_enter Tryz.func91, Tryz.ntmps91
  go_upto_region 1 with fail
  have f1 : ((w.alloc (.cells (wa a) 24)).alloc (.cells (wa 0) 24)).heap[w.heap.size]? = some (.cells (wa a) 24) := blk_alloc (blk_new _ rfl)
  have f2 : ((w.alloc (.cells (wa a) 24)).alloc (.cells (wa 0) 24)).heap[w.heap.size + 1]? = some (.cells (wa 0) 24) := blk_new _ (by simp)
  have bW : Below w.heap.size w ((w.alloc (.cells (wa a) 24)).alloc (.cells (wa 0) 24)) := (((Below.refl _ _).alloc (Nat.le_refl _) _).alloc (by simp <;> omega) _)
  have sW : w.heap.size + 2 ≤ ((w.alloc (.cells (wa a) 24)).alloc (.cells (wa 0) 24)).heap.size := by simp
  generalize ((w.alloc (.cells (wa a) 24)).alloc (.cells (wa 0) 24)) = W at *
  go_wp2_with (refine wpList_load_row rfl 24 _ rfl _ rfl 24 _ (0, 0) _ (by assumption) Tryz.underlying24 rfl Tryz.infoWa ?_)
  refine (H1.out _).mono ?_
  rintro e w1 ⟨rfl, b1⟩
  replace f1 := Below.stays b1 f1
  replace f2 := Below.stays b1 f2
  replace bW := bW.trans (b1.mono bW.size)
  replace sW := Nat.le_trans sW b1.size
  clear b1
  go_wp2_with fail
  refine (H2.out _).mono ?_
  rintro e w2 ⟨rfl, b1⟩
  replace f1 := Below.stays b1 f1
  replace f2 := Below.stays b1 f2
  replace bW := bW.trans (b1.mono bW.size)
  replace sW := Nat.le_trans sW b1.size
  clear b1
  go_wp2_with fail
  refine (H3.out _).mono ?_
  rintro e w3 ⟨rfl, b1⟩
  replace f1 := Below.stays b1 f1
  replace f2 := Below.stays b1 f2
  replace bW := bW.trans (b1.mono bW.size)
  replace sW := Nat.le_trans sW b1.size
  clear b1
  go_wp2_with (refine wpList_store_row rfl 24 (.tmp 2) _ rfl _ _ (wa t) rfl rfl f2 Tryz.infoWa rfl wa_one ?_)
  have e2 := word_cells (blk_row (c' := wa t) f2)
  exact bodyPost_ret (v := wd t) (by simp [results, Tryz.results91, go_sem, e2, fold_wa]) rfl ⟨rfl, below_setRow bW (by omega) _⟩
theorem rneg_wd (a : Nat) (w : World) : Calls Tryz.prog 91 #[wd a] w fun e w' => e = .returned (wd (ng a)) ∧ Below w.heap.size w w' :=
  rneg_walk a _ _ _ w (Lib.hid fun w => of_ref a w) (Lib.hid fun w => neg_ref a w) (Lib.hid fun w => word_ref (ng a) w)

set_option maxHeartbeats 1000000 in
theorem rsize_walk0 (a : Nat) (w : World) (H : Hid (∀ w : World, Calls Tryz.prog 90 #[wd a] w fun e w' => e = .returned (.bool false) ∧ Below w.heap.size w w')) :
    Calls Tryz.prog 89 #[wd a] w fun e w' => e = .returned (wd a) ∧ Below w.heap.size w w' := by
  have hz := z4_wa
  have hsz := wa_size
  go_enter Tryz.func89, Tryz.ntmps89
  go_upto_region 1 with fail
  have f1 : ((w.alloc (.cells (wa a) 24)).alloc (.cells (wa 0) 24)).heap[w.heap.size]? = some (.cells (wa a) 24) := blk_alloc (blk_new _ rfl)
  have f2 : ((w.alloc (.cells (wa a) 24)).alloc (.cells (wa 0) 24)).heap[w.heap.size + 1]? = some (.cells (wa 0) 24) := blk_new _ (by simp)
  have bW : Below w.heap.size w ((w.alloc (.cells (wa a) 24)).alloc (.cells (wa 0) 24)) := (((Below.refl _ _).alloc (Nat.le_refl _) _).alloc (by simp <;> omega) _)
  have sW : w.heap.size + 2 ≤ ((w.alloc (.cells (wa a) 24)).alloc (.cells (wa 0) 24)).heap.size := by simp
  generalize ((w.alloc (.cells (wa a) 24)).alloc (.cells (wa 0) 24)) = W at *
  go_wp2_with (refine wpList_load_row rfl 24 _ rfl _ rfl 24 _ (0, 0) _ (by assumption) Tryz.underlying24 rfl Tryz.infoWa ?_)
  refine (H.out _).mono ?_
  rintro e w0 ⟨rfl, b1⟩
  replace f1 := Below.stays b1 f1
  replace f2 := Below.stays b1 f2
  replace bW := bW.trans (b1.mono bW.size)
  replace sW := Nat.le_trans sW b1.size
  clear b1
  go_wp2_with (first | (refine wpList_load_row rfl 24 _ rfl _ rfl 24 _ (0, 0) _ (by assumption) Tryz.underlying24 rfl Tryz.infoWa ?_) | (refine wpList_store_row rfl 24 (.tmp 2) _ rfl _ _ (wa a) rfl rfl f2 Tryz.infoWa rfl wa_one ?_))
  have e2 := word_cells (blk_row (c' := wa a) f2)
  exact bodyPost_ret (v := wd a) (by simp [results, Tryz.results89, go_sem, e2, fold_wa]) rfl ⟨rfl, below_setRow bW (by omega) _⟩

set_option maxHeartbeats 1000000 in
theorem rsize_walk1 (a t : Nat) (d d2 : Array Value) (w : World) (H : Hid (∀ w : World, Calls Tryz.prog 90 #[wd a] w fun e w' => e = .returned (.bool true) ∧ Below w.heap.size w w')) (H1 : Hid (∀ w : World, Calls Tryz.prog 13 #[wd a] w fun e w' => e = .returned (.agg d) ∧ Below w.heap.size w w')) (H2 : Hid (∀ w : World, Calls Tryz.prog 14 #[.agg d] w fun e w' => e = .returned (.agg d2) ∧ Below w.heap.size w w')) (H3 : Hid (∀ w : World, Calls Tryz.prog 20 #[.agg d2] w fun e w' => e = .returned (wd t) ∧ Below w.heap.size w w')) :
    Calls Tryz.prog 89 #[wd a] w fun e w' => e = .returned (wd t) ∧ Below w.heap.size w w' := by
  have hz := z4_wa
  have hsz := wa_size
  go_enter Tryz.func89, Tryz.ntmps89
  go_upto_region 1 with fail
  have f1 : ((w.alloc (.cells (wa a) 24)).alloc (.cells (wa 0) 24)).heap[w.heap.size]? = some (.cells (wa a) 24) := blk_alloc (blk_new _ rfl)
  have f2 : ((w.alloc (.cells (wa a) 24)).alloc (.cells (wa 0) 24)).heap[w.heap.size + 1]? = some (.cells (wa 0) 24) := blk_new _ (by simp)
  have bW : Below w.heap.size w ((w.alloc (.cells (wa a) 24)).alloc (.cells (wa 0) 24)) := (((Below.refl _ _).alloc (Nat.le_refl _) _).alloc (by simp <;> omega) _)
  have sW : w.heap.size + 2 ≤ ((w.alloc (.cells (wa a) 24)).alloc (.cells (wa 0) 24)).heap.size := by simp
  generalize ((w.alloc (.cells (wa a) 24)).alloc (.cells (wa 0) 24)) = W at *
  go_wp2_with (refine wpList_load_row rfl 24 _ rfl _ rfl 24 _ (0, 0) _ (by assumption) Tryz.underlying24 rfl Tryz.infoWa ?_)
  refine (H.out _).mono ?_
  rintro e w0 ⟨rfl, b1⟩
  replace f1 := Below.stays b1 f1
  replace f2 := Below.stays b1 f2
  replace bW := bW.trans (b1.mono bW.size)
  replace sW := Nat.le_trans sW b1.size
  clear b1
  go_wp2_with (refine wpList_load_row rfl 24 _ rfl _ rfl 24 _ (0, 0) _ (by assumption) Tryz.underlying24 rfl Tryz.infoWa ?_)
  refine (H1.out _).mono ?_
  rintro e w1 ⟨rfl, b1⟩
  replace f1 := Below.stays b1 f1
  replace f2 := Below.stays b1 f2
  replace bW := bW.trans (b1.mono bW.size)
  replace sW := Nat.le_trans sW b1.size
  clear b1
  go_wp2_with fail
  refine (H2.out _).mono ?_
  rintro e w2 ⟨rfl, b1⟩
  replace f1 := Below.stays b1 f1
  replace f2 := Below.stays b1 f2
  replace bW := bW.trans (b1.mono bW.size)
  replace sW := Nat.le_trans sW b1.size
  clear b1
  go_wp2_with fail
  refine (H3.out _).mono ?_
  rintro e w3 ⟨rfl, b1⟩
  replace f1 := Below.stays b1 f1
  replace f2 := Below.stays b1 f2
  replace bW := bW.trans (b1.mono bW.size)
  replace sW := Nat.le_trans sW b1.size
  clear b1
  go_wp2_with (refine wpList_store_row rfl 24 (.tmp 2) _ rfl _ _ (wa t) rfl rfl f2 Tryz.infoWa rfl wa_one ?_)
  have e2 := word_cells (blk_row (c' := wa t) f2)
  exact bodyPost_ret (v := wd t) (by simp [results, Tryz.results89, go_sem, e2, fold_wa]) rfl ⟨rfl, below_setRow bW (by omega) _⟩
theorem rsize_wd (a : Nat) (w : World) : Calls Tryz.prog 89 #[wd a] w fun e w' => e = .returned (wd (sz a)) ∧ Below w.heap.size w w' := by
  have hb := fun w => rbelow_wd a w
  unfold sz
  cases h : bel a
  · rw [h] at hb
    exact rsize_walk0 a w (Lib.hid hb)
  · rw [h] at hb
    exact rsize_walk1 a _ _ _ w (Lib.hid hb) (Lib.hid fun w => of_ref a w) (Lib.hid fun w => neg_ref a w) (Lib.hid fun w => word_ref (ng a) w)

set_option maxHeartbeats 2000000 in
theorem rless_walk (a b : Nat) (z : Int) (d da' db' sa sb : Array Value) (w : World) (hi : Hid ((Tryz.prog.info? 39).map (·.size) = some d.size)) (hn : Hid (zD.size = d.size)) (ho : Hid (d.all (·.oneCell') = true)) (H0 : Hid (∀ w : World, Calls Tryz.prog 13 #[.agg #[.int .u64 0, .int .u64 0, .int .u64 0, .int .u64 9223372036854775808]] w fun e w' => e = .returned (.agg d) ∧ Below w.heap.size w w')) (H1 : Hid (∀ w : World, Calls Tryz.prog 13 #[wd a] w fun e w' => e = .returned (.agg da') ∧ Below w.heap.size w w')) (H2 : Hid (∀ w : World, Calls Tryz.prog 13 #[wd b] w fun e w' => e = .returned (.agg db') ∧ Below w.heap.size w w')) (H3 : Hid (∀ w : World, Calls Tryz.prog 50 #[.agg da', .agg d] w fun e w' => e = .returned (.agg sa) ∧ Below w.heap.size w w')) (H4 : Hid (∀ w : World, Calls Tryz.prog 50 #[.agg db', .agg d] w fun e w' => e = .returned (.agg sb) ∧ Below w.heap.size w w')) (H5 : Hid (∀ w : World, Calls Tryz.prog 16 #[.agg sa, .agg sb] w fun e w' => e = .returned (.int .i64 z) ∧ Below w.heap.size w w')) :
    Calls Tryz.prog 17 #[wd a, wd b] w fun e w' => e = .returned (.bool (decide (z < 0))) ∧ Below w.heap.size w w' := by
  have hsz := wa_size
  have hds : ∀ x, (da x).size = 32 := fun x => arr_size _ _ _
  go_enter Tryz.func17, Tryz.ntmps17
  go_upto_region 1 with fail
  have f2 : ((w.alloc (.cells (wa a) 24)).alloc (.cells (wa b) 24)).heap[w.heap.size]? = some (.cells (wa a) 24) := blk_alloc (blk_new _ rfl)
  have f3 : ((w.alloc (.cells (wa a) 24)).alloc (.cells (wa b) 24)).heap[w.heap.size + 1]? = some (.cells (wa b) 24) := blk_new _ (by simp)
  have bW : Below w.heap.size w ((w.alloc (.cells (wa a) 24)).alloc (.cells (wa b) 24)) := (((Below.refl _ _).alloc (Nat.le_refl _) _).alloc (by simp <;> omega) _)
  have sW : w.heap.size + 2 ≤ ((w.alloc (.cells (wa a) 24)).alloc (.cells (wa b) 24)).heap.size := by simp
  generalize ((w.alloc (.cells (wa a) 24)).alloc (.cells (wa b) 24)) = W at *
  go_wp2_with fail
  refine (H0.out _).mono ?_
  rintro e w1 ⟨rfl, b1⟩
  replace f2 := Below.stays b1 f2
  replace f3 := Below.stays b1 f3
  replace bW := bW.trans (b1.mono bW.size)
  replace sW := Nat.le_trans sW b1.size
  clear b1
  go_upto_region 2 with (first | (refine wpList_alloc_row rfl 39 rfl zD zD_run ?_) | (refine wpList_store_row rfl 39 (.tmp 5) _ rfl _ zD d rfl rfl (heap_alloc_new _ _) hi.out hn.out ho.out ?_))
  simp only [Act.put, List.setIfInBounds_toArray, List.set_cons_succ, List.set_cons_zero]
  rw [World.setRow_alloc_new]
  replace f2 := blk_alloc (o' := .cells (d) 39) f2
  replace f3 := blk_alloc (o' := .cells (d) 39) f3
  have f5 : (w1.alloc (.cells (d) 39)).heap[w1.heap.size]? = some (.cells (d) 39) := heap_alloc_new _ _
  replace bW : Below w.heap.size w (w1.alloc (.cells (d) 39)) := bW.alloc (by omega) _
  have sb5 : w1.heap.size + 1 ≤ (w1.alloc (.cells (d) 39)).heap.size := by simp
  generalize (w1.alloc (.cells (d) 39)) = w2 at *
  generalize w1.heap.size = b5 at *
  have lb5 := sW
  replace sW := Nat.le_trans (Nat.le_succ_of_le sW) sb5
  have g2 := fun g : Ext w2 => g.word f2
  have g3 := fun g : Ext w2 => g.word f3
  have fo := fold_wa
  refine region_ext (by kernel_rfl) (by kernel_rfl) ?_
  repeat (first | (go_big_quiet_want; refine quiet_load_row 39 _ rfl _ d rfl (fun w2 hw2 => by obtain ⟨g, rfl⟩ := hw2; exact g.block f5) Tryz.underlying39 hi.out ?_; simp only [Act.put, List.setIfInBounds_toArray, List.set_cons_succ, List.set_cons_zero]; go_big_quiet_on) | go_big_quiet_step (first | (go_at_call 13; first | with_reducible exact calls_ext (H1.out _) | with_reducible exact calls_ext (H2.out _)) | (go_at_call 50; first | with_reducible exact calls_ext (H3.out _) | with_reducible exact calls_ext (H4.out _)) | (go_at_call 16; with_reducible exact calls_ext (H5.out _))))
  refine wpQuiet_nil ?_
  rintro _ ⟨g, rfl⟩
  go_wp2
  go_ret
  exact ⟨rfl, bW.trans (g.below.mono bW.size)⟩
theorem rless_wd (a b : Nat) (w : World) : Calls Tryz.prog 17 #[wd a, wd b] w fun e w' => e = .returned (.bool (sless a b)) ∧ Below w.heap.size w w' := by
  unfold sless
  rw [← cmpN_neg]
  exact rless_walk a b _ (da Hf) (da a) (da b) (da (a + Hf)) (da (b + Hf)) w (Lib.hid (infoArr _)) (Lib.hid rfl) (Lib.hid (arr_one _ _ _)) (Lib.hid fun w => of_ref Hf w) (Lib.hid fun w => of_ref a w) (Lib.hid fun w => of_ref b w) (Lib.hid fun w => add_ref a Hf w) (Lib.hid fun w => add_ref b Hf w) (Lib.hid fun w => compare_ref _ _ w)
end Go.Proofs.YtdpbjdecbilaeaaGreat
/- What the document's Sar and Extend return; all older memory is as it was. -/
namespace Go.Proofs.YtdpbjdecbilaeaaGreat
open Go.RowKit SmWord
set_option maxRecDepth 100000

set_option maxHeartbeats 2000000 in
theorem rsar_walk (a n t : Nat) (w : World) (hn : n ≤ 300) (ht : Hid (∀ i : Nat, i < 256 → (i + n < 256 → bitI a ((i : Int) + (n : Int)) = ((bitN t i : Nat) : Int)) ∧ (256 ≤ i + n → bitI a 255 = ((bitN t i : Nat) : Int)))) :
    Calls Tryz.prog 23 #[wd a, .int .i64 (n : Int)] w fun e w' => e = .returned (wd t) ∧ Below w.heap.size w w' := by
  have hz := z4_wa
  have hsz := wa_size
  have hds : (da a).size = 32 := arr_size _ _ _
  go_enter Tryz.func23, Tryz.ntmps23
  go_upto_region 1 with fail
  have f2 : ((w.alloc (.cells (wa a) 24)).alloc (.cells (wa 0) 24)).heap[w.heap.size]? = some (.cells (wa a) 24) := blk_alloc (blk_new _ rfl)
  have f4 : ((w.alloc (.cells (wa a) 24)).alloc (.cells (wa 0) 24)).heap[w.heap.size + 1]? = some (.cells (wa 0) 24) := blk_new _ (by simp)
  have bW : Below w.heap.size w ((w.alloc (.cells (wa a) 24)).alloc (.cells (wa 0) 24)) := (((Below.refl _ _).alloc (Nat.le_refl _) _).alloc (by simp <;> omega) _)
  have sW : w.heap.size + 2 ≤ ((w.alloc (.cells (wa a) 24)).alloc (.cells (wa 0) 24)).heap.size := by simp
  generalize ((w.alloc (.cells (wa a) 24)).alloc (.cells (wa 0) 24)) = W at *
  clear hz
  go_wp2_with (refine wpList_load_row rfl 24 _ rfl _ rfl 24 _ (0, 0) _ (by assumption) Tryz.underlying24 rfl Tryz.infoWa ?_)
  refine (of_ref a _).mono ?_
  rintro e w1 ⟨rfl, b1⟩
  replace f2 := Below.stays b1 f2
  replace f4 := Below.stays b1 f4
  replace bW := bW.trans (b1.mono bW.size)
  replace sW := Nat.le_trans sW b1.size
  clear b1
  go_upto_region 2 with (first | (refine wpList_alloc_row rfl 39 rfl zD zD_run ?_) | (refine wpList_store_row rfl 39 (.tmp 5) _ rfl _ zD (da a) rfl rfl (heap_alloc_new _ _) (infoArr _) rfl (arr_one _ _ _) ?_))
  simp only [Act.put, List.setIfInBounds_toArray, List.set_cons_succ, List.set_cons_zero]
  rw [World.setRow_alloc_new]
  replace f2 := blk_alloc (o' := .cells (da a) 39) f2
  replace f4 := blk_alloc (o' := .cells (da a) 39) f4
  have f5 : (w1.alloc (.cells (da a) 39)).heap[w1.heap.size]? = some (.cells (da a) 39) := heap_alloc_new _ _
  replace bW : Below w.heap.size w (w1.alloc (.cells (da a) 39)) := bW.alloc (by omega) _
  have sb5 : w1.heap.size + 1 ≤ (w1.alloc (.cells (da a) 39)).heap.size := by simp
  generalize (w1.alloc (.cells (da a) 39)) = w2 at *
  generalize w1.heap.size = b5 at *
  have lb5 := sW
  replace sW := Nat.le_trans (Nat.le_succ_of_le sW) sb5
  go_upto_region 3 with (first | (refine wpList_alloc_row rfl 61 rfl zB zB_run ?_) | (refine wpList_build_zero rfl 61 rfl Tryz.underlying61 Tryz.sizeOf3 zB zB_run ?_) | (refine wpList_store_row rfl 61 (.tmp 6) _ rfl _ zB zB rfl rfl (heap_alloc_new _ _) (infoArrB _) rfl (arr_one _ _ _) ?_))
  simp only [Act.put, List.setIfInBounds_toArray, List.set_cons_succ, List.set_cons_zero]
  rw [World.setRow_alloc_new]
  have h5o := f5
  replace f2 := blk_alloc (o' := .cells (zB) 61) f2
  replace f4 := blk_alloc (o' := .cells (zB) 61) f4
  replace f5 := blk_alloc (o' := .cells (zB) 61) f5
  have f6 : (w2.alloc (.cells (zB) 61)).heap[w2.heap.size]? = some (.cells (zB) 61) := heap_alloc_new _ _
  replace bW : Below w.heap.size w (w2.alloc (.cells (zB) 61)) := bW.alloc (by omega) _
  have sb6 : w2.heap.size + 1 ≤ (w2.alloc (.cells (zB) 61)).heap.size := by simp
  generalize (w2.alloc (.cells (zB) 61)) = w3 at *
  have hlt56 : b5 < w2.heap.size := (Array.getElem?_eq_some_iff.1 h5o).1
  generalize w2.heap.size = b6 at *
  have lb6 := sW
  replace sW := Nat.le_trans (Nat.le_succ_of_le sW) sb6
  have hb6 : b5 < b6 := hlt56
  clear h5o lb5 sb5 sb6 hlt56
  go_wp2_with fail
  go_loopw [7] (fun i wr => ∃ k : Nat, k ≤ 256 ∧ i = .int .i64 k ∧ Below w.heap.size w wr ∧ wr.heap[b5]? = some (.cells (da a) 39) ∧ wr.heap[w.heap.size + 1]? = some (.cells (wa 0) 24) ∧ wr.heap[b6]? = some (.cells (arr .i64 256 (fun j => if j < k then ((bitN t j : Nat) : Int) else 0)) 61)) (fun i _ => 256 - (intOf i).toNat)
  case atStart => exact ⟨0, Nat.zero_le _, rfl, bW, f5, f4, by rw [fillB_start]; exact f6⟩
  case round =>
    obtain ⟨k, hk, rfl, hb, ha, hr, hd⟩ := hrel
    clear f2 f4 f5 f6 bW
    by_cases hlt : k < 256
    · obtain ⟨ht1, ht2⟩ := ht.out k hlt
      have HA := Lib.hid ha
      have HR := Lib.hid hr
      have HD := Lib.hid hd
      have HB := Lib.hid hb
      clear ha hr hd hb
      go_wp2_with (refine wpList_load_row rfl 39 _ rfl _ rfl 39 (da a) (0, 0) _ HA.out Tryz.underlying39 rfl (infoArr _) ?_)
      refine (bit_ref a _ _).mono ?_
      rintro e w1 ⟨rfl, b1⟩
      have ha := stay b1 HA.out
      have hr := stay b1 HR.out
      have hd := stay b1 HD.out
      have hb := HB.out.trans (b1.mono HB.out.size)
      have c2 := blk_cell hd (arr_get .i64 _ hlt)
      have c3 := blk_frozen (j := k) hd
      clear HA HR HD HB b1
      have HA := Lib.hid ha
      have HR := Lib.hid hr
      have HD := Lib.hid hd
      have HB := Lib.hid hb
      clear ha hr hd hb
      go_upto_region 7 with fail
      clear c2 c3
      have ha := blk_other (j := k) HA.out (show b5 ≠ b6 by omega) (.int .i64 (bitI a 255))
      have hr := blk_other (j := k) HR.out (show w.heap.size + 1 ≠ b6 by omega) (.int .i64 (bitI a 255))
      have hd := blk_set (j := k) HD.out (.int .i64 (bitI a 255))
      have hb := Below.setCell (p := ⟨b6, k, none⟩) HB.out (by show _ ≤ b6; omega) (.int .i64 (bitI a 255))
      clear HA HR HD HB
      generalize World.setCell _ _ _ = w2' at *
      have HA := Lib.hid ha
      have HR := Lib.hid hr
      have HD := Lib.hid hd
      have HB := Lib.hid hb
      clear ha hr hd hb
      by_cases hc : k + n < 256
      · have HT := Lib.hid (ht1 hc)
        clear ht1 ht2
        go_wp2_with (refine wpList_load_row rfl 39 _ rfl _ rfl 39 (da a) (0, 0) _ HA.out Tryz.underlying39 rfl (infoArr _) ?_)
        refine (bit_ref a _ _).mono ?_
        rintro e w1' ⟨rfl, b1⟩
        have ha := stay b1 HA.out
        have hr := stay b1 HR.out
        have hd := stay b1 HD.out
        have hb := HB.out.trans (b1.mono HB.out.size)
        have c2 := blk_cell (j := k) (v := .int .i64 (bitI a 255)) hd (by rw [Array.getElem?_setIfInBounds_self_of_lt (by rw [arr_size]; exact hlt)])
        have c3 := blk_frozen (j := k) hd
        clear HA HR HD HB b1
        have HA := Lib.hid ha
        have HR := Lib.hid hr
        have HD := Lib.hid hd
        have HB := Lib.hid hb
        clear ha hr hd hb
        rw [HT.out]
        go_wp2_with fail
        refine ⟨⟨k + 1, by omega, by go_num, HB.out.setCell (by show _ ≤ b6; omega) _, blk_other HA.out (by omega) _, blk_other HR.out (by omega) _, ?_⟩, by simp [intOf]; omega⟩
        rw [← fillB_step (fun j => ((bitN t j : Nat) : Int)) k hlt _ rfl]
        have := blk_set (j := k) HD.out (.int .i64 ((bitN t k : Nat) : Int))
        rw [Array.setIfInBounds_setIfInBounds] at this
        exact this
      · have HT := Lib.hid (ht2 (by omega))
        clear ht1 ht2
        go_wp2_with fail
        refine ⟨⟨k + 1, by omega, by go_num, HB.out, HA.out, HR.out, ?_⟩, by simp [intOf]; omega⟩
        rw [← fillB_step (fun j => ((bitN t j : Nat) : Int)) k hlt _ rfl, ← HT.out]
        exact HD.out
    · obtain rfl : k = 256 := by omega
      rw [fillB_end] at hd
      have HB := Lib.hid hb
      clear hb ha
      go_wp2_with (refine wpList_load_row rfl 61 _ rfl _ rfl 61 (ba t) (0, 0) _ hd Tryz.underlying61 rfl (infoArrB _) ?_)
      refine (bits_ref t _).mono ?_
      rintro e w1 ⟨rfl, b1⟩
      have hr1 := stay b1 hr
      have hb1 := HB.out.trans (b1.mono HB.out.size)
      clear hr HB b1
      go_wp2_with fail
      refine (word_ref t _).mono ?_
      rintro e w2 ⟨rfl, b1⟩
      have hr := stay b1 hr1
      have hb := hb1.trans (b1.mono hb1.size)
      clear hr1 hb1 b1
      go_wp2_with (refine wpList_store_row rfl 24 (.tmp 4) _ rfl _ _ (wa t) rfl rfl hr Tryz.infoWa rfl wa_one ?_)
      have e4 := word_cells (blk_row (c' := wa t) hr)
      exact bodyPost_ret (v := wd t) (by simp [results, Tryz.results23, go_sem, e4, fold_wa]) rfl ⟨rfl, below_setRow hb (by omega) _⟩
end Go.Proofs.YtdpbjdecbilaeaaGreat
/- What the document's Extend and Sar return, in numbers; all older memory is as it was. -/
namespace Go.Proofs.YtdpbjdecbilaeaaGreat
open Go.RowKit SmWord
set_option maxRecDepth 100000

/-- The bytes ahead of place k behind place v are F. -/
def fillE (a v k : Nat) (F : Int) : Array Value := arr .i64 32 (fun j => if v < j ∧ j < k then F else ((dig a j : Nat) : Int))
theorem fillE_start (a v : Nat) (F : Int) : fillE a v (v + 1) F = da a := arr_congr fun i _ => by rw [if_neg (by omega)]
theorem fillE_step (a v k : Nat) (F : Int) (hk : k < 32) (hv : v < k) : (fillE a v k F).setIfInBounds k (.int .i64 F) = fillE a v (k + 1) F := by
  unfold fillE
  rw [arr_set _ _ _ hk]
  refine arr_congr fun i _ => ?_
  by_cases h : i = k
  · rw [if_pos h, if_pos (by omega)]
  · rw [if_neg h]
    by_cases h2 : v < i ∧ i < k
    · rw [if_pos h2, if_pos (by omega)]
    · rw [if_neg h2, if_neg (by omega)]

set_option maxHeartbeats 1000000 in
theorem rext_plain0 (n a : Nat) (w : World) (h1 : (((l1 n : Nat) : Int) != 0) = true) :
    Calls Tryz.prog 59 #[wd n, wd a] w fun e w' => e = .returned (wd a) ∧ Below w.heap.size w w' := by
  have hz := z4_wa
  have hsz := wa_size
  go_enter Tryz.func59, Tryz.ntmps59
  go_upto_region 1 with fail
  have f2 : (((w.alloc (.cells (wa n) 24)).alloc (.cells (wa a) 24)).alloc (.cells (wa 0) 24)).heap[w.heap.size]? = some (.cells (wa n) 24) := blk_alloc (blk_alloc (blk_new _ rfl))
  have f3 : (((w.alloc (.cells (wa n) 24)).alloc (.cells (wa a) 24)).alloc (.cells (wa 0) 24)).heap[w.heap.size + 1]? = some (.cells (wa a) 24) := blk_alloc (blk_new _ (by simp))
  have f4 : (((w.alloc (.cells (wa n) 24)).alloc (.cells (wa a) 24)).alloc (.cells (wa 0) 24)).heap[w.heap.size + 1 + 1]? = some (.cells (wa 0) 24) := blk_new _ (by simp)
  have bW : Below w.heap.size w (((w.alloc (.cells (wa n) 24)).alloc (.cells (wa a) 24)).alloc (.cells (wa 0) 24)) := ((((Below.refl _ _).alloc (Nat.le_refl _) _).alloc (by simp <;> omega) _).alloc (by simp <;> omega) _)
  have sW : w.heap.size + 3 ≤ (((w.alloc (.cells (wa n) 24)).alloc (.cells (wa a) 24)).alloc (.cells (wa 0) 24)).heap.size := by simp
  generalize (((w.alloc (.cells (wa n) 24)).alloc (.cells (wa a) 24)).alloc (.cells (wa 0) 24)) = W at *
  obtain ⟨c0, c1, c2, c3⟩ := word_cells f2
  go_wp2_with (first | (refine wpList_load_row rfl 24 _ rfl _ rfl 24 _ (0, 0) _ (by assumption) Tryz.underlying24 rfl Tryz.infoWa ?_) | (refine wpList_store_row rfl 24 (.tmp 4) _ rfl _ _ (wa a) rfl rfl f4 Tryz.infoWa rfl wa_one ?_))
  have e2 := word_cells (blk_row (c' := wa a) f4)
  exact bodyPost_ret (v := wd a) (by simp [results, Tryz.results59, go_sem, e2, fold_wa]) rfl ⟨rfl, below_setRow bW (by omega) _⟩

set_option maxHeartbeats 1000000 in
theorem rext_plain1 (n a : Nat) (w : World) (h1 : (((l1 n : Nat) : Int) != 0) = false) (h2 : (((l2 n : Nat) : Int) != 0) = true) :
    Calls Tryz.prog 59 #[wd n, wd a] w fun e w' => e = .returned (wd a) ∧ Below w.heap.size w w' := by
  have hz := z4_wa
  have hsz := wa_size
  go_enter Tryz.func59, Tryz.ntmps59
  go_upto_region 1 with fail
  have f2 : (((w.alloc (.cells (wa n) 24)).alloc (.cells (wa a) 24)).alloc (.cells (wa 0) 24)).heap[w.heap.size]? = some (.cells (wa n) 24) := blk_alloc (blk_alloc (blk_new _ rfl))
  have f3 : (((w.alloc (.cells (wa n) 24)).alloc (.cells (wa a) 24)).alloc (.cells (wa 0) 24)).heap[w.heap.size + 1]? = some (.cells (wa a) 24) := blk_alloc (blk_new _ (by simp))
  have f4 : (((w.alloc (.cells (wa n) 24)).alloc (.cells (wa a) 24)).alloc (.cells (wa 0) 24)).heap[w.heap.size + 1 + 1]? = some (.cells (wa 0) 24) := blk_new _ (by simp)
  have bW : Below w.heap.size w (((w.alloc (.cells (wa n) 24)).alloc (.cells (wa a) 24)).alloc (.cells (wa 0) 24)) := ((((Below.refl _ _).alloc (Nat.le_refl _) _).alloc (by simp <;> omega) _).alloc (by simp <;> omega) _)
  have sW : w.heap.size + 3 ≤ (((w.alloc (.cells (wa n) 24)).alloc (.cells (wa a) 24)).alloc (.cells (wa 0) 24)).heap.size := by simp
  generalize (((w.alloc (.cells (wa n) 24)).alloc (.cells (wa a) 24)).alloc (.cells (wa 0) 24)) = W at *
  obtain ⟨c0, c1, c2, c3⟩ := word_cells f2
  go_wp2_with (first | (refine wpList_load_row rfl 24 _ rfl _ rfl 24 _ (0, 0) _ (by assumption) Tryz.underlying24 rfl Tryz.infoWa ?_) | (refine wpList_store_row rfl 24 (.tmp 4) _ rfl _ _ (wa a) rfl rfl f4 Tryz.infoWa rfl wa_one ?_))
  have e2 := word_cells (blk_row (c' := wa a) f4)
  exact bodyPost_ret (v := wd a) (by simp [results, Tryz.results59, go_sem, e2, fold_wa]) rfl ⟨rfl, below_setRow bW (by omega) _⟩

set_option maxHeartbeats 1000000 in
theorem rext_plain2 (n a : Nat) (w : World) (h1 : (((l1 n : Nat) : Int) != 0) = false) (h2 : (((l2 n : Nat) : Int) != 0) = false) (h3 : (((l3 n : Nat) : Int) != 0) = true) :
    Calls Tryz.prog 59 #[wd n, wd a] w fun e w' => e = .returned (wd a) ∧ Below w.heap.size w w' := by
  have hz := z4_wa
  have hsz := wa_size
  go_enter Tryz.func59, Tryz.ntmps59
  go_upto_region 1 with fail
  have f2 : (((w.alloc (.cells (wa n) 24)).alloc (.cells (wa a) 24)).alloc (.cells (wa 0) 24)).heap[w.heap.size]? = some (.cells (wa n) 24) := blk_alloc (blk_alloc (blk_new _ rfl))
  have f3 : (((w.alloc (.cells (wa n) 24)).alloc (.cells (wa a) 24)).alloc (.cells (wa 0) 24)).heap[w.heap.size + 1]? = some (.cells (wa a) 24) := blk_alloc (blk_new _ (by simp))
  have f4 : (((w.alloc (.cells (wa n) 24)).alloc (.cells (wa a) 24)).alloc (.cells (wa 0) 24)).heap[w.heap.size + 1 + 1]? = some (.cells (wa 0) 24) := blk_new _ (by simp)
  have bW : Below w.heap.size w (((w.alloc (.cells (wa n) 24)).alloc (.cells (wa a) 24)).alloc (.cells (wa 0) 24)) := ((((Below.refl _ _).alloc (Nat.le_refl _) _).alloc (by simp <;> omega) _).alloc (by simp <;> omega) _)
  have sW : w.heap.size + 3 ≤ (((w.alloc (.cells (wa n) 24)).alloc (.cells (wa a) 24)).alloc (.cells (wa 0) 24)).heap.size := by simp
  generalize (((w.alloc (.cells (wa n) 24)).alloc (.cells (wa a) 24)).alloc (.cells (wa 0) 24)) = W at *
  obtain ⟨c0, c1, c2, c3⟩ := word_cells f2
  go_wp2_with (first | (refine wpList_load_row rfl 24 _ rfl _ rfl 24 _ (0, 0) _ (by assumption) Tryz.underlying24 rfl Tryz.infoWa ?_) | (refine wpList_store_row rfl 24 (.tmp 4) _ rfl _ _ (wa a) rfl rfl f4 Tryz.infoWa rfl wa_one ?_))
  have e2 := word_cells (blk_row (c' := wa a) f4)
  exact bodyPost_ret (v := wd a) (by simp [results, Tryz.results59, go_sem, e2, fold_wa]) rfl ⟨rfl, below_setRow bW (by omega) _⟩

set_option maxHeartbeats 1000000 in
theorem rext_plain3 (n a : Nat) (w : World) (h1 : (((l1 n : Nat) : Int) != 0) = false) (h2 : (((l2 n : Nat) : Int) != 0) = false) (h3 : (((l3 n : Nat) : Int) != 0) = false) (h0 : (30 : Int) < ((l0 n : Nat) : Int)) :
    Calls Tryz.prog 59 #[wd n, wd a] w fun e w' => e = .returned (wd a) ∧ Below w.heap.size w w' := by
  have hz := z4_wa
  have hsz := wa_size
  go_enter Tryz.func59, Tryz.ntmps59
  go_upto_region 1 with fail
  have f2 : (((w.alloc (.cells (wa n) 24)).alloc (.cells (wa a) 24)).alloc (.cells (wa 0) 24)).heap[w.heap.size]? = some (.cells (wa n) 24) := blk_alloc (blk_alloc (blk_new _ rfl))
  have f3 : (((w.alloc (.cells (wa n) 24)).alloc (.cells (wa a) 24)).alloc (.cells (wa 0) 24)).heap[w.heap.size + 1]? = some (.cells (wa a) 24) := blk_alloc (blk_new _ (by simp))
  have f4 : (((w.alloc (.cells (wa n) 24)).alloc (.cells (wa a) 24)).alloc (.cells (wa 0) 24)).heap[w.heap.size + 1 + 1]? = some (.cells (wa 0) 24) := blk_new _ (by simp)
  have bW : Below w.heap.size w (((w.alloc (.cells (wa n) 24)).alloc (.cells (wa a) 24)).alloc (.cells (wa 0) 24)) := ((((Below.refl _ _).alloc (Nat.le_refl _) _).alloc (by simp <;> omega) _).alloc (by simp <;> omega) _)
  have sW : w.heap.size + 3 ≤ (((w.alloc (.cells (wa n) 24)).alloc (.cells (wa a) 24)).alloc (.cells (wa 0) 24)).heap.size := by simp
  generalize (((w.alloc (.cells (wa n) 24)).alloc (.cells (wa a) 24)).alloc (.cells (wa 0) 24)) = W at *
  obtain ⟨c0, c1, c2, c3⟩ := word_cells f2
  go_wp2_with (first | (refine wpList_load_row rfl 24 _ rfl _ rfl 24 _ (0, 0) _ (by assumption) Tryz.underlying24 rfl Tryz.infoWa ?_) | (refine wpList_store_row rfl 24 (.tmp 4) _ rfl _ _ (wa a) rfl rfl f4 Tryz.infoWa rfl wa_one ?_))
  have e2 := word_cells (blk_row (c' := wa a) f4)
  exact bodyPost_ret (v := wd a) (by simp [results, Tryz.results59, go_sem, e2, fold_wa]) rfl ⟨rfl, below_setRow bW (by omega) _⟩

set_option maxHeartbeats 2000000 in
theorem rext_walk0 (n a v t : Nat) (w : World) (hv : v ≤ 30) (hl : Hid (l0 n = v)) (h1 : (((l1 n : Nat) : Int) != 0) = false) (h2 : (((l2 n : Nat) : Int) != 0) = false) (h3 : (((l3 n : Nat) : Int) != 0) = false) (hd : Hid (((dig a v : Nat) : Int) < 128)) (hT : Hid (fillE a v 32 0 = da t)) :
    Calls Tryz.prog 59 #[wd n, wd a] w fun e w' => e = .returned (wd t) ∧ Below w.heap.size w w' := by
  have hz := z4_wa
  have hsz := wa_size
  have hds : (da a).size = 32 := arr_size _ _ _
  go_enter Tryz.func59, Tryz.ntmps59
  go_upto_region 1 with fail
  have f2 : (((w.alloc (.cells (wa n) 24)).alloc (.cells (wa a) 24)).alloc (.cells (wa 0) 24)).heap[w.heap.size]? = some (.cells (wa n) 24) := blk_alloc (blk_alloc (blk_new _ rfl))
  have f3 : (((w.alloc (.cells (wa n) 24)).alloc (.cells (wa a) 24)).alloc (.cells (wa 0) 24)).heap[w.heap.size + 1]? = some (.cells (wa a) 24) := blk_alloc (blk_new _ (by simp))
  have f4 : (((w.alloc (.cells (wa n) 24)).alloc (.cells (wa a) 24)).alloc (.cells (wa 0) 24)).heap[w.heap.size + 1 + 1]? = some (.cells (wa 0) 24) := blk_new _ (by simp)
  have bW : Below w.heap.size w (((w.alloc (.cells (wa n) 24)).alloc (.cells (wa a) 24)).alloc (.cells (wa 0) 24)) := ((((Below.refl _ _).alloc (Nat.le_refl _) _).alloc (by simp <;> omega) _).alloc (by simp <;> omega) _)
  have sW : w.heap.size + 3 ≤ (((w.alloc (.cells (wa n) 24)).alloc (.cells (wa a) 24)).alloc (.cells (wa 0) 24)).heap.size := by simp
  generalize (((w.alloc (.cells (wa n) 24)).alloc (.cells (wa a) 24)).alloc (.cells (wa 0) 24)) = W at *
  clear hz
  obtain ⟨c0, c1, c2, c3⟩ := word_cells f2
  rw [hl.out] at c0
  go_wp2_with (refine wpList_load_row rfl 24 _ rfl _ rfl 24 _ (0, 0) _ (by assumption) Tryz.underlying24 rfl Tryz.infoWa ?_)
  clear c0 c1 c2 c3
  refine (of_ref a _).mono ?_
  rintro e w1 ⟨rfl, b1⟩
  replace f2 := Below.stays b1 f2
  replace f3 := Below.stays b1 f3
  replace f4 := Below.stays b1 f4
  replace bW := bW.trans (b1.mono bW.size)
  replace sW := Nat.le_trans sW b1.size
  clear b1
  go_upto_region 4 with (first | (refine wpList_alloc_row rfl 39 rfl zD zD_run ?_) | (refine wpList_store_row rfl 39 (.tmp 5) _ rfl _ zD (da a) rfl rfl (heap_alloc_new _ _) (infoArr _) rfl (arr_one _ _ _) ?_))
  simp only [Act.put, List.setIfInBounds_toArray, List.set_cons_succ, List.set_cons_zero]
  rw [World.setRow_alloc_new]
  replace f2 := blk_alloc (o' := .cells (da a) 39) f2
  replace f3 := blk_alloc (o' := .cells (da a) 39) f3
  replace f4 := blk_alloc (o' := .cells (da a) 39) f4
  have f5 : (w1.alloc (.cells (da a) 39)).heap[w1.heap.size]? = some (.cells (da a) 39) := heap_alloc_new _ _
  replace bW : Below w.heap.size w (w1.alloc (.cells (da a) 39)) := bW.alloc (by omega) _
  have sb5 : w1.heap.size + 1 ≤ (w1.alloc (.cells (da a) 39)).heap.size := by simp
  generalize (w1.alloc (.cells (da a) 39)) = w2 at *
  generalize w1.heap.size = b5 at *
  have lb5 := sW
  replace sW := Nat.le_trans (Nat.le_succ_of_le sW) sb5
  have c0 := (word_cells f2).1
  rw [hl.out] at c0
  have c5 := blk_cell f5 (arr_get .i64 (fun i => ((dig a i : Nat) : Int)) (show v < 32 by omega))
  have hd5 := hd.out
  go_wp2_with fail
  clear c0 c5 hd5
  go_loopw [7] (fun i wr => ∃ k : Nat, v < k ∧ k ≤ 32 ∧ i = .int .i64 k ∧ Below w.heap.size w wr ∧ wr.heap[w.heap.size + 1 + 1]? = some (.cells (wa 0) 24) ∧ wr.heap[b5]? = some (.cells (fillE a v k 0) 39)) (fun i _ => 32 - (intOf i).toNat)
  case atStart => exact ⟨v + 1, by omega, by omega, by first | rfl | go_num, bW, f4, by rw [fillE_start]; exact f5⟩
  case round =>
    obtain ⟨k, hvk, hk, rfl, hb, hr, hd5⟩ := hrel
    clear f2 f3 f4 f5 bW
    have HR := Lib.hid hr
    have HD := Lib.hid hd5
    have HB := Lib.hid hb
    clear hr hd5 hb
    by_cases hlt : k < 32
    · have c2 := blk_cell HD.out (arr_get .i64 _ hlt)
      have c3 := blk_frozen (j := k) HD.out
      go_wp2_with fail
      refine ⟨⟨k + 1, by omega, by omega, by go_num, HB.out.setCell (by show _ ≤ b5; omega) _, blk_other HR.out (by omega) _, ?_⟩, by simp [intOf]; omega⟩
      rw [← fillE_step a v k _ hlt hvk]
      exact blk_set HD.out _
    · obtain rfl : k = 32 := by omega
      have hd := HD.out
      rw [hT.out] at hd
      clear HD
      go_wp2_with (refine wpList_load_row rfl 39 _ rfl _ rfl 39 (da t) (0, 0) _ hd Tryz.underlying39 rfl (infoArr _) ?_)
      refine (word_ref t _).mono ?_
      rintro e w2 ⟨rfl, b1⟩
      have hr := stay b1 HR.out
      have hb := HB.out.trans (b1.mono HB.out.size)
      clear HR HB b1
      go_wp2_with (refine wpList_store_row rfl 24 (.tmp 4) _ rfl _ _ (wa t) rfl rfl hr Tryz.infoWa rfl wa_one ?_)
      have e4 := word_cells (blk_row (c' := wa t) hr)
      exact bodyPost_ret (v := wd t) (by simp [results, Tryz.results59, go_sem, e4, fold_wa]) rfl ⟨rfl, below_setRow hb (by omega) _⟩

set_option maxHeartbeats 2000000 in
theorem rext_walk255 (n a v t : Nat) (w : World) (hv : v ≤ 30) (hl : Hid (l0 n = v)) (h1 : (((l1 n : Nat) : Int) != 0) = false) (h2 : (((l2 n : Nat) : Int) != 0) = false) (h3 : (((l3 n : Nat) : Int) != 0) = false) (hd : Hid ((128 : Int) ≤ ((dig a v : Nat) : Int))) (hT : Hid (fillE a v 32 255 = da t)) :
    Calls Tryz.prog 59 #[wd n, wd a] w fun e w' => e = .returned (wd t) ∧ Below w.heap.size w w' := by
  have hz := z4_wa
  have hsz := wa_size
  have hds : (da a).size = 32 := arr_size _ _ _
  go_enter Tryz.func59, Tryz.ntmps59
  go_upto_region 1 with fail
  have f2 : (((w.alloc (.cells (wa n) 24)).alloc (.cells (wa a) 24)).alloc (.cells (wa 0) 24)).heap[w.heap.size]? = some (.cells (wa n) 24) := blk_alloc (blk_alloc (blk_new _ rfl))
  have f3 : (((w.alloc (.cells (wa n) 24)).alloc (.cells (wa a) 24)).alloc (.cells (wa 0) 24)).heap[w.heap.size + 1]? = some (.cells (wa a) 24) := blk_alloc (blk_new _ (by simp))
  have f4 : (((w.alloc (.cells (wa n) 24)).alloc (.cells (wa a) 24)).alloc (.cells (wa 0) 24)).heap[w.heap.size + 1 + 1]? = some (.cells (wa 0) 24) := blk_new _ (by simp)
  have bW : Below w.heap.size w (((w.alloc (.cells (wa n) 24)).alloc (.cells (wa a) 24)).alloc (.cells (wa 0) 24)) := ((((Below.refl _ _).alloc (Nat.le_refl _) _).alloc (by simp <;> omega) _).alloc (by simp <;> omega) _)
  have sW : w.heap.size + 3 ≤ (((w.alloc (.cells (wa n) 24)).alloc (.cells (wa a) 24)).alloc (.cells (wa 0) 24)).heap.size := by simp
  generalize (((w.alloc (.cells (wa n) 24)).alloc (.cells (wa a) 24)).alloc (.cells (wa 0) 24)) = W at *
  clear hz
  obtain ⟨c0, c1, c2, c3⟩ := word_cells f2
  rw [hl.out] at c0
  go_wp2_with (refine wpList_load_row rfl 24 _ rfl _ rfl 24 _ (0, 0) _ (by assumption) Tryz.underlying24 rfl Tryz.infoWa ?_)
  clear c0 c1 c2 c3
  refine (of_ref a _).mono ?_
  rintro e w1 ⟨rfl, b1⟩
  replace f2 := Below.stays b1 f2
  replace f3 := Below.stays b1 f3
  replace f4 := Below.stays b1 f4
  replace bW := bW.trans (b1.mono bW.size)
  replace sW := Nat.le_trans sW b1.size
  clear b1
  go_upto_region 4 with (first | (refine wpList_alloc_row rfl 39 rfl zD zD_run ?_) | (refine wpList_store_row rfl 39 (.tmp 5) _ rfl _ zD (da a) rfl rfl (heap_alloc_new _ _) (infoArr _) rfl (arr_one _ _ _) ?_))
  simp only [Act.put, List.setIfInBounds_toArray, List.set_cons_succ, List.set_cons_zero]
  rw [World.setRow_alloc_new]
  replace f2 := blk_alloc (o' := .cells (da a) 39) f2
  replace f3 := blk_alloc (o' := .cells (da a) 39) f3
  replace f4 := blk_alloc (o' := .cells (da a) 39) f4
  have f5 : (w1.alloc (.cells (da a) 39)).heap[w1.heap.size]? = some (.cells (da a) 39) := heap_alloc_new _ _
  replace bW : Below w.heap.size w (w1.alloc (.cells (da a) 39)) := bW.alloc (by omega) _
  have sb5 : w1.heap.size + 1 ≤ (w1.alloc (.cells (da a) 39)).heap.size := by simp
  generalize (w1.alloc (.cells (da a) 39)) = w2 at *
  generalize w1.heap.size = b5 at *
  have lb5 := sW
  replace sW := Nat.le_trans (Nat.le_succ_of_le sW) sb5
  have c0 := (word_cells f2).1
  rw [hl.out] at c0
  have c5 := blk_cell f5 (arr_get .i64 (fun i => ((dig a i : Nat) : Int)) (show v < 32 by omega))
  have hd5 := hd.out
  go_wp2_with fail
  clear c0 c5 hd5
  go_loopw [7] (fun i wr => ∃ k : Nat, v < k ∧ k ≤ 32 ∧ i = .int .i64 k ∧ Below w.heap.size w wr ∧ wr.heap[w.heap.size + 1 + 1]? = some (.cells (wa 0) 24) ∧ wr.heap[b5]? = some (.cells (fillE a v k 255) 39)) (fun i _ => 32 - (intOf i).toNat)
  case atStart => exact ⟨v + 1, by omega, by omega, by first | rfl | go_num, bW, f4, by rw [fillE_start]; exact f5⟩
  case round =>
    obtain ⟨k, hvk, hk, rfl, hb, hr, hd5⟩ := hrel
    clear f2 f3 f4 f5 bW
    have HR := Lib.hid hr
    have HD := Lib.hid hd5
    have HB := Lib.hid hb
    clear hr hd5 hb
    by_cases hlt : k < 32
    · have c2 := blk_cell HD.out (arr_get .i64 _ hlt)
      have c3 := blk_frozen (j := k) HD.out
      go_wp2_with fail
      refine ⟨⟨k + 1, by omega, by omega, by go_num, HB.out.setCell (by show _ ≤ b5; omega) _, blk_other HR.out (by omega) _, ?_⟩, by simp [intOf]; omega⟩
      rw [← fillE_step a v k _ hlt hvk]
      exact blk_set HD.out _
    · obtain rfl : k = 32 := by omega
      have hd := HD.out
      rw [hT.out] at hd
      clear HD
      go_wp2_with (refine wpList_load_row rfl 39 _ rfl _ rfl 39 (da t) (0, 0) _ hd Tryz.underlying39 rfl (infoArr _) ?_)
      refine (word_ref t _).mono ?_
      rintro e w2 ⟨rfl, b1⟩
      have hr := stay b1 HR.out
      have hb := HB.out.trans (b1.mono HB.out.size)
      clear HR HB b1
      go_wp2_with (refine wpList_store_row rfl 24 (.tmp 4) _ rfl _ _ (wa t) rfl rfl hr Tryz.infoWa rfl wa_one ?_)
      have e4 := word_cells (blk_row (c' := wa t) hr)
      exact bodyPost_ret (v := wd t) (by simp [results, Tryz.results59, go_sem, e4, fold_wa]) rfl ⟨rfl, below_setRow hb (by omega) _⟩
theorem small_cases (a : Nat) : (smallB a = true ∧ l1 a = 0 ∧ l2 a = 0 ∧ l3 a = 0) ∨ (smallB a = false ∧ (l1 a ≠ 0 ∨ (l1 a = 0 ∧ l2 a ≠ 0) ∨ (l1 a = 0 ∧ l2 a = 0 ∧ l3 a ≠ 0))) := by
  obtain ⟨A0, A1, A2, A3⟩ := l_lt a
  have e0 : l0 a % M = l0 a := Nat.mod_eq_of_lt (Nat.lt_trans A0 (by decide))
  have e1 := num_parts a
  unfold smallB
  rw [e0, ← e1, decide_eq_true_iff, decide_eq_false_iff_not]
  unfold num
  generalize l0 a = x at *
  generalize l1 a = y at *
  generalize l2 a = z at *
  generalize l3 a = u at *
  simp only [B] at *
  omega
theorem rext_wd (n a : Nat) (w : World) : Calls Tryz.prog 59 #[wd n, wd a] w fun e w' => e = .returned (wd (exn n a)) ∧ Below w.heap.size w w' := by
  have hf : ∀ x : Nat, x ≠ 0 → ((x : Int) != 0) = true := fun x hx => by simp [hx]
  have hg : ∀ x : Nat, x = 0 → ((x : Int) != 0) = false := fun x hx => by simp [hx]
  unfold exn
  rcases small_cases n with ⟨hs, h1, h2, h3⟩ | ⟨hs, h1 | ⟨h1, h2⟩ | ⟨h1, h2, h3⟩⟩
  · by_cases hv : l0 n ≤ 30
    · rw [if_pos ⟨hs, hv⟩]
      have key : ∀ j, j < 32 → ((dig (ext (l0 n) a) j : Nat) : Int) = if j ≤ l0 n then ((dig a j : Nat) : Int) else if 128 ≤ dig a (l0 n) then 255 else 0 := fun j hj => by
        rw [ext_dig _ _ _ hv hj]
        split
        · rfl
        · split <;> rfl
      by_cases hd : 128 ≤ dig a (l0 n)
      · refine rext_walk255 n a _ _ w hv (Lib.hid rfl) (hg _ h1) (hg _ h2) (hg _ h3) (Lib.hid (by omega)) (Lib.hid (arr_congr fun j hj => ?_))
        rw [key j hj, if_pos hd]
        by_cases hh : j ≤ l0 n
        · rw [if_pos hh, if_neg (by omega)]
        · rw [if_neg hh, if_pos (by omega)]
      · refine rext_walk0 n a _ _ w hv (Lib.hid rfl) (hg _ h1) (hg _ h2) (hg _ h3) (Lib.hid (by omega)) (Lib.hid (arr_congr fun j hj => ?_))
        rw [key j hj, if_neg hd]
        by_cases hh : j ≤ l0 n
        · rw [if_pos hh, if_neg (by omega)]
        · rw [if_neg hh, if_pos (by omega)]
    · rw [if_neg (fun h => hv h.2)]
      exact rext_plain3 n a w (hg _ h1) (hg _ h2) (hg _ h3) (by omega)
  · rw [if_neg (fun h => by rw [hs] at h; exact Bool.false_ne_true h.1)]
    exact rext_plain0 n a w (hf _ h1)
  · rw [if_neg (fun h => by rw [hs] at h; exact Bool.false_ne_true h.1)]
    exact rext_plain1 n a w (hg _ h1) (hf _ h2)
  · rw [if_neg (fun h => by rw [hs] at h; exact Bool.false_ne_true h.1)]
    exact rext_plain2 n a w (hg _ h1) (hg _ h2) (hf _ h3)
theorem rsar_wd (a n k : Nat) (hk : k = min n 300) (w : World) : Calls Tryz.prog 23 #[wd a, .int .i64 (k : Int)] w fun e w' => e = .returned (wd (sar a n)) ∧ Below w.heap.size w w' := by
  have hI : ∀ j : Nat, j < 256 → bitI a (j : Int) = ((bitN a j : Nat) : Int) := fun j hj => by
    unfold bitI
    rw [if_neg (by omega), Int.toNat_natCast]
  refine rsar_walk a k _ w (by omega) (Lib.hid fun i hi => ⟨fun h => ?_, fun h => ?_⟩)
  · rw [sar_bits a n k i hk hi, if_pos h, ← hI _ h]
    rfl
  · rw [sar_bits a n k i hk hi, if_neg (by omega), ← hI 255 (by omega)]
    rfl
end Go.Proofs.YtdpbjdecbilaeaaGreat
/- What the document's quotient with signs returns, in numbers; all older memory is as it was. -/
namespace Go.Proofs.YtdpbjdecbilaeaaGreat
open Go.RowKit SmWord
set_option maxRecDepth 100000

set_option maxHeartbeats 4000000 in
theorem rsdiv_walk00 (a b x y qq rr : Nat) (w : World) (hq : Hid (x % M / (y % M) = qq)) (hr : Hid (rs (x % M) (y % M) = rr)) (H1 : Hid (∀ w : World, Calls Tryz.prog 89 #[wd a] w fun e w' => e = .returned (wd x) ∧ Below w.heap.size w w')) (H2 : Hid (∀ w : World, Calls Tryz.prog 89 #[wd b] w fun e w' => e = .returned (wd y) ∧ Below w.heap.size w w')) (H4 : Hid (∀ w : World, Calls Tryz.prog 90 #[wd a] w fun e w' => e = .returned (.bool false) ∧ Below w.heap.size w w')) (H5 : Hid (∀ w : World, Calls Tryz.prog 90 #[wd b] w fun e w' => e = .returned (.bool false) ∧ Below w.heap.size w w')) :
    Calls Tryz.prog 55 #[wd a, wd b] w fun e w' => e = .returned (.tuple #[wd qq, wd rr]) ∧ Below w.heap.size w w' := by
  have hz := z4_wa
  have hsz := wa_size
  go_enter Tryz.func55, Tryz.ntmps55
  go_upto_region 1 with fail
  have f2 : ((((w.alloc (.cells (wa a) 24)).alloc (.cells (wa b) 24)).alloc (.cells (wa 0) 24)).alloc (.cells (wa 0) 24)).heap[w.heap.size]? = some (.cells (wa a) 24) := blk_alloc (blk_alloc (blk_alloc (blk_new _ rfl)))
  have f3 : ((((w.alloc (.cells (wa a) 24)).alloc (.cells (wa b) 24)).alloc (.cells (wa 0) 24)).alloc (.cells (wa 0) 24)).heap[w.heap.size + 1]? = some (.cells (wa b) 24) := blk_alloc (blk_alloc (blk_new _ (by simp)))
  have f4 : ((((w.alloc (.cells (wa a) 24)).alloc (.cells (wa b) 24)).alloc (.cells (wa 0) 24)).alloc (.cells (wa 0) 24)).heap[w.heap.size + 1 + 1]? = some (.cells (wa 0) 24) := blk_alloc (blk_new _ (by simp))
  have f5 : ((((w.alloc (.cells (wa a) 24)).alloc (.cells (wa b) 24)).alloc (.cells (wa 0) 24)).alloc (.cells (wa 0) 24)).heap[w.heap.size + 1 + 1 + 1]? = some (.cells (wa 0) 24) := blk_new _ (by simp)
  have bW : Below w.heap.size w ((((w.alloc (.cells (wa a) 24)).alloc (.cells (wa b) 24)).alloc (.cells (wa 0) 24)).alloc (.cells (wa 0) 24)) := (((((Below.refl _ _).alloc (Nat.le_refl _) _).alloc (by simp <;> omega) _).alloc (by simp <;> omega) _).alloc (by simp <;> omega) _)
  have sW : w.heap.size + 4 ≤ ((((w.alloc (.cells (wa a) 24)).alloc (.cells (wa b) 24)).alloc (.cells (wa 0) 24)).alloc (.cells (wa 0) 24)).heap.size := by simp
  generalize ((((w.alloc (.cells (wa a) 24)).alloc (.cells (wa b) 24)).alloc (.cells (wa 0) 24)).alloc (.cells (wa 0) 24)) = W at *
  go_cut [6, 7] (fun s6 s7 wx => NumS wx s6 32 qq ∧ (∃ kr, NumS wx s7 kr rr) ∧ wx.heap[w.heap.size]? = some (.cells (wa a) 24) ∧ wx.heap[w.heap.size + 1]? = some (.cells (wa b) 24) ∧ wx.heap[w.heap.size + 1 + 1]? = some (.cells (wa 0) 24) ∧ wx.heap[w.heap.size + 1 + 1 + 1]? = some (.cells (wa 0) 24) ∧ Below w.heap.size w wx ∧ w.heap.size + 4 ≤ wx.heap.size)
  case first =>
    have fo := fold_wa
    have bR := bW.drew
    clear hz
    go_region_held3 (fun w' => (w'.cell? ⟨w.heap.size, 0, none⟩ = some (.int .u64 ((l0 a : Nat) : Int)) ∧ w'.cell? ⟨w.heap.size, 1, none⟩ = some (.int .u64 ((l1 a : Nat) : Int)) ∧ w'.cell? ⟨w.heap.size, 2, none⟩ = some (.int .u64 ((l2 a : Nat) : Int)) ∧ w'.cell? ⟨w.heap.size, 3, none⟩ = some (.int .u64 ((l3 a : Nat) : Int))) ∧ (w'.cell? ⟨w.heap.size + 1, 0, none⟩ = some (.int .u64 ((l0 b : Nat) : Int)) ∧ w'.cell? ⟨w.heap.size + 1, 1, none⟩ = some (.int .u64 ((l1 b : Nat) : Int)) ∧ w'.cell? ⟨w.heap.size + 1, 2, none⟩ = some (.int .u64 ((l2 b : Nat) : Int)) ∧ w'.cell? ⟨w.heap.size + 1, 3, none⟩ = some (.int .u64 ((l3 b : Nat) : Int)))) (exact ⟨word_cells f2, word_cells f3⟩) (first | (go_at_call_of 89 (Value.agg (wa a)); refine (H1.out _).mono ?_; rintro e w' ⟨rfl, hA⟩; replace f2 := Below.stays hA f2; replace f3 := Below.stays hA f3; replace f4 := Below.stays hA f4; replace f5 := Below.stays hA f5; replace bR := bR.trans (hA.mono bR.size); (try replace na := na.stays hA); (try replace nb := nb.stays hA)) | (go_at_call_of 89 (Value.agg (wa b)); refine (H2.out _).mono ?_; rintro e w' ⟨rfl, hB⟩; replace f2 := Below.stays hB f2; replace f3 := Below.stays hB f3; replace f4 := Below.stays hB f4; replace f5 := Below.stays hB f5; replace bR := bR.trans (hB.mono bR.size); (try replace na := na.stays hB); (try replace nb := nb.stays hB)) | (go_at_call_of 49 (wd x); refine (nof_ref x _).mono ?_; rintro e w' ⟨va, rfl, na, hC⟩; replace f2 := Below.stays hC f2; replace f3 := Below.stays hC f3; replace f4 := Below.stays hC f4; replace f5 := Below.stays hC f5; replace bR := bR.trans (hC.mono bR.size); (try replace nb := nb.stays hC)) | (go_at_call_of 49 (wd y); refine (nof_ref y _).mono ?_; rintro e w' ⟨vb, rfl, nb, hD⟩; replace f2 := Below.stays hD f2; replace f3 := Below.stays hD f3; replace f4 := Below.stays hD f4; replace f5 := Below.stays hD f5; replace bR := bR.trans (hD.mono bR.size); (try replace na := na.stays hD)) | (go_at_call 53; refine (rdiv_ref va vb 32 32 (x % M) (y % M) _ na nb ⟨by omega, by omega⟩).mono ?_; rintro e w' ⟨vq, vr, kr, rfl, nq, nr, hE⟩; rw [hq.out] at nq; rw [hr.out] at nr; replace f2 := Below.stays hE f2; replace f3 := Below.stays hE f3; replace f4 := Below.stays hE f4; replace f5 := Below.stays hE f5; replace bR := bR.trans (hE.mono bR.size); (try replace na := na.stays hE)))
    all_goals
      go_wp2_with fail
      go_meet
      exact ⟨nq, ⟨kr, nr⟩, f2, f3, f4, f5, bR, Nat.le_trans (show w.heap.size + 4 ≤ _ from (Array.getElem?_eq_some_iff.1 f5).1) (Nat.le_refl _)⟩
  case rest =>
    clear f2 f3 f4 f5 bW sW
    obtain ⟨nq, ⟨kr, nr⟩, f2, f3, f4, f5, bW, sW⟩ := hcut
    have hs := store_new0
    go_wp2_with fail
    refine (nword_ref _ _ _ _ nq).mono ?_
    rintro e w1 ⟨rfl, b1⟩
    replace nr := nr.stays b1
    replace f2 := Below.stays b1 f2
    replace f3 := Below.stays b1 f3
    replace f4 := Below.stays b1 f4
    replace f5 := Below.stays b1 f5
    replace bW := bW.trans (b1.mono bW.size)
    replace sW := Nat.le_trans sW b1.size
    clear b1
    go_upto_region 3 with fail
    replace nr := nr.stays ((Below.refl _ _).alloc (Nat.le_refl _) (.cells (wa qq) 24))
    replace f2 := blk_alloc (o' := .cells (wa qq) 24) f2
    replace f3 := blk_alloc (o' := .cells (wa qq) 24) f3
    replace f4 := blk_alloc (o' := .cells (wa qq) 24) f4
    replace f5 := blk_alloc (o' := .cells (wa qq) 24) f5
    have f8 : (w1.alloc (.cells (wa qq) 24)).heap[w1.heap.size]? = some (.cells (wa qq) 24) := heap_alloc_new _ _
    replace bW : Below w.heap.size w (w1.alloc (.cells (wa qq) 24)) := bW.alloc (by omega) _
    have sb8 : w1.heap.size + 1 ≤ (w1.alloc (.cells (wa qq) 24)).heap.size := by simp
    generalize (w1.alloc (.cells (wa qq) 24)) = w2 at *
    generalize w1.heap.size = b8 at *
    have lb8 := sW
    replace sW := Nat.le_trans (Nat.le_succ_of_le sW) sb8
    go_wp2_with fail
    refine (nword_ref _ _ _ _ nr).mono ?_
    rintro e w3 ⟨rfl, b1⟩
    clear nr
    replace f2 := Below.stays b1 f2
    replace f3 := Below.stays b1 f3
    replace f4 := Below.stays b1 f4
    replace f5 := Below.stays b1 f5
    replace f8 := Below.stays b1 f8
    replace bW := bW.trans (b1.mono bW.size)
    replace sW := Nat.le_trans sW b1.size
    clear b1
    go_upto_region 4 with fail
    have ub8b9 : b8 + 1 ≤ w3.heap.size := (Array.getElem?_eq_some_iff.1 f8).1
    replace f2 := blk_alloc (o' := .cells (wa rr) 24) f2
    replace f3 := blk_alloc (o' := .cells (wa rr) 24) f3
    replace f4 := blk_alloc (o' := .cells (wa rr) 24) f4
    replace f5 := blk_alloc (o' := .cells (wa rr) 24) f5
    replace f8 := blk_alloc (o' := .cells (wa rr) 24) f8
    have f9 : (w3.alloc (.cells (wa rr) 24)).heap[w3.heap.size]? = some (.cells (wa rr) 24) := heap_alloc_new _ _
    replace bW : Below w.heap.size w (w3.alloc (.cells (wa rr) 24)) := bW.alloc (by omega) _
    have sb9 : w3.heap.size + 1 ≤ (w3.alloc (.cells (wa rr) 24)).heap.size := by simp
    generalize (w3.alloc (.cells (wa rr) 24)) = w4 at *
    generalize w3.heap.size = b9 at *
    have lb9 := sW
    replace sW := Nat.le_trans (Nat.le_succ_of_le sW) sb9
    clear hs hz
    have g2 := fun g : Ext w4 => g.word f2
    have g3 := fun g : Ext w4 => g.word f3
    have fo := fold_wa
    refine region_ext (by kernel_rfl) (by kernel_rfl) ?_
    repeat (go_big_quiet_step ((go_at_call 90; first | with_reducible exact calls_ext (H4.out _) | with_reducible exact calls_ext (H5.out _))))
    refine wpQuiet_nil ?_
    rintro _ ⟨g, rfl⟩
    clear g2 g3 fo
    have b1 := g.below
    replace f2 := Below.stays b1 f2
    replace f3 := Below.stays b1 f3
    replace f4 := Below.stays b1 f4
    replace f5 := Below.stays b1 f5
    replace f8 := Below.stays b1 f8
    replace f9 := Below.stays b1 f9
    replace bW := bW.trans (b1.mono bW.size)
    replace sW := Nat.le_trans sW b1.size
    clear b1
    generalize g.on = w8 at *
    go_wp2_with (refine wpList_load_row rfl 24 _ rfl _ rfl 24 _ (0, 0) _ (by assumption) Tryz.underlying24 rfl Tryz.infoWa ?_)
    refine (H4.out _).mono ?_
    rintro e w11 ⟨rfl, b1⟩
    replace f2 := Below.stays b1 f2
    replace f3 := Below.stays b1 f3
    replace f4 := Below.stays b1 f4
    replace f5 := Below.stays b1 f5
    replace f8 := Below.stays b1 f8
    replace f9 := Below.stays b1 f9
    replace bW := bW.trans (b1.mono bW.size)
    replace sW := Nat.le_trans sW b1.size
    clear b1
    go_wp2_with fail
    have d6 := word_cells f8
    have d7 := word_cells f9
    have fo := fold_wa
    have k1 := store_old (w := w11.drew) (m := qq) f4
    have k2 := store_old (m := rr) (blk_row_other (w := w11.drew) (b := w.heap.size + 1 + 1) (c' := wa qq) f5 (by omega))
    have d8 := word_cells (blk_row_other (w := w11.drew) (b := w.heap.size + 1 + 1) (c' := wa qq) f9 (by omega))
    go_region
    all_goals
      have e4 := word_cells (blk_row_other (b := w.heap.size + 1 + 1 + 1) (c' := wa rr) (blk_row (w := w11.drew) (c' := wa qq) f4) (by omega))
      have e5 := word_cells (blk_row (c' := wa rr) (blk_row_other (w := w11.drew) (b := w.heap.size + 1 + 1) (c' := wa qq) f5 (by omega)))
      clear k1 k2 d6 d7 d8 fo
      go_wp2_with fail
      exact bodyPost_ret (v := .tuple #[wd qq, wd rr]) (by simp [results, Tryz.results55, go_sem, e4, e5, fold_wa]) rfl ⟨rfl, below_setRow (below_setRow bW.drew (by omega) _) (by omega) _⟩

set_option maxHeartbeats 4000000 in
theorem rsdiv_walk01 (a b x y qq rr : Nat) (w : World) (hq : Hid (x % M / (y % M) = qq)) (hr : Hid (rs (x % M) (y % M) = rr)) (H1 : Hid (∀ w : World, Calls Tryz.prog 89 #[wd a] w fun e w' => e = .returned (wd x) ∧ Below w.heap.size w w')) (H2 : Hid (∀ w : World, Calls Tryz.prog 89 #[wd b] w fun e w' => e = .returned (wd y) ∧ Below w.heap.size w w')) (H4 : Hid (∀ w : World, Calls Tryz.prog 90 #[wd a] w fun e w' => e = .returned (.bool false) ∧ Below w.heap.size w w')) (H5 : Hid (∀ w : World, Calls Tryz.prog 90 #[wd b] w fun e w' => e = .returned (.bool true) ∧ Below w.heap.size w w')) (H6 : Hid (∀ (n : Nat) (w : World), Calls Tryz.prog 91 #[wd n] w fun e w' => e = .returned (wd (ng n)) ∧ Below w.heap.size w w')) :
    Calls Tryz.prog 55 #[wd a, wd b] w fun e w' => e = .returned (.tuple #[wd (ng qq), wd rr]) ∧ Below w.heap.size w w' := by
  have hz := z4_wa
  have hsz := wa_size
  go_enter Tryz.func55, Tryz.ntmps55
  go_upto_region 1 with fail
  have f2 : ((((w.alloc (.cells (wa a) 24)).alloc (.cells (wa b) 24)).alloc (.cells (wa 0) 24)).alloc (.cells (wa 0) 24)).heap[w.heap.size]? = some (.cells (wa a) 24) := blk_alloc (blk_alloc (blk_alloc (blk_new _ rfl)))
  have f3 : ((((w.alloc (.cells (wa a) 24)).alloc (.cells (wa b) 24)).alloc (.cells (wa 0) 24)).alloc (.cells (wa 0) 24)).heap[w.heap.size + 1]? = some (.cells (wa b) 24) := blk_alloc (blk_alloc (blk_new _ (by simp)))
  have f4 : ((((w.alloc (.cells (wa a) 24)).alloc (.cells (wa b) 24)).alloc (.cells (wa 0) 24)).alloc (.cells (wa 0) 24)).heap[w.heap.size + 1 + 1]? = some (.cells (wa 0) 24) := blk_alloc (blk_new _ (by simp))
  have f5 : ((((w.alloc (.cells (wa a) 24)).alloc (.cells (wa b) 24)).alloc (.cells (wa 0) 24)).alloc (.cells (wa 0) 24)).heap[w.heap.size + 1 + 1 + 1]? = some (.cells (wa 0) 24) := blk_new _ (by simp)
  have bW : Below w.heap.size w ((((w.alloc (.cells (wa a) 24)).alloc (.cells (wa b) 24)).alloc (.cells (wa 0) 24)).alloc (.cells (wa 0) 24)) := (((((Below.refl _ _).alloc (Nat.le_refl _) _).alloc (by simp <;> omega) _).alloc (by simp <;> omega) _).alloc (by simp <;> omega) _)
  have sW : w.heap.size + 4 ≤ ((((w.alloc (.cells (wa a) 24)).alloc (.cells (wa b) 24)).alloc (.cells (wa 0) 24)).alloc (.cells (wa 0) 24)).heap.size := by simp
  generalize ((((w.alloc (.cells (wa a) 24)).alloc (.cells (wa b) 24)).alloc (.cells (wa 0) 24)).alloc (.cells (wa 0) 24)) = W at *
  go_cut [6, 7] (fun s6 s7 wx => NumS wx s6 32 qq ∧ (∃ kr, NumS wx s7 kr rr) ∧ wx.heap[w.heap.size]? = some (.cells (wa a) 24) ∧ wx.heap[w.heap.size + 1]? = some (.cells (wa b) 24) ∧ wx.heap[w.heap.size + 1 + 1]? = some (.cells (wa 0) 24) ∧ wx.heap[w.heap.size + 1 + 1 + 1]? = some (.cells (wa 0) 24) ∧ Below w.heap.size w wx ∧ w.heap.size + 4 ≤ wx.heap.size)
  case first =>
    have fo := fold_wa
    have bR := bW.drew
    clear hz
    go_region_held3 (fun w' => (w'.cell? ⟨w.heap.size, 0, none⟩ = some (.int .u64 ((l0 a : Nat) : Int)) ∧ w'.cell? ⟨w.heap.size, 1, none⟩ = some (.int .u64 ((l1 a : Nat) : Int)) ∧ w'.cell? ⟨w.heap.size, 2, none⟩ = some (.int .u64 ((l2 a : Nat) : Int)) ∧ w'.cell? ⟨w.heap.size, 3, none⟩ = some (.int .u64 ((l3 a : Nat) : Int))) ∧ (w'.cell? ⟨w.heap.size + 1, 0, none⟩ = some (.int .u64 ((l0 b : Nat) : Int)) ∧ w'.cell? ⟨w.heap.size + 1, 1, none⟩ = some (.int .u64 ((l1 b : Nat) : Int)) ∧ w'.cell? ⟨w.heap.size + 1, 2, none⟩ = some (.int .u64 ((l2 b : Nat) : Int)) ∧ w'.cell? ⟨w.heap.size + 1, 3, none⟩ = some (.int .u64 ((l3 b : Nat) : Int)))) (exact ⟨word_cells f2, word_cells f3⟩) (first | (go_at_call_of 89 (Value.agg (wa a)); refine (H1.out _).mono ?_; rintro e w' ⟨rfl, hA⟩; replace f2 := Below.stays hA f2; replace f3 := Below.stays hA f3; replace f4 := Below.stays hA f4; replace f5 := Below.stays hA f5; replace bR := bR.trans (hA.mono bR.size); (try replace na := na.stays hA); (try replace nb := nb.stays hA)) | (go_at_call_of 89 (Value.agg (wa b)); refine (H2.out _).mono ?_; rintro e w' ⟨rfl, hB⟩; replace f2 := Below.stays hB f2; replace f3 := Below.stays hB f3; replace f4 := Below.stays hB f4; replace f5 := Below.stays hB f5; replace bR := bR.trans (hB.mono bR.size); (try replace na := na.stays hB); (try replace nb := nb.stays hB)) | (go_at_call_of 49 (wd x); refine (nof_ref x _).mono ?_; rintro e w' ⟨va, rfl, na, hC⟩; replace f2 := Below.stays hC f2; replace f3 := Below.stays hC f3; replace f4 := Below.stays hC f4; replace f5 := Below.stays hC f5; replace bR := bR.trans (hC.mono bR.size); (try replace nb := nb.stays hC)) | (go_at_call_of 49 (wd y); refine (nof_ref y _).mono ?_; rintro e w' ⟨vb, rfl, nb, hD⟩; replace f2 := Below.stays hD f2; replace f3 := Below.stays hD f3; replace f4 := Below.stays hD f4; replace f5 := Below.stays hD f5; replace bR := bR.trans (hD.mono bR.size); (try replace na := na.stays hD)) | (go_at_call 53; refine (rdiv_ref va vb 32 32 (x % M) (y % M) _ na nb ⟨by omega, by omega⟩).mono ?_; rintro e w' ⟨vq, vr, kr, rfl, nq, nr, hE⟩; rw [hq.out] at nq; rw [hr.out] at nr; replace f2 := Below.stays hE f2; replace f3 := Below.stays hE f3; replace f4 := Below.stays hE f4; replace f5 := Below.stays hE f5; replace bR := bR.trans (hE.mono bR.size); (try replace na := na.stays hE)))
    all_goals
      go_wp2_with fail
      go_meet
      exact ⟨nq, ⟨kr, nr⟩, f2, f3, f4, f5, bR, Nat.le_trans (show w.heap.size + 4 ≤ _ from (Array.getElem?_eq_some_iff.1 f5).1) (Nat.le_refl _)⟩
  case rest =>
    clear f2 f3 f4 f5 bW sW
    obtain ⟨nq, ⟨kr, nr⟩, f2, f3, f4, f5, bW, sW⟩ := hcut
    have hs := store_new0
    go_wp2_with fail
    refine (nword_ref _ _ _ _ nq).mono ?_
    rintro e w1 ⟨rfl, b1⟩
    replace nr := nr.stays b1
    replace f2 := Below.stays b1 f2
    replace f3 := Below.stays b1 f3
    replace f4 := Below.stays b1 f4
    replace f5 := Below.stays b1 f5
    replace bW := bW.trans (b1.mono bW.size)
    replace sW := Nat.le_trans sW b1.size
    clear b1
    go_upto_region 3 with fail
    replace nr := nr.stays ((Below.refl _ _).alloc (Nat.le_refl _) (.cells (wa qq) 24))
    replace f2 := blk_alloc (o' := .cells (wa qq) 24) f2
    replace f3 := blk_alloc (o' := .cells (wa qq) 24) f3
    replace f4 := blk_alloc (o' := .cells (wa qq) 24) f4
    replace f5 := blk_alloc (o' := .cells (wa qq) 24) f5
    have f8 : (w1.alloc (.cells (wa qq) 24)).heap[w1.heap.size]? = some (.cells (wa qq) 24) := heap_alloc_new _ _
    replace bW : Below w.heap.size w (w1.alloc (.cells (wa qq) 24)) := bW.alloc (by omega) _
    have sb8 : w1.heap.size + 1 ≤ (w1.alloc (.cells (wa qq) 24)).heap.size := by simp
    generalize (w1.alloc (.cells (wa qq) 24)) = w2 at *
    generalize w1.heap.size = b8 at *
    have lb8 := sW
    replace sW := Nat.le_trans (Nat.le_succ_of_le sW) sb8
    go_wp2_with fail
    refine (nword_ref _ _ _ _ nr).mono ?_
    rintro e w3 ⟨rfl, b1⟩
    clear nr
    replace f2 := Below.stays b1 f2
    replace f3 := Below.stays b1 f3
    replace f4 := Below.stays b1 f4
    replace f5 := Below.stays b1 f5
    replace f8 := Below.stays b1 f8
    replace bW := bW.trans (b1.mono bW.size)
    replace sW := Nat.le_trans sW b1.size
    clear b1
    go_upto_region 4 with fail
    have ub8b9 : b8 + 1 ≤ w3.heap.size := (Array.getElem?_eq_some_iff.1 f8).1
    replace f2 := blk_alloc (o' := .cells (wa rr) 24) f2
    replace f3 := blk_alloc (o' := .cells (wa rr) 24) f3
    replace f4 := blk_alloc (o' := .cells (wa rr) 24) f4
    replace f5 := blk_alloc (o' := .cells (wa rr) 24) f5
    replace f8 := blk_alloc (o' := .cells (wa rr) 24) f8
    have f9 : (w3.alloc (.cells (wa rr) 24)).heap[w3.heap.size]? = some (.cells (wa rr) 24) := heap_alloc_new _ _
    replace bW : Below w.heap.size w (w3.alloc (.cells (wa rr) 24)) := bW.alloc (by omega) _
    have sb9 : w3.heap.size + 1 ≤ (w3.alloc (.cells (wa rr) 24)).heap.size := by simp
    generalize (w3.alloc (.cells (wa rr) 24)) = w4 at *
    generalize w3.heap.size = b9 at *
    have lb9 := sW
    replace sW := Nat.le_trans (Nat.le_succ_of_le sW) sb9
    clear hs hz
    have g2 := fun g : Ext w4 => g.word f2
    have g3 := fun g : Ext w4 => g.word f3
    have fo := fold_wa
    refine region_ext (by kernel_rfl) (by kernel_rfl) ?_
    repeat (go_big_quiet_step ((go_at_call 90; first | with_reducible exact calls_ext (H4.out _) | with_reducible exact calls_ext (H5.out _))))
    refine wpQuiet_nil ?_
    rintro _ ⟨g, rfl⟩
    clear g2 g3 fo
    have b1 := g.below
    replace f2 := Below.stays b1 f2
    replace f3 := Below.stays b1 f3
    replace f4 := Below.stays b1 f4
    replace f5 := Below.stays b1 f5
    replace f8 := Below.stays b1 f8
    replace f9 := Below.stays b1 f9
    replace bW := bW.trans (b1.mono bW.size)
    replace sW := Nat.le_trans sW b1.size
    clear b1
    generalize g.on = w8 at *
    go_wp2_with (refine wpList_load_row rfl 24 _ rfl _ rfl 24 _ (0, 0) _ (by assumption) Tryz.underlying24 rfl Tryz.infoWa ?_)
    refine (H6.out _ _).mono ?_
    rintro e w9 ⟨rfl, b1⟩
    replace f2 := Below.stays b1 f2
    replace f3 := Below.stays b1 f3
    replace f4 := Below.stays b1 f4
    replace f5 := Below.stays b1 f5
    replace f8 := Below.stays b1 f8
    replace f9 := Below.stays b1 f9
    replace bW := bW.trans (b1.mono bW.size)
    replace sW := Nat.le_trans sW b1.size
    clear b1
    go_upto_region 6 with (refine wpList_store_row rfl 24 (.tmp 8) _ rfl _ _ (wa (ng qq)) rfl rfl f8 Tryz.infoWa rfl wa_one ?_)
    simp only [Act.put]
    replace f2 := blk_row_other (b := b8) (c' := wa (ng qq)) f2 (by omega)
    replace f3 := blk_row_other (b := b8) (c' := wa (ng qq)) f3 (by omega)
    replace f4 := blk_row_other (b := b8) (c' := wa (ng qq)) f4 (by omega)
    replace f5 := blk_row_other (b := b8) (c' := wa (ng qq)) f5 (by omega)
    replace f9 := blk_row_other (b := b8) (c' := wa (ng qq)) f9 (by omega)
    replace f8 := blk_row (c' := wa (ng qq)) f8
    replace bW : Below w.heap.size w (w9.setRow (b8) (wa (ng qq))) := below_setRow bW (by omega) _
    replace sW := Nat.le_trans sW (Nat.le_of_eq (setRow_size w9 (b8) (wa (ng qq))).symm)
    generalize (w9.setRow (b8) (wa (ng qq))) = w10 at *
    go_wp2_with (refine wpList_load_row rfl 24 _ rfl _ rfl 24 _ (0, 0) _ (by assumption) Tryz.underlying24 rfl Tryz.infoWa ?_)
    refine (H4.out _).mono ?_
    rintro e w11 ⟨rfl, b1⟩
    replace f2 := Below.stays b1 f2
    replace f3 := Below.stays b1 f3
    replace f4 := Below.stays b1 f4
    replace f5 := Below.stays b1 f5
    replace f8 := Below.stays b1 f8
    replace f9 := Below.stays b1 f9
    replace bW := bW.trans (b1.mono bW.size)
    replace sW := Nat.le_trans sW b1.size
    clear b1
    go_wp2_with fail
    have d6 := word_cells f8
    have d7 := word_cells f9
    have fo := fold_wa
    have k1 := store_old (w := w11.drew) (m := (ng qq)) f4
    have k2 := store_old (m := rr) (blk_row_other (w := w11.drew) (b := w.heap.size + 1 + 1) (c' := wa (ng qq)) f5 (by omega))
    have d8 := word_cells (blk_row_other (w := w11.drew) (b := w.heap.size + 1 + 1) (c' := wa (ng qq)) f9 (by omega))
    go_region
    all_goals
      have e4 := word_cells (blk_row_other (b := w.heap.size + 1 + 1 + 1) (c' := wa rr) (blk_row (w := w11.drew) (c' := wa (ng qq)) f4) (by omega))
      have e5 := word_cells (blk_row (c' := wa rr) (blk_row_other (w := w11.drew) (b := w.heap.size + 1 + 1) (c' := wa (ng qq)) f5 (by omega)))
      clear k1 k2 d6 d7 d8 fo
      go_wp2_with fail
      exact bodyPost_ret (v := .tuple #[wd (ng qq), wd rr]) (by simp [results, Tryz.results55, go_sem, e4, e5, fold_wa]) rfl ⟨rfl, below_setRow (below_setRow bW.drew (by omega) _) (by omega) _⟩

set_option maxHeartbeats 4000000 in
theorem rsdiv_walk10 (a b x y qq rr : Nat) (w : World) (hq : Hid (x % M / (y % M) = qq)) (hr : Hid (rs (x % M) (y % M) = rr)) (H1 : Hid (∀ w : World, Calls Tryz.prog 89 #[wd a] w fun e w' => e = .returned (wd x) ∧ Below w.heap.size w w')) (H2 : Hid (∀ w : World, Calls Tryz.prog 89 #[wd b] w fun e w' => e = .returned (wd y) ∧ Below w.heap.size w w')) (H4 : Hid (∀ w : World, Calls Tryz.prog 90 #[wd a] w fun e w' => e = .returned (.bool true) ∧ Below w.heap.size w w')) (H5 : Hid (∀ w : World, Calls Tryz.prog 90 #[wd b] w fun e w' => e = .returned (.bool false) ∧ Below w.heap.size w w')) (H6 : Hid (∀ (n : Nat) (w : World), Calls Tryz.prog 91 #[wd n] w fun e w' => e = .returned (wd (ng n)) ∧ Below w.heap.size w w')) :
    Calls Tryz.prog 55 #[wd a, wd b] w fun e w' => e = .returned (.tuple #[wd (ng qq), wd (ng rr)]) ∧ Below w.heap.size w w' := by
  have hz := z4_wa
  have hsz := wa_size
  go_enter Tryz.func55, Tryz.ntmps55
  go_upto_region 1 with fail
  have f2 : ((((w.alloc (.cells (wa a) 24)).alloc (.cells (wa b) 24)).alloc (.cells (wa 0) 24)).alloc (.cells (wa 0) 24)).heap[w.heap.size]? = some (.cells (wa a) 24) := blk_alloc (blk_alloc (blk_alloc (blk_new _ rfl)))
  have f3 : ((((w.alloc (.cells (wa a) 24)).alloc (.cells (wa b) 24)).alloc (.cells (wa 0) 24)).alloc (.cells (wa 0) 24)).heap[w.heap.size + 1]? = some (.cells (wa b) 24) := blk_alloc (blk_alloc (blk_new _ (by simp)))
  have f4 : ((((w.alloc (.cells (wa a) 24)).alloc (.cells (wa b) 24)).alloc (.cells (wa 0) 24)).alloc (.cells (wa 0) 24)).heap[w.heap.size + 1 + 1]? = some (.cells (wa 0) 24) := blk_alloc (blk_new _ (by simp))
  have f5 : ((((w.alloc (.cells (wa a) 24)).alloc (.cells (wa b) 24)).alloc (.cells (wa 0) 24)).alloc (.cells (wa 0) 24)).heap[w.heap.size + 1 + 1 + 1]? = some (.cells (wa 0) 24) := blk_new _ (by simp)
  have bW : Below w.heap.size w ((((w.alloc (.cells (wa a) 24)).alloc (.cells (wa b) 24)).alloc (.cells (wa 0) 24)).alloc (.cells (wa 0) 24)) := (((((Below.refl _ _).alloc (Nat.le_refl _) _).alloc (by simp <;> omega) _).alloc (by simp <;> omega) _).alloc (by simp <;> omega) _)
  have sW : w.heap.size + 4 ≤ ((((w.alloc (.cells (wa a) 24)).alloc (.cells (wa b) 24)).alloc (.cells (wa 0) 24)).alloc (.cells (wa 0) 24)).heap.size := by simp
  generalize ((((w.alloc (.cells (wa a) 24)).alloc (.cells (wa b) 24)).alloc (.cells (wa 0) 24)).alloc (.cells (wa 0) 24)) = W at *
  go_cut [6, 7] (fun s6 s7 wx => NumS wx s6 32 qq ∧ (∃ kr, NumS wx s7 kr rr) ∧ wx.heap[w.heap.size]? = some (.cells (wa a) 24) ∧ wx.heap[w.heap.size + 1]? = some (.cells (wa b) 24) ∧ wx.heap[w.heap.size + 1 + 1]? = some (.cells (wa 0) 24) ∧ wx.heap[w.heap.size + 1 + 1 + 1]? = some (.cells (wa 0) 24) ∧ Below w.heap.size w wx ∧ w.heap.size + 4 ≤ wx.heap.size)
  case first =>
    have fo := fold_wa
    have bR := bW.drew
    clear hz
    go_region_held3 (fun w' => (w'.cell? ⟨w.heap.size, 0, none⟩ = some (.int .u64 ((l0 a : Nat) : Int)) ∧ w'.cell? ⟨w.heap.size, 1, none⟩ = some (.int .u64 ((l1 a : Nat) : Int)) ∧ w'.cell? ⟨w.heap.size, 2, none⟩ = some (.int .u64 ((l2 a : Nat) : Int)) ∧ w'.cell? ⟨w.heap.size, 3, none⟩ = some (.int .u64 ((l3 a : Nat) : Int))) ∧ (w'.cell? ⟨w.heap.size + 1, 0, none⟩ = some (.int .u64 ((l0 b : Nat) : Int)) ∧ w'.cell? ⟨w.heap.size + 1, 1, none⟩ = some (.int .u64 ((l1 b : Nat) : Int)) ∧ w'.cell? ⟨w.heap.size + 1, 2, none⟩ = some (.int .u64 ((l2 b : Nat) : Int)) ∧ w'.cell? ⟨w.heap.size + 1, 3, none⟩ = some (.int .u64 ((l3 b : Nat) : Int)))) (exact ⟨word_cells f2, word_cells f3⟩) (first | (go_at_call_of 89 (Value.agg (wa a)); refine (H1.out _).mono ?_; rintro e w' ⟨rfl, hA⟩; replace f2 := Below.stays hA f2; replace f3 := Below.stays hA f3; replace f4 := Below.stays hA f4; replace f5 := Below.stays hA f5; replace bR := bR.trans (hA.mono bR.size); (try replace na := na.stays hA); (try replace nb := nb.stays hA)) | (go_at_call_of 89 (Value.agg (wa b)); refine (H2.out _).mono ?_; rintro e w' ⟨rfl, hB⟩; replace f2 := Below.stays hB f2; replace f3 := Below.stays hB f3; replace f4 := Below.stays hB f4; replace f5 := Below.stays hB f5; replace bR := bR.trans (hB.mono bR.size); (try replace na := na.stays hB); (try replace nb := nb.stays hB)) | (go_at_call_of 49 (wd x); refine (nof_ref x _).mono ?_; rintro e w' ⟨va, rfl, na, hC⟩; replace f2 := Below.stays hC f2; replace f3 := Below.stays hC f3; replace f4 := Below.stays hC f4; replace f5 := Below.stays hC f5; replace bR := bR.trans (hC.mono bR.size); (try replace nb := nb.stays hC)) | (go_at_call_of 49 (wd y); refine (nof_ref y _).mono ?_; rintro e w' ⟨vb, rfl, nb, hD⟩; replace f2 := Below.stays hD f2; replace f3 := Below.stays hD f3; replace f4 := Below.stays hD f4; replace f5 := Below.stays hD f5; replace bR := bR.trans (hD.mono bR.size); (try replace na := na.stays hD)) | (go_at_call 53; refine (rdiv_ref va vb 32 32 (x % M) (y % M) _ na nb ⟨by omega, by omega⟩).mono ?_; rintro e w' ⟨vq, vr, kr, rfl, nq, nr, hE⟩; rw [hq.out] at nq; rw [hr.out] at nr; replace f2 := Below.stays hE f2; replace f3 := Below.stays hE f3; replace f4 := Below.stays hE f4; replace f5 := Below.stays hE f5; replace bR := bR.trans (hE.mono bR.size); (try replace na := na.stays hE)))
    all_goals
      go_wp2_with fail
      go_meet
      exact ⟨nq, ⟨kr, nr⟩, f2, f3, f4, f5, bR, Nat.le_trans (show w.heap.size + 4 ≤ _ from (Array.getElem?_eq_some_iff.1 f5).1) (Nat.le_refl _)⟩
  case rest =>
    clear f2 f3 f4 f5 bW sW
    obtain ⟨nq, ⟨kr, nr⟩, f2, f3, f4, f5, bW, sW⟩ := hcut
    have hs := store_new0
    go_wp2_with fail
    refine (nword_ref _ _ _ _ nq).mono ?_
    rintro e w1 ⟨rfl, b1⟩
    replace nr := nr.stays b1
    replace f2 := Below.stays b1 f2
    replace f3 := Below.stays b1 f3
    replace f4 := Below.stays b1 f4
    replace f5 := Below.stays b1 f5
    replace bW := bW.trans (b1.mono bW.size)
    replace sW := Nat.le_trans sW b1.size
    clear b1
    go_upto_region 3 with fail
    replace nr := nr.stays ((Below.refl _ _).alloc (Nat.le_refl _) (.cells (wa qq) 24))
    replace f2 := blk_alloc (o' := .cells (wa qq) 24) f2
    replace f3 := blk_alloc (o' := .cells (wa qq) 24) f3
    replace f4 := blk_alloc (o' := .cells (wa qq) 24) f4
    replace f5 := blk_alloc (o' := .cells (wa qq) 24) f5
    have f8 : (w1.alloc (.cells (wa qq) 24)).heap[w1.heap.size]? = some (.cells (wa qq) 24) := heap_alloc_new _ _
    replace bW : Below w.heap.size w (w1.alloc (.cells (wa qq) 24)) := bW.alloc (by omega) _
    have sb8 : w1.heap.size + 1 ≤ (w1.alloc (.cells (wa qq) 24)).heap.size := by simp
    generalize (w1.alloc (.cells (wa qq) 24)) = w2 at *
    generalize w1.heap.size = b8 at *
    have lb8 := sW
    replace sW := Nat.le_trans (Nat.le_succ_of_le sW) sb8
    go_wp2_with fail
    refine (nword_ref _ _ _ _ nr).mono ?_
    rintro e w3 ⟨rfl, b1⟩
    clear nr
    replace f2 := Below.stays b1 f2
    replace f3 := Below.stays b1 f3
    replace f4 := Below.stays b1 f4
    replace f5 := Below.stays b1 f5
    replace f8 := Below.stays b1 f8
    replace bW := bW.trans (b1.mono bW.size)
    replace sW := Nat.le_trans sW b1.size
    clear b1
    go_upto_region 4 with fail
    have ub8b9 : b8 + 1 ≤ w3.heap.size := (Array.getElem?_eq_some_iff.1 f8).1
    replace f2 := blk_alloc (o' := .cells (wa rr) 24) f2
    replace f3 := blk_alloc (o' := .cells (wa rr) 24) f3
    replace f4 := blk_alloc (o' := .cells (wa rr) 24) f4
    replace f5 := blk_alloc (o' := .cells (wa rr) 24) f5
    replace f8 := blk_alloc (o' := .cells (wa rr) 24) f8
    have f9 : (w3.alloc (.cells (wa rr) 24)).heap[w3.heap.size]? = some (.cells (wa rr) 24) := heap_alloc_new _ _
    replace bW : Below w.heap.size w (w3.alloc (.cells (wa rr) 24)) := bW.alloc (by omega) _
    have sb9 : w3.heap.size + 1 ≤ (w3.alloc (.cells (wa rr) 24)).heap.size := by simp
    generalize (w3.alloc (.cells (wa rr) 24)) = w4 at *
    generalize w3.heap.size = b9 at *
    have lb9 := sW
    replace sW := Nat.le_trans (Nat.le_succ_of_le sW) sb9
    clear hs hz
    have g2 := fun g : Ext w4 => g.word f2
    have g3 := fun g : Ext w4 => g.word f3
    have fo := fold_wa
    refine region_ext (by kernel_rfl) (by kernel_rfl) ?_
    repeat (go_big_quiet_step ((go_at_call 90; first | with_reducible exact calls_ext (H4.out _) | with_reducible exact calls_ext (H5.out _))))
    refine wpQuiet_nil ?_
    rintro _ ⟨g, rfl⟩
    clear g2 g3 fo
    have b1 := g.below
    replace f2 := Below.stays b1 f2
    replace f3 := Below.stays b1 f3
    replace f4 := Below.stays b1 f4
    replace f5 := Below.stays b1 f5
    replace f8 := Below.stays b1 f8
    replace f9 := Below.stays b1 f9
    replace bW := bW.trans (b1.mono bW.size)
    replace sW := Nat.le_trans sW b1.size
    clear b1
    generalize g.on = w8 at *
    go_wp2_with (refine wpList_load_row rfl 24 _ rfl _ rfl 24 _ (0, 0) _ (by assumption) Tryz.underlying24 rfl Tryz.infoWa ?_)
    refine (H6.out _ _).mono ?_
    rintro e w9 ⟨rfl, b1⟩
    replace f2 := Below.stays b1 f2
    replace f3 := Below.stays b1 f3
    replace f4 := Below.stays b1 f4
    replace f5 := Below.stays b1 f5
    replace f8 := Below.stays b1 f8
    replace f9 := Below.stays b1 f9
    replace bW := bW.trans (b1.mono bW.size)
    replace sW := Nat.le_trans sW b1.size
    clear b1
    go_upto_region 6 with (refine wpList_store_row rfl 24 (.tmp 8) _ rfl _ _ (wa (ng qq)) rfl rfl f8 Tryz.infoWa rfl wa_one ?_)
    simp only [Act.put]
    replace f2 := blk_row_other (b := b8) (c' := wa (ng qq)) f2 (by omega)
    replace f3 := blk_row_other (b := b8) (c' := wa (ng qq)) f3 (by omega)
    replace f4 := blk_row_other (b := b8) (c' := wa (ng qq)) f4 (by omega)
    replace f5 := blk_row_other (b := b8) (c' := wa (ng qq)) f5 (by omega)
    replace f9 := blk_row_other (b := b8) (c' := wa (ng qq)) f9 (by omega)
    replace f8 := blk_row (c' := wa (ng qq)) f8
    replace bW : Below w.heap.size w (w9.setRow (b8) (wa (ng qq))) := below_setRow bW (by omega) _
    replace sW := Nat.le_trans sW (Nat.le_of_eq (setRow_size w9 (b8) (wa (ng qq))).symm)
    generalize (w9.setRow (b8) (wa (ng qq))) = w10 at *
    go_wp2_with (refine wpList_load_row rfl 24 _ rfl _ rfl 24 _ (0, 0) _ (by assumption) Tryz.underlying24 rfl Tryz.infoWa ?_)
    refine (H4.out _).mono ?_
    rintro e w11 ⟨rfl, b1⟩
    replace f2 := Below.stays b1 f2
    replace f3 := Below.stays b1 f3
    replace f4 := Below.stays b1 f4
    replace f5 := Below.stays b1 f5
    replace f8 := Below.stays b1 f8
    replace f9 := Below.stays b1 f9
    replace bW := bW.trans (b1.mono bW.size)
    replace sW := Nat.le_trans sW b1.size
    clear b1
    go_wp2_with (refine wpList_load_row rfl 24 _ rfl _ rfl 24 _ (0, 0) _ (by assumption) Tryz.underlying24 rfl Tryz.infoWa ?_)
    refine (H6.out _ _).mono ?_
    rintro e w12 ⟨rfl, b1⟩
    replace f2 := Below.stays b1 f2
    replace f3 := Below.stays b1 f3
    replace f4 := Below.stays b1 f4
    replace f5 := Below.stays b1 f5
    replace f8 := Below.stays b1 f8
    replace f9 := Below.stays b1 f9
    replace bW := bW.trans (b1.mono bW.size)
    replace sW := Nat.le_trans sW b1.size
    clear b1
    go_upto_region 8 with (refine wpList_store_row rfl 24 (.tmp 9) _ rfl _ _ (wa (ng rr)) rfl rfl f9 Tryz.infoWa rfl wa_one ?_)
    simp only [Act.put]
    replace f2 := blk_row_other (b := b9) (c' := wa (ng rr)) f2 (by omega)
    replace f3 := blk_row_other (b := b9) (c' := wa (ng rr)) f3 (by omega)
    replace f4 := blk_row_other (b := b9) (c' := wa (ng rr)) f4 (by omega)
    replace f5 := blk_row_other (b := b9) (c' := wa (ng rr)) f5 (by omega)
    replace f8 := blk_row_other (b := b9) (c' := wa (ng rr)) f8 (by omega)
    replace f9 := blk_row (c' := wa (ng rr)) f9
    replace bW : Below w.heap.size w (w12.setRow (b9) (wa (ng rr))) := below_setRow bW (by omega) _
    replace sW := Nat.le_trans sW (Nat.le_of_eq (setRow_size w12 (b9) (wa (ng rr))).symm)
    generalize (w12.setRow (b9) (wa (ng rr))) = w13 at *
    have d6 := word_cells f8
    have d7 := word_cells f9
    have fo := fold_wa
    have k1 := store_old (w := w13.drew) (m := (ng qq)) f4
    have k2 := store_old (m := (ng rr)) (blk_row_other (w := w13.drew) (b := w.heap.size + 1 + 1) (c' := wa (ng qq)) f5 (by omega))
    have d8 := word_cells (blk_row_other (w := w13.drew) (b := w.heap.size + 1 + 1) (c' := wa (ng qq)) f9 (by omega))
    go_region
    all_goals
      have e4 := word_cells (blk_row_other (b := w.heap.size + 1 + 1 + 1) (c' := wa (ng rr)) (blk_row (w := w13.drew) (c' := wa (ng qq)) f4) (by omega))
      have e5 := word_cells (blk_row (c' := wa (ng rr)) (blk_row_other (w := w13.drew) (b := w.heap.size + 1 + 1) (c' := wa (ng qq)) f5 (by omega)))
      clear k1 k2 d6 d7 d8 fo
      go_wp2_with fail
      exact bodyPost_ret (v := .tuple #[wd (ng qq), wd (ng rr)]) (by simp [results, Tryz.results55, go_sem, e4, e5, fold_wa]) rfl ⟨rfl, below_setRow (below_setRow bW.drew (by omega) _) (by omega) _⟩

set_option maxHeartbeats 4000000 in
theorem rsdiv_walk11 (a b x y qq rr : Nat) (w : World) (hq : Hid (x % M / (y % M) = qq)) (hr : Hid (rs (x % M) (y % M) = rr)) (H1 : Hid (∀ w : World, Calls Tryz.prog 89 #[wd a] w fun e w' => e = .returned (wd x) ∧ Below w.heap.size w w')) (H2 : Hid (∀ w : World, Calls Tryz.prog 89 #[wd b] w fun e w' => e = .returned (wd y) ∧ Below w.heap.size w w')) (H4 : Hid (∀ w : World, Calls Tryz.prog 90 #[wd a] w fun e w' => e = .returned (.bool true) ∧ Below w.heap.size w w')) (H5 : Hid (∀ w : World, Calls Tryz.prog 90 #[wd b] w fun e w' => e = .returned (.bool true) ∧ Below w.heap.size w w')) (H6 : Hid (∀ (n : Nat) (w : World), Calls Tryz.prog 91 #[wd n] w fun e w' => e = .returned (wd (ng n)) ∧ Below w.heap.size w w')) :
    Calls Tryz.prog 55 #[wd a, wd b] w fun e w' => e = .returned (.tuple #[wd qq, wd (ng rr)]) ∧ Below w.heap.size w w' := by
  have hz := z4_wa
  have hsz := wa_size
  go_enter Tryz.func55, Tryz.ntmps55
  go_upto_region 1 with fail
  have f2 : ((((w.alloc (.cells (wa a) 24)).alloc (.cells (wa b) 24)).alloc (.cells (wa 0) 24)).alloc (.cells (wa 0) 24)).heap[w.heap.size]? = some (.cells (wa a) 24) := blk_alloc (blk_alloc (blk_alloc (blk_new _ rfl)))
  have f3 : ((((w.alloc (.cells (wa a) 24)).alloc (.cells (wa b) 24)).alloc (.cells (wa 0) 24)).alloc (.cells (wa 0) 24)).heap[w.heap.size + 1]? = some (.cells (wa b) 24) := blk_alloc (blk_alloc (blk_new _ (by simp)))
  have f4 : ((((w.alloc (.cells (wa a) 24)).alloc (.cells (wa b) 24)).alloc (.cells (wa 0) 24)).alloc (.cells (wa 0) 24)).heap[w.heap.size + 1 + 1]? = some (.cells (wa 0) 24) := blk_alloc (blk_new _ (by simp))
  have f5 : ((((w.alloc (.cells (wa a) 24)).alloc (.cells (wa b) 24)).alloc (.cells (wa 0) 24)).alloc (.cells (wa 0) 24)).heap[w.heap.size + 1 + 1 + 1]? = some (.cells (wa 0) 24) := blk_new _ (by simp)
  have bW : Below w.heap.size w ((((w.alloc (.cells (wa a) 24)).alloc (.cells (wa b) 24)).alloc (.cells (wa 0) 24)).alloc (.cells (wa 0) 24)) := (((((Below.refl _ _).alloc (Nat.le_refl _) _).alloc (by simp <;> omega) _).alloc (by simp <;> omega) _).alloc (by simp <;> omega) _)
  have sW : w.heap.size + 4 ≤ ((((w.alloc (.cells (wa a) 24)).alloc (.cells (wa b) 24)).alloc (.cells (wa 0) 24)).alloc (.cells (wa 0) 24)).heap.size := by simp
  generalize ((((w.alloc (.cells (wa a) 24)).alloc (.cells (wa b) 24)).alloc (.cells (wa 0) 24)).alloc (.cells (wa 0) 24)) = W at *
  go_cut [6, 7] (fun s6 s7 wx => NumS wx s6 32 qq ∧ (∃ kr, NumS wx s7 kr rr) ∧ wx.heap[w.heap.size]? = some (.cells (wa a) 24) ∧ wx.heap[w.heap.size + 1]? = some (.cells (wa b) 24) ∧ wx.heap[w.heap.size + 1 + 1]? = some (.cells (wa 0) 24) ∧ wx.heap[w.heap.size + 1 + 1 + 1]? = some (.cells (wa 0) 24) ∧ Below w.heap.size w wx ∧ w.heap.size + 4 ≤ wx.heap.size)
  case first =>
    have fo := fold_wa
    have bR := bW.drew
    clear hz
    go_region_held3 (fun w' => (w'.cell? ⟨w.heap.size, 0, none⟩ = some (.int .u64 ((l0 a : Nat) : Int)) ∧ w'.cell? ⟨w.heap.size, 1, none⟩ = some (.int .u64 ((l1 a : Nat) : Int)) ∧ w'.cell? ⟨w.heap.size, 2, none⟩ = some (.int .u64 ((l2 a : Nat) : Int)) ∧ w'.cell? ⟨w.heap.size, 3, none⟩ = some (.int .u64 ((l3 a : Nat) : Int))) ∧ (w'.cell? ⟨w.heap.size + 1, 0, none⟩ = some (.int .u64 ((l0 b : Nat) : Int)) ∧ w'.cell? ⟨w.heap.size + 1, 1, none⟩ = some (.int .u64 ((l1 b : Nat) : Int)) ∧ w'.cell? ⟨w.heap.size + 1, 2, none⟩ = some (.int .u64 ((l2 b : Nat) : Int)) ∧ w'.cell? ⟨w.heap.size + 1, 3, none⟩ = some (.int .u64 ((l3 b : Nat) : Int)))) (exact ⟨word_cells f2, word_cells f3⟩) (first | (go_at_call_of 89 (Value.agg (wa a)); refine (H1.out _).mono ?_; rintro e w' ⟨rfl, hA⟩; replace f2 := Below.stays hA f2; replace f3 := Below.stays hA f3; replace f4 := Below.stays hA f4; replace f5 := Below.stays hA f5; replace bR := bR.trans (hA.mono bR.size); (try replace na := na.stays hA); (try replace nb := nb.stays hA)) | (go_at_call_of 89 (Value.agg (wa b)); refine (H2.out _).mono ?_; rintro e w' ⟨rfl, hB⟩; replace f2 := Below.stays hB f2; replace f3 := Below.stays hB f3; replace f4 := Below.stays hB f4; replace f5 := Below.stays hB f5; replace bR := bR.trans (hB.mono bR.size); (try replace na := na.stays hB); (try replace nb := nb.stays hB)) | (go_at_call_of 49 (wd x); refine (nof_ref x _).mono ?_; rintro e w' ⟨va, rfl, na, hC⟩; replace f2 := Below.stays hC f2; replace f3 := Below.stays hC f3; replace f4 := Below.stays hC f4; replace f5 := Below.stays hC f5; replace bR := bR.trans (hC.mono bR.size); (try replace nb := nb.stays hC)) | (go_at_call_of 49 (wd y); refine (nof_ref y _).mono ?_; rintro e w' ⟨vb, rfl, nb, hD⟩; replace f2 := Below.stays hD f2; replace f3 := Below.stays hD f3; replace f4 := Below.stays hD f4; replace f5 := Below.stays hD f5; replace bR := bR.trans (hD.mono bR.size); (try replace na := na.stays hD)) | (go_at_call 53; refine (rdiv_ref va vb 32 32 (x % M) (y % M) _ na nb ⟨by omega, by omega⟩).mono ?_; rintro e w' ⟨vq, vr, kr, rfl, nq, nr, hE⟩; rw [hq.out] at nq; rw [hr.out] at nr; replace f2 := Below.stays hE f2; replace f3 := Below.stays hE f3; replace f4 := Below.stays hE f4; replace f5 := Below.stays hE f5; replace bR := bR.trans (hE.mono bR.size); (try replace na := na.stays hE)))
    all_goals
      go_wp2_with fail
      go_meet
      exact ⟨nq, ⟨kr, nr⟩, f2, f3, f4, f5, bR, Nat.le_trans (show w.heap.size + 4 ≤ _ from (Array.getElem?_eq_some_iff.1 f5).1) (Nat.le_refl _)⟩
  case rest =>
    clear f2 f3 f4 f5 bW sW
    obtain ⟨nq, ⟨kr, nr⟩, f2, f3, f4, f5, bW, sW⟩ := hcut
    have hs := store_new0
    go_wp2_with fail
    refine (nword_ref _ _ _ _ nq).mono ?_
    rintro e w1 ⟨rfl, b1⟩
    replace nr := nr.stays b1
    replace f2 := Below.stays b1 f2
    replace f3 := Below.stays b1 f3
    replace f4 := Below.stays b1 f4
    replace f5 := Below.stays b1 f5
    replace bW := bW.trans (b1.mono bW.size)
    replace sW := Nat.le_trans sW b1.size
    clear b1
    go_upto_region 3 with fail
    replace nr := nr.stays ((Below.refl _ _).alloc (Nat.le_refl _) (.cells (wa qq) 24))
    replace f2 := blk_alloc (o' := .cells (wa qq) 24) f2
    replace f3 := blk_alloc (o' := .cells (wa qq) 24) f3
    replace f4 := blk_alloc (o' := .cells (wa qq) 24) f4
    replace f5 := blk_alloc (o' := .cells (wa qq) 24) f5
    have f8 : (w1.alloc (.cells (wa qq) 24)).heap[w1.heap.size]? = some (.cells (wa qq) 24) := heap_alloc_new _ _
    replace bW : Below w.heap.size w (w1.alloc (.cells (wa qq) 24)) := bW.alloc (by omega) _
    have sb8 : w1.heap.size + 1 ≤ (w1.alloc (.cells (wa qq) 24)).heap.size := by simp
    generalize (w1.alloc (.cells (wa qq) 24)) = w2 at *
    generalize w1.heap.size = b8 at *
    have lb8 := sW
    replace sW := Nat.le_trans (Nat.le_succ_of_le sW) sb8
    go_wp2_with fail
    refine (nword_ref _ _ _ _ nr).mono ?_
    rintro e w3 ⟨rfl, b1⟩
    clear nr
    replace f2 := Below.stays b1 f2
    replace f3 := Below.stays b1 f3
    replace f4 := Below.stays b1 f4
    replace f5 := Below.stays b1 f5
    replace f8 := Below.stays b1 f8
    replace bW := bW.trans (b1.mono bW.size)
    replace sW := Nat.le_trans sW b1.size
    clear b1
    go_upto_region 4 with fail
    have ub8b9 : b8 + 1 ≤ w3.heap.size := (Array.getElem?_eq_some_iff.1 f8).1
    replace f2 := blk_alloc (o' := .cells (wa rr) 24) f2
    replace f3 := blk_alloc (o' := .cells (wa rr) 24) f3
    replace f4 := blk_alloc (o' := .cells (wa rr) 24) f4
    replace f5 := blk_alloc (o' := .cells (wa rr) 24) f5
    replace f8 := blk_alloc (o' := .cells (wa rr) 24) f8
    have f9 : (w3.alloc (.cells (wa rr) 24)).heap[w3.heap.size]? = some (.cells (wa rr) 24) := heap_alloc_new _ _
    replace bW : Below w.heap.size w (w3.alloc (.cells (wa rr) 24)) := bW.alloc (by omega) _
    have sb9 : w3.heap.size + 1 ≤ (w3.alloc (.cells (wa rr) 24)).heap.size := by simp
    generalize (w3.alloc (.cells (wa rr) 24)) = w4 at *
    generalize w3.heap.size = b9 at *
    have lb9 := sW
    replace sW := Nat.le_trans (Nat.le_succ_of_le sW) sb9
    clear hs hz
    have g2 := fun g : Ext w4 => g.word f2
    have g3 := fun g : Ext w4 => g.word f3
    have fo := fold_wa
    refine region_ext (by kernel_rfl) (by kernel_rfl) ?_
    repeat (go_big_quiet_step ((go_at_call 90; first | with_reducible exact calls_ext (H4.out _) | with_reducible exact calls_ext (H5.out _))))
    refine wpQuiet_nil ?_
    rintro _ ⟨g, rfl⟩
    clear g2 g3 fo
    have b1 := g.below
    replace f2 := Below.stays b1 f2
    replace f3 := Below.stays b1 f3
    replace f4 := Below.stays b1 f4
    replace f5 := Below.stays b1 f5
    replace f8 := Below.stays b1 f8
    replace f9 := Below.stays b1 f9
    replace bW := bW.trans (b1.mono bW.size)
    replace sW := Nat.le_trans sW b1.size
    clear b1
    generalize g.on = w8 at *
    go_wp2_with (refine wpList_load_row rfl 24 _ rfl _ rfl 24 _ (0, 0) _ (by assumption) Tryz.underlying24 rfl Tryz.infoWa ?_)
    refine (H4.out _).mono ?_
    rintro e w11 ⟨rfl, b1⟩
    replace f2 := Below.stays b1 f2
    replace f3 := Below.stays b1 f3
    replace f4 := Below.stays b1 f4
    replace f5 := Below.stays b1 f5
    replace f8 := Below.stays b1 f8
    replace f9 := Below.stays b1 f9
    replace bW := bW.trans (b1.mono bW.size)
    replace sW := Nat.le_trans sW b1.size
    clear b1
    go_wp2_with (refine wpList_load_row rfl 24 _ rfl _ rfl 24 _ (0, 0) _ (by assumption) Tryz.underlying24 rfl Tryz.infoWa ?_)
    refine (H6.out _ _).mono ?_
    rintro e w12 ⟨rfl, b1⟩
    replace f2 := Below.stays b1 f2
    replace f3 := Below.stays b1 f3
    replace f4 := Below.stays b1 f4
    replace f5 := Below.stays b1 f5
    replace f8 := Below.stays b1 f8
    replace f9 := Below.stays b1 f9
    replace bW := bW.trans (b1.mono bW.size)
    replace sW := Nat.le_trans sW b1.size
    clear b1
    go_upto_region 8 with (refine wpList_store_row rfl 24 (.tmp 9) _ rfl _ _ (wa (ng rr)) rfl rfl f9 Tryz.infoWa rfl wa_one ?_)
    simp only [Act.put]
    replace f2 := blk_row_other (b := b9) (c' := wa (ng rr)) f2 (by omega)
    replace f3 := blk_row_other (b := b9) (c' := wa (ng rr)) f3 (by omega)
    replace f4 := blk_row_other (b := b9) (c' := wa (ng rr)) f4 (by omega)
    replace f5 := blk_row_other (b := b9) (c' := wa (ng rr)) f5 (by omega)
    replace f8 := blk_row_other (b := b9) (c' := wa (ng rr)) f8 (by omega)
    replace f9 := blk_row (c' := wa (ng rr)) f9
    replace bW : Below w.heap.size w (w12.setRow (b9) (wa (ng rr))) := below_setRow bW (by omega) _
    replace sW := Nat.le_trans sW (Nat.le_of_eq (setRow_size w12 (b9) (wa (ng rr))).symm)
    generalize (w12.setRow (b9) (wa (ng rr))) = w13 at *
    have d6 := word_cells f8
    have d7 := word_cells f9
    have fo := fold_wa
    have k1 := store_old (w := w13.drew) (m := qq) f4
    have k2 := store_old (m := (ng rr)) (blk_row_other (w := w13.drew) (b := w.heap.size + 1 + 1) (c' := wa qq) f5 (by omega))
    have d8 := word_cells (blk_row_other (w := w13.drew) (b := w.heap.size + 1 + 1) (c' := wa qq) f9 (by omega))
    go_region
    all_goals
      have e4 := word_cells (blk_row_other (b := w.heap.size + 1 + 1 + 1) (c' := wa (ng rr)) (blk_row (w := w13.drew) (c' := wa qq) f4) (by omega))
      have e5 := word_cells (blk_row (c' := wa (ng rr)) (blk_row_other (w := w13.drew) (b := w.heap.size + 1 + 1) (c' := wa qq) f5 (by omega)))
      clear k1 k2 d6 d7 d8 fo
      go_wp2_with fail
      exact bodyPost_ret (v := .tuple #[wd qq, wd (ng rr)]) (by simp [results, Tryz.results55, go_sem, e4, e5, fold_wa]) rfl ⟨rfl, below_setRow (below_setRow bW.drew (by omega) _) (by omega) _⟩
theorem rsdiv_wd (a b : Nat) (w : World) : Calls Tryz.prog 55 #[wd a, wd b] w fun e w' => e = .returned (.tuple #[wd (sq a b), wd (sr a b)]) ∧ Below w.heap.size w w' := by
  have h1 := Lib.hid fun w => rsize_wd a w
  have h2 := Lib.hid fun w => rsize_wd b w
  have h4 := fun w => rbelow_wd a w
  have h5 := fun w => rbelow_wd b w
  have h6 := Lib.hid fun n w => rneg_wd n w
  unfold sq sr
  cases hA : bel a <;> cases hB : bel b <;> rw [hA] at h4 <;> rw [hB] at h5
  · exact rsdiv_walk00 _ _ _ _ _ _ w (Lib.hid rfl) (Lib.hid rfl) h1 h2 (Lib.hid h4) (Lib.hid h5)
  · exact rsdiv_walk01 _ _ _ _ _ _ w (Lib.hid rfl) (Lib.hid rfl) h1 h2 (Lib.hid h4) (Lib.hid h5) h6
  · exact rsdiv_walk10 _ _ _ _ _ _ w (Lib.hid rfl) (Lib.hid rfl) h1 h2 (Lib.hid h4) (Lib.hid h5) h6
  · exact rsdiv_walk11 _ _ _ _ _ _ w (Lib.hid rfl) (Lib.hid rfl) h1 h2 (Lib.hid h4) (Lib.hid h5) h6
end Go.Proofs.YtdpbjdecbilaeaaGreat
