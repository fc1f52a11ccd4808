/- More on items in plain words: an item in lists, one in another; bytes without noughts ahead; bytes as a function of their place. -/
import Derived.Test.YtfpeliolngfkpaaRpO
namespace Go.Proofs.Ytfpeliolngfkpaa.SmWord
set_option maxRecDepth 100000

/-- Bytes in k lists, one in another. -/
def nest (b : List Nat) : Nat → Fo
  | 0 => .st b .no
  | k + 1 => .li (nest b k) .no
theorem nest_one (b : List Nat) : ∀ k, One (nest b k)
  | 0 => rfl
  | _ + 1 => rfl
theorem nest_dps (b : List Nat) : ∀ k, dps (nest b k) = k
  | 0 => rfl
  | k + 1 => by simp [nest, dps, nest_dps b k]
theorem nest_rows (b : List Nat) : ∀ k, rows (nest b k) = ((List.range k).map fun (i : Nat) => (⟨true, [], (k : Int) - (i : Int)⟩ : Nd)) ++ [⟨false, b, 0⟩]
  | 0 => rfl
  | k + 1 => by
    have h := nest_rows b k
    have hl : (rows (nest b k)).length = k + 1 := by rw [h]; simp
    rw [nest, rows, rows, List.append_nil, hl, h, List.range_succ_eq_map]
    simp only [List.map_cons, List.map_map, List.cons_append]
    congr 1
    simp
    omega
theorem hea_le {n : Nat} (m : Nat) (h : n ≤ 1048576) : (hea n m).length ≤ 9 := by
  have := nbl_le8 h
  unfold hea
  split
  · simp
  · simp [bdig_length]; omega
theorem nest_long (b : List Nat) (hb : b.length ≤ 300) : ∀ k, k ≤ 70 → (wrs (nest b k)).length ≤ 400 + 9 * k
  | 0, _ => by
    simp only [nest, wrs, List.append_nil, ws]
    split
    · omega
    · have := hea_le (n := b.length) 0 (by omega)
      rw [List.length_append]
      omega
  | k + 1, h => by
    have h1 := nest_long b hb k (by omega)
    have h2 := hea_le (n := (wrs (nest b k)).length) 64 (by omega)
    simp only [nest, wrs, List.append_nil, List.length_append]
    omega

/-! Bytes of a number -/
theorem bdig_get : ∀ k n i, i < k → (bdig k n).getD i 0 = n / 256 ^ (k - 1 - i) % 256
  | k + 1, n, i, h => by
    rw [bdig]
    by_cases e : i < k
    · rw [getD_left _ _ (by rw [bdig_length]; exact e), bdig_get k (n / 256) i e, Nat.div_div_eq_div_mul, ← Nat.pow_succ', show (k - 1 - i).succ = k + 1 - 1 - i by omega]
    · obtain rfl : i = k := by omega
      have : (bdig i (n / 256) ++ [n % 256])[i]? = some (n % 256) := by rw [List.getElem?_append_right (by rw [bdig_length]; exact Nat.le_refl _), bdig_length, Nat.sub_self]; rfl
      rw [List.getD, this, show i + 1 - 1 - i = 0 by omega]
      simp
theorem bdig_drop : ∀ k j n, (bdig (j + k) n).drop j = bdig k n
  | 0, j, n => by
    rw [Nat.add_zero, List.drop_eq_nil_of_le (by rw [bdig_length]; exact Nat.le_refl _)]
    rfl
  | k + 1, j, n => by rw [← Nat.add_assoc, bdig, bdig, List.drop_append_of_le_length (by rw [bdig_length]; omega), bdig_drop k j]
/-- The first bytes of a number that has fewer are noughts; the next one isn't. -/
theorem bdig_nought {n k i : Nat} (hi : i < k - nbl n) (hk : nbl n ≤ k) : (bdig k n).getD i 0 = 0 := by
  rw [bdig_get k n i (by omega), Nat.div_eq_of_lt, Nat.zero_mod]
  exact Nat.lt_of_lt_of_le (nbl_lt n) (Nat.pow_le_pow_right (by decide) (by omega))
theorem bdig_first {n k : Nat} (hn : n ≠ 0) (hk : nbl n ≤ k) : (bdig k n).getD (k - nbl n) 0 ≠ 0 := by
  have hp : nbl n ≠ 0 := by simp [nbl, hn]
  have a := nbl_le hn
  have b := nbl_lt n
  rw [bdig_get k n _ (by omega), show k - 1 - (k - nbl n) = nbl n - 1 by omega]
  have e1 : n / 256 ^ (nbl n - 1) < 256 := by
    rw [Nat.div_lt_iff_lt_mul (Nat.pow_pos (by decide)), ← Nat.pow_succ', show (nbl n - 1).succ = nbl n by omega]
    exact b
  have e2 : 0 < n / 256 ^ (nbl n - 1) := Nat.div_pos a (Nat.pow_pos (by decide))
  rw [Nat.mod_eq_of_lt e1]
  omega
theorem nbl_le_of {n k : Nat} (h : n < 256 ^ k) : nbl n ≤ k := by
  by_cases h0 : n = 0
  · simp [nbl, h0]
  · have a := nbl_le h0
    have : nbl n - 1 < k := (Nat.pow_lt_pow_iff_right (by decide)).1 (Nat.lt_of_le_of_lt a h)
    omega

/-! Bytes by their place -/
/-- n bytes from a place on. -/
def bf (f : Nat → Nat) (a n : Nat) : List Nat := (List.range n).map fun i => f (a + i)
theorem bf_length (f : Nat → Nat) (a n : Nat) : (bf f a n).length = n := by simp [bf]
theorem bf_get (f : Nat → Nat) (a : Nat) {n i : Nat} (h : i < n) : (bf f a n).getD i 0 = f (a + i) := by simp [bf, List.getD, h]
theorem bf_drop (f : Nat → Nat) (a : Nat) {n k : Nat} (h : k ≤ n) : (bf f a n).drop k = bf f (a + k) (n - k) := by
  apply List.ext_getElem?
  intro i
  rw [List.getElem?_drop]
  by_cases hi : i < n - k
  · simp [bf, hi, show k + i < n by omega, Nat.add_assoc]
  · rw [List.getElem?_eq_none (by rw [bf_length]; omega), List.getElem?_eq_none (by rw [bf_length]; omega)]
theorem bf_take (f : Nat → Nat) (a : Nat) {n k : Nat} (h : k ≤ n) : (bf f a n).take k = bf f a k := by
  apply List.ext_getElem?
  intro i
  by_cases hi : i < k
  · rw [List.getElem?_take_of_lt hi]
    simp [bf, hi, show i < n by omega]
  · rw [List.getElem?_eq_none (by rw [List.length_take, bf_length]; omega), List.getElem?_eq_none (by rw [bf_length]; omega)]
theorem bf_cons (f : Nat → Nat) (a n : Nat) : bf f a (n + 1) = f a :: bf f (a + 1) n := by
  rw [bf, List.range_succ_eq_map]
  simp only [List.map_cons, List.map_map, Nat.add_zero, bf]
  congr 1
  refine List.map_congr_left fun i _ => ?_
  simp only [Function.comp]
  congr 1
  omega
theorem bf_app (f : Nat → Nat) (a n m : Nat) : bf f a n ++ bf f (a + n) m = bf f a (n + m) := by
  simp only [bf, List.range_add, List.map_append, List.map_map]
  congr 1
  refine List.map_congr_left fun i _ => ?_
  simp only [Function.comp, Nat.add_assoc]
theorem bf_congr {f g : Nat → Nat} {a b n : Nat} (h : ∀ i, i < n → f (a + i) = g (b + i)) : bf f a n = bf g b n := List.map_congr_left fun i hi => h i (List.mem_range.1 hi)
theorem bf_list (l : List Nat) : bf (fun i => l.getD i 0) 0 l.length = l := by
  apply List.ext_getElem?
  intro i
  by_cases hi : i < l.length
  · simp [bf, List.getD, hi]
  · rw [List.getElem?_eq_none (by rw [bf_length]; omega), List.getElem?_eq_none (by omega)]
end Go.Proofs.Ytfpeliolngfkpaa.SmWord
