/- What the functions Product, MulMod, AddMod and Exp of package wide do, in numbers; all older memory is as it was. -/
import Derived.Test.YtapkadmpfoeljaaWideB
namespace Go.Proofs.Ytapkadmpfoeljaa
open Go.RowKit SmWord
set_option maxRecDepth 100000

namespace SmWord
theorem part_add (b n d k i : Nat) (hb : 1 < b) (hn : n < b ^ k) (hd : d < b) : (n + d * b ^ k) / b ^ i % b = if i = k then d else n / b ^ i % b := by
  have hp : 0 < b := by omega
  rcases Nat.lt_trichotomy i k with h | h | h
  · rw [if_neg (by omega)]
    have e : b ^ k = b ^ i * (b * b ^ (k - i - 1)) := by rw [← Nat.pow_succ', ← Nat.pow_add]; congr 1; omega
    have e2 : d * (b ^ i * (b * b ^ (k - i - 1))) = b ^ i * (b * (d * b ^ (k - i - 1))) := by rw [Nat.mul_left_comm, Nat.mul_left_comm d]
    rw [e, e2, Nat.add_mul_div_left _ _ (Nat.pow_pos hp), Nat.add_mul_mod_self_left]
  · subst h
    rw [if_pos rfl, Nat.add_mul_div_right _ _ (Nat.pow_pos hp), Nat.div_eq_of_lt hn, Nat.zero_add, Nat.mod_eq_of_lt hd]
  · rw [if_neg (by omega)]
    have h1 : n + d * b ^ k < b ^ (k + 1) := by
      have : (d + 1) * b ^ k ≤ b * b ^ k := Nat.mul_le_mul_right _ hd
      rw [Nat.add_mul] at this
      rw [Nat.pow_succ, Nat.mul_comm (b ^ k)]
      omega
    have h2 : b ^ (k + 1) ≤ b ^ i := Nat.pow_le_pow_right hp h
    have h3 : b ^ k ≤ b ^ (k + 1) := Nat.pow_le_pow_right hp (by omega)
    rw [Nat.div_eq_of_lt (by omega), Nat.div_eq_of_lt (by omega)]
theorem lb_add (n d k i : Nat) (hn : n < B ^ k) (hd : d < B) : lb (n + d * B ^ k) i = if i = k then d else lb n i := by
  unfold lb
  exact part_add B n d k i (by decide) hn hd
/-- A product with the k lowest parts. -/
def pk (A b k : Nat) : Nat := A * (b % B ^ k)
theorem pk_succ (A b k : Nat) : pk A b (k + 1) = pk A b k + A * lb b k * B ^ k := by
  unfold pk lb
  rw [Nat.pow_succ, Nat.mod_mul, Nat.mul_add, Nat.mul_comm (B ^ k), Nat.mul_assoc]
theorem pk_hi_lt (A b k : Nat) (hA : A < M) : pk A b k / B ^ k < M := by
  have hp : 0 < B ^ k := Nat.pow_pos (by decide)
  rw [Nat.div_lt_iff_lt_mul hp]
  unfold pk
  exact Nat.lt_of_le_of_lt (Nat.mul_le_mul_left _ (Nat.le_of_lt (Nat.mod_lt _ hp))) (Nat.mul_lt_mul_of_pos_right hA hp)
theorem pk_sum (A b k : Nat) : pk A b k / B ^ k + A * lb b k = pk A b (k + 1) / B ^ k := by
  have hp : 0 < B ^ k := Nat.pow_pos (by decide)
  rw [pk_succ, Nat.add_mul_div_right _ _ hp]
theorem pk_lo (A b k : Nat) : pk A b (k + 1) % B ^ (k + 1) = pk A b k % B ^ k + l0 (pk A b (k + 1) / B ^ k) * B ^ k := by
  unfold l0
  rw [Nat.pow_succ, Nat.mod_mul, Nat.mul_comm (B ^ k)]
  congr 1
  rw [pk_succ, Nat.add_mul_mod_self_right]
theorem num_shift {S : Nat} (_hS : S / M < B) : num (l1 S) (l2 S) (l3 S) (S / M) = S / B := by
  have h := num_parts S
  have d := Nat.div_add_mod S M
  rw [← h] at d
  have hM : M = B * (B * (B * B)) := by decide
  have e : S = l0 S + B * num (l1 S) (l2 S) (l3 S) (S / M) := by
    conv => lhs; rw [← d]
    generalize S / M = t
    rw [hM]; unfold num; simp only [B]; omega
  have hl := (l_lt S).1
  generalize num (l1 S) (l2 S) (l3 S) (S / M) = z at *
  generalize l0 S = y at *
  rw [e, Nat.add_mul_div_left _ _ (by decide), Nat.div_eq_of_lt hl, Nat.zero_add]
end SmWord

theorem wa_put (n d k : Nat) (hk : k < 4) (hn : n < B ^ k) (hd : d < B) : (wa n).setIfInBounds k (.int .u64 ((d : Nat) : Int)) = wa (n + d * B ^ k) := by
  apply Array.ext_getElem?
  intro i
  by_cases hi : i < 4
  · rw [wa_lb _ i hi, lb_add n d k i hn hd]
    by_cases hij : i = k
    · subst hij
      rw [if_pos rfl, Array.getElem?_setIfInBounds_self_of_lt (by rw [wa_size]; exact hi)]
    · rw [if_neg hij, Array.getElem?_setIfInBounds_ne (Ne.symm hij), wa_lb _ i hi]
  · rw [Array.getElem?_eq_none (by rw [Array.size_setIfInBounds, wa_size]; omega), Array.getElem?_eq_none (by rw [wa_size]; omega)]
theorem wa_four {a b c d : Nat} (ha : a < B) (hb : b < B) (hc : c < B) (hd : d < B) :
    ((((wa 0).setIfInBounds 0 (Value.int .u64 ((a : Nat) : Int))).setIfInBounds 1 (.int .u64 ((b : Nat) : Int))).setIfInBounds 2 (.int .u64 ((c : Nat) : Int))).setIfInBounds 3 (.int .u64 ((d : Nat) : Int)) = wa (num a b c d) :=
  (Value.agg.inj (wd_num ha hb hc hd)).symm

theorem product_wd (a b : Nat) (w : World) :
    Calls Try.prog 19 #[wd a, wd b] w fun e w' => e = .returned (.tuple #[wd (a % M * (b % M)), wd (a % M * (b % M) / M)]) ∧ Below w.heap.size w w' := by
  have hA : a % M < M := Nat.mod_lt _ (by decide)
  have e4 : pk (a % M) b 4 = a % M * (b % M) := by unfold pk; rw [show B ^ 4 = M by decide]
  have hS : ∀ k, pk (a % M) b (k + 1) / B ^ k / M < B := fun k => by
    have h := pk_hi_lt (a % M) b (k + 1) hA
    rw [Nat.pow_succ, ← Nat.div_div_eq_div_mul] at h
    generalize pk (a % M) b (k + 1) / B ^ k = z at *
    rw [Nat.div_lt_iff_lt_mul (by decide)] at h ⊢
    rw [Nat.mul_comm]; exact h
  have key := product_walk a b (fun k => pk (a % M) b k % B ^ k) (fun k => pk (a % M) b k / B ^ k) (fun k => pk (a % M) b (k + 1) / B ^ k) (fun k => pk (a % M) b (k + 1) / B ^ k / M) w
    (Lib.hid (by show pk (a % M) b 0 % B ^ 0 = 0; rw [Nat.pow_zero, Nat.mod_one])) (Lib.hid (by show pk (a % M) b 0 / B ^ 0 = 0; unfold pk; rw [Nat.pow_zero, Nat.mod_one, Nat.mul_zero, Nat.zero_div]))
    (Lib.hid fun k _ w => by
      have := addTimes_wd (pk (a % M) b k / B ^ k) a (lb b k) (lb_lt _ _) w
      rw [Nat.mod_eq_of_lt (pk_hi_lt (a % M) b k hA), pk_sum] at this
      exact this)
    (Lib.hid fun k hk => by
      show _ = wa (pk (a % M) b (k + 1) % B ^ (k + 1))
      rw [pk_lo]
      exact wa_put _ _ k hk (Nat.mod_lt _ (Nat.pow_pos (by decide))) (l_lt _).1)
    (Lib.hid fun k _ => by
      obtain ⟨_, A1, A2, A3⟩ := l_lt (pk (a % M) b (k + 1) / B ^ k)
      show _ = wa (pk (a % M) b (k + 1) / B ^ (k + 1))
      rw [wa_four A1 A2 A3 (hS k), num_shift (hS k), Nat.div_div_eq_div_mul, ← Nat.pow_succ])
  simp only [e4, show B ^ 4 = M by decide] at key
  rw [wd_congr (Nat.mod_mod _ M)] at key
  exact key

theorem mulMod_wd (a b m : Nat) (w : World) :
    Calls Try.prog 21 #[wd a, wd b, wd m] w fun e w' => e = .returned (wd (rs (a % M * (b % M)) (m % M))) ∧ Below w.heap.size w w' :=
  mulMod_walk a b m _ _ _ w (Lib.hid fun w => product_wd a b w) (Lib.hid fun w => by
    have := left_wd (a % M * (b % M) / M) (a % M * (b % M)) m w
    have hlt : a % M * (b % M) / M < M := by
      rw [Nat.div_lt_iff_lt_mul (by decide)]
      exact Nat.lt_of_le_of_lt (Nat.mul_le_mul_left _ (Nat.le_of_lt (Nat.mod_lt b (show 0 < M by decide)))) (Nat.mul_lt_mul_of_pos_right (Nat.mod_lt a (show 0 < M by decide)) (by decide))
    rw [Nat.mod_eq_of_lt hlt, Nat.mul_comm (a % M * (b % M) / M), Nat.div_add_mod] at this
    exact this)

theorem addMod_wd (a b m : Nat) (w : World) :
    Calls Try.prog 20 #[wd a, wd b, wd m] w fun e w' => e = .returned (wd (rs (a % M + b % M) (m % M))) ∧ Below w.heap.size w w' := by
  have ha : a % M < M := Nat.mod_lt _ (by decide)
  have hb : b % M < M := Nat.mod_lt _ (by decide)
  have e : (a + b) % M = (a % M + b % M) % M := Nat.add_mod _ _ _
  have d := Nat.div_add_mod (a % M + b % M) M
  have hc : (a % M + b % M) / M = if (a + b) % M < a % M then 1 else 0 := by
    rw [e]
    by_cases c : a % M + b % M < M
    · rw [Nat.div_eq_of_lt c, Nat.mod_eq_of_lt c, if_neg (by omega)]
    · have h5 : (a % M + b % M) / M = 1 := by rw [Nat.div_eq_of_lt_le] <;> omega
      rw [h5] at d
      rw [h5, if_pos (by omega)]
  refine addMod_walk a b m ((a % M + b % M) / M) _ (cmpN ((a + b) % M) (a % M)) w (Lib.hid fun w => compare_wd (a + b) a w) (Lib.hid fun h => ?_) (Lib.hid fun h => ?_) (Lib.hid fun w => ?_)
  · rw [hc]
    unfold cmpN at h
    split at h
    · rename_i h1; rw [if_pos h1]
    · split at h <;> omega
  · rw [hc]
    unfold cmpN at h
    split at h
    · omega
    · rename_i h1; rw [if_neg h1]
  · have := left_wd ((a % M + b % M) / M) (a + b) m w
    have hlt : (a % M + b % M) / M < M := by rw [hc]; split <;> decide
    rw [Nat.mod_eq_of_lt hlt, e, Nat.mul_comm ((a % M + b % M) / M), d] at this
    exact this

theorem exp_wd (a n : Nat) (w : World) :
    Calls Try.prog 22 #[wd a, wd n] w fun e w' => e = .returned (wd (a ^ (n % M))) ∧ Below w.heap.size w w' := by
  have hN : n % M < M := Nat.mod_lt _ (by decide)
  have hL : bl (n % M) ≤ 256 := bl_le (by rw [← M_2]; exact hN)
  have h0 : n % M / 2 ^ bl (n % M) = 0 := by
    by_cases hz : n % M = 0
    · rw [hz, Nat.zero_div]
    · obtain ⟨k, e, _, h2⟩ := bl_spec hz
      rw [e]; exact Nat.div_eq_of_lt h2
  have key := exp_walk a n (bl (n % M)) (fun j => a ^ (n % M / 2 ^ j)) w hL (Lib.hid (by show a ^ (n % M / 2 ^ bl (n % M)) = 1; rw [h0, Nat.pow_zero])) (Lib.hid fun w => len_wd n w)
    (Lib.hid fun j hj => by
      have hj2 : j < 256 := by omega
      have hb := bit_congr (show n % M = n % M % M by rw [Nat.mod_mod]) hj2
      have hd : n % M / 2 ^ j = n % M / 2 ^ (j + 1) + n % M / 2 ^ (j + 1) + bitN n j := by
        rw [hb]
        unfold bitN
        have := Nat.div_add_mod (n % M / 2 ^ j) 2
        rw [Nat.div_div_eq_div_mul, ← Nat.pow_succ] at this
        generalize n % M / 2 ^ (j + 1) = u at *
        generalize n % M / 2 ^ j = v at *
        omega
      have h2 := bitN_lt n j
      refine ⟨decide (j < 256 ∧ bitN n j = 1), fun w => wbit_wd n j w (by simp only [B]; omega), fun ht => ?_, fun hf => ?_⟩
      · have h1 : bitN n j = 1 := (of_decide_eq_true ht).2
        show a ^ (n % M / 2 ^ j) % M = _
        rw [hd, h1, Nat.pow_succ, Nat.pow_add]
      · have h1 : bitN n j = 0 := by
          have := of_decide_eq_false hf
          omega
        show a ^ (n % M / 2 ^ j) % M = _
        rw [hd, h1, Nat.add_zero, Nat.pow_add])
  simp only [Nat.pow_zero, Nat.div_one] at key
  exact key
end Go.Proofs.Ytapkadmpfoeljaa
