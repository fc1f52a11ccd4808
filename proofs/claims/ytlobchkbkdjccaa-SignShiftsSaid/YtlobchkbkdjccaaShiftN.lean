/- What the functions Shl and Shr of package word do, in numbers: for every word m and every n, Shl returns m * 2^n (going round) and Shr returns m / 2^n, and all older memory is as it was. -/
import Derived.Test.YtlobchkbkdjccaaShift
namespace Go.Proofs.Ytlobchkbkdjccaa
open Go.RowKit SmWord
set_option maxRecDepth 100000

theorem int_mul_pow (a r : Nat) : (a : Int) * 2 ^ r = ((a * 2 ^ r : Nat) : Int) := by
  rw [Int.natCast_mul, Int.natCast_pow]; rfl
theorem int_div_pow (a r : Nat) : (a : Int) / 2 ^ r = ((a / 2 ^ r : Nat) : Int) := by
  rw [Int.natCast_ediv, Int.natCast_pow]; rfl
theorem slo_int (a r : Nat) : IntKind.u64.wrap ((a : Int) * 2 ^ ((r : Nat) : Int).toNat) = ((slo a r : Nat) : Int) := by
  rw [Int.toNat_natCast, int_mul_pow, IntKind.wrap_u64]; unfold slo; simp only [B]; omega
theorem shi_int (a r : Nat) (hr : r < 64) : (a : Int) / 2 ^ (64 - ((r : Nat) : Int)).toNat = ((shi a r : Nat) : Int) := by
  rw [show (64 - ((r : Nat) : Int)).toNat = 64 - r by omega, int_div_pow]; rfl
theorem shl_cell (a b r : Nat) (hb : b < B) (hr : r < 64) :
    bits .or .u64 (IntKind.u64.wrap ((a : Int) * 2 ^ ((r : Nat) : Int).toNat)) ((b : Int) / 2 ^ (64 - ((r : Nat) : Int)).toNat) = ((slo a r + shi b r : Nat) : Int) := by
  have h := shl_or (a := a) hb (r := r) (by omega)
  have hs : shi b r < B := by omega
  rw [slo_int, shi_int b r hr, u64_or_nat _ _ (slo_lt a r) hs, h.1]

theorem shr_cell (a b r : Nat) (ha : a < B) (hr : r < 64) :
    bits .or .u64 ((a : Int) / 2 ^ ((r : Nat) : Int).toNat) (IntKind.u64.wrap ((b : Int) * 2 ^ (64 - ((r : Nat) : Int)).toNat)) = ((down a b r : Nat) : Int) := by
  have h := down_or (b := b) ha (r := r) (by omega)
  have e : IntKind.u64.wrap ((b : Int) * 2 ^ (64 - ((r : Nat) : Int)).toNat) = ((b * 2 ^ (64 - r) % B : Nat) : Int) := by
    rw [show (64 - ((r : Nat) : Int)).toNat = 64 - r by omega, int_mul_pow, IntKind.wrap_u64]; simp only [B]; omega
  rw [e, Int.toNat_natCast, int_div_pow, u64_or_nat _ _ (Nat.lt_of_le_of_lt (Nat.div_le_self _ _) ha) (Nat.mod_lt _ (by decide)), h.1]
theorem shr_last (a r : Nat) : (a : Int) / 2 ^ ((r : Nat) : Int).toNat = ((down a 0 r : Nat) : Int) := by
  rw [Int.toNat_natCast, int_div_pow]; unfold down; rw [Nat.zero_mod, Nat.zero_mul, Nat.add_zero]
theorem down_zero (r : Nat) : down 0 0 r = 0 := by unfold down; simp

theorem shl_wd (m n : Nat) (hn : n < B) (w : World) :
    Calls Try.prog 40 #[wd m, .int .u64 (n : Int)] w fun e w' => e = .returned (wd (m * 2 ^ n)) ∧ Below w.heap.size w w' := by
  obtain ⟨A0, A1, A2, A3⟩ := l_lt m
  have hq : n / 64 = 0 ∨ n / 64 = 1 ∨ n / 64 = 2 ∨ n / 64 = 3 ∨ 4 ≤ n / 64 := by omega
  obtain ⟨r, hr⟩ : ∃ r, r = n % 64 := ⟨_, rfl⟩
  have r1 : r < 64 := by omega
  have c1 := shl_or (a := l1 m) A0 (r := r) (by omega)
  have c2 := shl_or (a := l2 m) A1 (r := r) (by omega)
  have c3 := shl_or (a := l3 m) A2 (r := r) (by omega)
  have e := shl_num (l0 m) (l1 m) (l2 m) (l3 m) (r := r) (by omega)
  rw [num_parts, Nat.mod_mul_mod] at e
  rcases hq with hq | hq | hq | hq | hq
  · have hn' : n = r := by omega
    rw [wd_congr (m := m * 2 ^ n) (n := num (slo (l0 m) r) (slo (l1 m) r + shi (l0 m) r) (slo (l2 m) r + shi (l1 m) r) (slo (l3 m) r + shi (l2 m) r)) (by rw [e, hn']), wd_num (slo_lt _ _) c1.2 c2.2 c3.2]
    have key := shl_walk0 (l0 m) (l1 m) (l2 m) (l3 m) n r w (by omega) (by omega) (by omega) (by omega) (by omega)
    rw [slo_int, shl_cell _ _ _ A0 r1, shl_cell _ _ _ A1 r1, shl_cell _ _ _ A2 r1] at key
    exact key
  · have hn' : 2 ^ n = 2 ^ r * B := by rw [show n = r + 64 by omega, Nat.pow_add]
    rw [wd_congr (m := m * 2 ^ n) (n := num 0 (slo (l0 m) r) (slo (l1 m) r + shi (l0 m) r) (slo (l2 m) r + shi (l1 m) r)) (by rw [num_up' e, hn', ← Nat.mul_assoc]), wd_num (by decide) (slo_lt _ _) c1.2 c2.2]
    have key := shl_walk1 (l0 m) (l1 m) (l2 m) (l3 m) n r w (by omega) (by omega) (by omega) (by omega) (by omega)
    rw [slo_int, shl_cell _ _ _ A0 r1, shl_cell _ _ _ A1 r1] at key
    exact key
  · have hn' : 2 ^ n = 2 ^ r * B * B := by rw [show n = r + 64 + 64 by omega, Nat.pow_add, Nat.pow_add]
    rw [wd_congr (m := m * 2 ^ n) (n := num 0 0 (slo (l0 m) r) (slo (l1 m) r + shi (l0 m) r)) (by rw [num_up' (num_up' e), hn', ← Nat.mul_assoc, ← Nat.mul_assoc]), wd_num (by decide) (by decide) (slo_lt _ _) c1.2]
    have key := shl_walk2 (l0 m) (l1 m) (l2 m) (l3 m) n r w (by omega) (by omega) (by omega) (by omega) (by omega)
    rw [slo_int, shl_cell _ _ _ A0 r1] at key
    exact key
  · have hn' : 2 ^ n = 2 ^ r * B * B * B := by rw [show n = r + 64 + 64 + 64 by omega, Nat.pow_add, Nat.pow_add, Nat.pow_add]
    rw [wd_congr (m := m * 2 ^ n) (n := num 0 0 0 (slo (l0 m) r)) (by rw [num_up' (num_up' (num_up' e)), hn', ← Nat.mul_assoc, ← Nat.mul_assoc, ← Nat.mul_assoc]), wd_num (by decide) (by decide) (by decide) (slo_lt _ _)]
    have key := shl_walk3 (l0 m) (l1 m) (l2 m) (l3 m) n r w (by omega) (by omega) (by omega) (by omega) (by omega)
    rw [slo_int] at key
    exact key
  · have hM : (m * 2 ^ n) % M = 0 % M := by
      rw [show n = 256 + (n - 256) by omega, Nat.pow_add, ← Nat.mul_assoc, Nat.mul_comm m (2 ^ 256), Nat.mul_assoc]
      exact Nat.mul_mod_right M _
    rw [wd_congr hM]
    exact shl_walk4 (l0 m) (l1 m) (l2 m) (l3 m) n w (by omega) (by omega) (by simp only [B] at hn; omega)

theorem shr_wd (m n : Nat) (hn : n < B) (w : World) :
    Calls Try.prog 41 #[wd m, .int .u64 (n : Int)] w fun e w' => e = .returned (wd (m % M / 2 ^ n)) ∧ Below w.heap.size w w' := by
  obtain ⟨A0, A1, A2, A3⟩ := l_lt m
  have hq : n / 64 = 0 ∨ n / 64 = 1 ∨ n / 64 = 2 ∨ n / 64 = 3 ∨ 4 ≤ n / 64 := by omega
  obtain ⟨r, hr⟩ : ∃ r, r = n % 64 := ⟨_, rfl⟩
  have r1 : r < 64 := by omega
  have z : (0 : Nat) < B := by decide
  have g : ∀ a b : Nat, a < B → down a b r < B := fun a b h => (down_or h (by omega)).2
  rw [← num_parts m]
  rcases hq with hq | hq | hq | hq | hq
  · have hn' : n = r := by omega
    rw [show 2 ^ n = 2 ^ r by rw [hn'], ← shr_num _ _ _ _ (by omega), wd_num (g _ _ A0) (g _ _ A1) (g _ _ A2) (g _ _ A3)]
    have key := shr_walk0 (l0 m) (l1 m) (l2 m) (l3 m) n r w (by omega) (by omega) (by omega) (by omega) (by omega)
    rw [shr_cell _ _ _ A0 r1, shr_cell _ _ _ A1 r1, shr_cell _ _ _ A2 r1, shr_last] at key
    exact key
  · have hn' : 2 ^ n = B * 2 ^ r := by rw [show n = 64 + r by omega, Nat.pow_add]
    rw [hn', ← Nat.div_div_eq_div_mul, num_down A0, ← shr_num _ _ _ _ (by omega), wd_num (g _ _ A1) (g _ _ A2) (g _ _ A3) (g _ _ z), down_zero]
    have key := shr_walk1 (l0 m) (l1 m) (l2 m) (l3 m) n r w (by omega) (by omega) (by omega) (by omega) (by omega)
    rw [shr_cell _ _ _ A1 r1, shr_cell _ _ _ A2 r1, shr_last] at key
    exact key
  · have hn' : 2 ^ n = B * B * 2 ^ r := by rw [show n = 64 + 64 + r by omega, Nat.pow_add, Nat.pow_add]
    rw [hn', ← Nat.div_div_eq_div_mul, ← Nat.div_div_eq_div_mul, num_down A0, num_down A1, ← shr_num _ _ _ _ (by omega), wd_num (g _ _ A2) (g _ _ A3) (g _ _ z) (g _ _ z), down_zero]
    have key := shr_walk2 (l0 m) (l1 m) (l2 m) (l3 m) n r w (by omega) (by omega) (by omega) (by omega) (by omega)
    rw [shr_cell _ _ _ A2 r1, shr_last] at key
    exact key
  · have hn' : 2 ^ n = B * B * B * 2 ^ r := by rw [show n = 64 + 64 + 64 + r by omega, Nat.pow_add, Nat.pow_add, Nat.pow_add]
    rw [hn', ← Nat.div_div_eq_div_mul, ← Nat.div_div_eq_div_mul, ← Nat.div_div_eq_div_mul, num_down A0, num_down A1, num_down A2, ← shr_num _ _ _ _ (by omega), wd_num (g _ _ A3) (g _ _ z) (g _ _ z) (g _ _ z), down_zero]
    have key := shr_walk3 (l0 m) (l1 m) (l2 m) (l3 m) n r w (by omega) (by omega) (by omega) (by omega) (by omega)
    rw [shr_last] at key
    exact key
  · have hM : num (l0 m) (l1 m) (l2 m) (l3 m) / 2 ^ n = 0 := by
      apply Nat.div_eq_of_lt
      exact Nat.lt_of_lt_of_le (num_lt A0 A1 A2 A3) (Nat.pow_le_pow_right (n := 2) (i := 256) (by decide) (by omega))
    rw [hM]
    exact shr_walk4 (l0 m) (l1 m) (l2 m) (l3 m) n w (by omega) (by omega) (by simp only [B] at hn; omega)
end Go.Proofs.Ytlobchkbkdjccaa
