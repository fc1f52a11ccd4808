/- What the functions Shl and Shr of package word do, in numbers: for every word m and every n, Shl returns m * 2^n (going round) and Shr returns m / 2^n, and all older memory is as it was. -/
import Derived.Test.YtfpeliolngfkpaaShift
namespace Go.Proofs.Ytfpeliolngfkpaa
open Go.RowKit SmWord
set_option maxRecDepth 100000

theorem int_mul_pow (a r : Nat) : (a : Int) * 2 ^ r = ((a * 2 ^ r : Nat) : Int) := by
  rw [Int.natCast_mul, Int.natCast_pow]; rfl
theorem int_div_pow (a r : Nat) : (a : Int) / 2 ^ r = ((a / 2 ^ r : Nat) : Int) := by
  rw [Int.natCast_ediv, Int.natCast_pow]; rfl
theorem slo_int (a r : Nat) : IntKind.u64.wrap ((a : Int) * 2 ^ ((r : Nat) : Int).toNat) = ((slo a r : Nat) : Int) := by
  rw [Int.toNat_natCast, int_mul_pow, IntKind.wrap_u64]; unfold slo; simp only [B]; omega
theorem shi_int (a r : Nat) (hr : r < 64) : (a : Int) / 2 ^ (64 - ((r : Nat) : Int)).toNat = ((shi a r : Nat) : Int) := by
  rw [show (64 - ((r : Nat) : Int)).toNat = 64 - r by omega, int_div_pow]; rfl
theorem shl_cell (a b r : Nat) (hb : b < B) (hr : r < 64) :
    bits .or .u64 (IntKind.u64.wrap ((a : Int) * 2 ^ ((r : Nat) : Int).toNat)) ((b : Int) / 2 ^ (64 - ((r : Nat) : Int)).toNat) = ((slo a r + shi b r : Nat) : Int) := by
  have h := shl_or (a := a) hb (r := r) (by omega)
  have hs : shi b r < B := by omega
  rw [slo_int, shi_int b r hr, u64_or_nat _ _ (slo_lt a r) hs, h.1]

theorem shr_cell (a b r : Nat) (ha : a < B) (hr : r < 64) :
    bits .or .u64 ((a : Int) / 2 ^ ((r : Nat) : Int).toNat) (IntKind.u64.wrap ((b : Int) * 2 ^ (64 - ((r : Nat) : Int)).toNat)) = ((down a b r : Nat) : Int) := by
  have h := down_or (b := b) ha (r := r) (by omega)
  have e : IntKind.u64.wrap ((b : Int) * 2 ^ (64 - ((r : Nat) : Int)).toNat) = ((b * 2 ^ (64 - r) % B : Nat) : Int) := by
    rw [show (64 - ((r : Nat) : Int)).toNat = 64 - r by omega, int_mul_pow, IntKind.wrap_u64]; simp only [B]; omega
  rw [e, Int.toNat_natCast, int_div_pow, u64_or_nat _ _ (Nat.lt_of_le_of_lt (Nat.div_le_self _ _) ha) (Nat.mod_lt _ (by decide)), h.1]
theorem shr_last (a r : Nat) : (a : Int) / 2 ^ ((r : Nat) : Int).toNat = ((down a 0 r : Nat) : Int) := by
  rw [Int.toNat_natCast, int_div_pow]; unfold down; rw [Nat.zero_mod, Nat.zero_mul, Nat.add_zero]
theorem down_zero (r : Nat) : down 0 0 r = 0 := by unfold down; simp

end Go.Proofs.Ytfpeliolngfkpaa
