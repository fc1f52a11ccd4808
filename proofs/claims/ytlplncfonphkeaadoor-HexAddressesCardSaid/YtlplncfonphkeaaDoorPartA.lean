/- What the functions Bit, Byte, Small, Len and Size of package word do, for every word: a bit, a byte, whether it is small, how many bits and bytes it has; all older memory is as it was. -/
import Derived.Test.YtlplncfonphkeaaDoorFixed
import Derived.Test.YtlplncfonphkeaaDoorRefA
import Derived.Test.YtlplncfonphkeaaDoorBlen
namespace Go.Proofs.YtlplncfonphkeaaDoor
open Go.RowKit SmWord
set_option maxRecDepth 100000

theorem lb_bit (m n : Nat) : lb m (n / 64) / 2 ^ (n % 64) % 2 = bitN m n := by
  unfold lb bitN
  have h8 : n % 64 < 64 := Nat.mod_lt _ (by decide)
  have hB : B = 2 ^ 64 := rfl
  have e2 : B = 2 ^ (n % 64) * 2 ^ (64 - n % 64) := by rw [← Nat.pow_add, hB]; congr 1; omega
  have e3 : (2 : Nat) ^ (64 - n % 64) = 2 * 2 ^ (63 - n % 64) := by rw [← Nat.pow_succ']; congr 1; omega
  have e4 : B ^ (n / 64) * 2 ^ (n % 64) = 2 ^ n := by rw [hB, ← Nat.pow_mul, ← Nat.pow_add]; congr 1; omega
  conv => lhs; arg 1; arg 1; arg 2; rw [e2]
  rw [Nat.mod_mul_right_div_self, e3, Nat.mod_mul_right_mod, Nat.div_div_eq_div_mul, e4]
theorem lb_lt (m i : Nat) : lb m i < B := Nat.mod_lt _ (by decide)

set_option maxHeartbeats 1000000 in
theorem byte_high (m : Nat) (n : Int) (w : World) (h : 32 ≤ n) : Calls Tryd.prog 33 #[wd m, .int .u64 n] w fun e w' => e = .returned (.int .u8 0) ∧ Below w.heap.size w w' := by
  have hz := wa_size
  go_enter Tryd.func33, Tryd.ntmps33
  go_wp2
  go_ret
  exact ⟨rfl, (Below.refl _ _).alloc (Nat.le_refl _) _⟩
set_option maxHeartbeats 1000000 in
theorem byte_walk (m n : Nat) (w : World) (h : n < 32) :
    Calls Tryd.prog 33 #[wd m, .int .u64 (n : Int)] w fun e w' => e = .returned (.int .u8 ((dig m (31 - n) : Nat) : Int)) ∧ Below w.heap.size w w' := by
  have hz := wa_size
  have hq : (31 - n) / 8 < 4 := by omega
  have fb : (w.alloc (.cells (wa m) 25)).heap[w.heap.size]? = some (.cells (wa m) 25) := heap_alloc_new _ _
  have c1 := blk_cell fb (wa_lb m _ hq)
  clear fb
  go_enter Tryd.func33, Tryd.ntmps33
  go_wp2
  have e1 : ((lb m ((31 - n) / 8) : Nat) : Int) / 2 ^ (8 * ((31 - n) % 8)) = ((lb m ((31 - n) / 8) / 2 ^ (8 * ((31 - n) % 8)) : Nat) : Int) := int_div_pow _ _
  have e2 : ((lb m ((31 - n) / 8) / 2 ^ (8 * ((31 - n) % 8)) : Nat) : Int) % 256 = ((dig m (31 - n) : Nat) : Int) := by rw [← lb_dig m (31 - n)]; rfl
  rw [e1, e2]
  go_ret
  exact ⟨rfl, (Below.refl _ _).alloc (Nat.le_refl _) _⟩
/-- The byte of a word at a place, the highest first; 0 where there is none. -/
def byteV (m n : Nat) : Nat := if n < 32 then dig m (31 - n) else 0
theorem byte_wd (m n : Nat) (w : World) : Calls Tryd.prog 33 #[wd m, .int .u64 (n : Int)] w fun e w' => e = .returned (.int .u8 ((byteV m n : Nat) : Int)) ∧ Below w.heap.size w w' := by
  unfold byteV
  by_cases h : n < 32
  · rw [if_pos h]; exact byte_walk m n w h
  · rw [if_neg h]; exact byte_high m n w (by omega)

/-- Is a word below 2^64? -/
def smallB (m : Nat) : Bool := decide (m % M = l0 m % M)
end Go.Proofs.YtlplncfonphkeaaDoor
