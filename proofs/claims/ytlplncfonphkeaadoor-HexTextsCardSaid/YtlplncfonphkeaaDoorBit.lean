/- What the method Bit and the function Bits of the document's digits do: a bit of a number, and the digits of the number whose bits these are. -/
import Derived.Test.YtlplncfonphkeaaDoorRefA
import Derived.Test.YtlplncfonphkeaaDoorBitM
namespace Go.Proofs.YtlplncfonphkeaaDoor
open Go.RowKit SmWord
set_option maxRecDepth 100000

/-- A bit of n; 0 where there is none. -/
def bitI (n : Nat) (i : Int) : Int := if i < 0 ∨ 255 < i then 0 else ((bitN n i.toNat : Nat) : Int)
set_option maxHeartbeats 1000000 in
theorem bit_low (n : Nat) (i : Int) (w : World) (h1 : i < 0) : Calls Tryd.prog 40 #[.agg (da n), .int .i64 i] w fun e w' => e = .returned (.int .i64 0) ∧ Below w.heap.size w w' := by
  have hds : (da n).size = 32 := arr_size _ _ _
  go_enter Tryd.func40, Tryd.ntmps40
  go_wp2
  go_ret
  exact ⟨rfl, (Below.refl _ _).alloc (Nat.le_refl _) _⟩
set_option maxHeartbeats 1000000 in
theorem bit_high (n : Nat) (i : Int) (w : World) (h1 : 255 < i) : Calls Tryd.prog 40 #[.agg (da n), .int .i64 i] w fun e w' => e = .returned (.int .i64 0) ∧ Below w.heap.size w w' := by
  have hds : (da n).size = 32 := arr_size _ _ _
  have h0 : ¬ i < 0 := by omega
  go_enter Tryd.func40, Tryd.ntmps40
  go_wp2
  go_ret
  exact ⟨rfl, (Below.refl _ _).alloc (Nat.le_refl _) _⟩
set_option maxHeartbeats 1000000 in
theorem bit_mid (n k : Nat) (w : World) (hk : k < 256) : Calls Tryd.prog 40 #[.agg (da n), .int .i64 (k : Int)] w fun e w' => e = .returned (.int .i64 ((bitN n k : Nat) : Int)) ∧ Below w.heap.size w w' := by
  have hds : (da n).size = 32 := arr_size _ _ _
  have h0 : ¬ (k : Int) < 0 := by omega
  have h1 : ¬ (255 : Int) < (k : Int) := by omega
  have hq : k / 8 < 32 := by omega
  have fb : (w.alloc (.cells (da n) 65)).heap[w.heap.size]? = some (.cells (da n) 65) := heap_alloc_new _ _
  have c1 := blk_cell fb (arr_get .i64 _ hq)
  clear fb
  have HK := Lib.hid (dig_bit n k)
  have d1 := dig_lt n (k / 8)
  go_enter Tryd.func40, Tryd.ntmps40
  go_wp2
  go_loop [5, 6] (fun x i => ∃ j : Nat, j ≤ k % 8 ∧ i = .int .i64 j ∧ x = .int .i64 ((dig n (k / 8) / 2 ^ j : Nat) : Int)) (fun _ i => 8 - (intOf i).toNat)
  case atStart => exact ⟨0, Nat.zero_le _, rfl, by simp⟩
  case round =>
    obtain ⟨j, hj, rfl, rfl⟩ := hrel
    have d2 : dig n (k / 8) / 2 ^ j < 256 := Nat.lt_of_le_of_lt (Nat.div_le_self _ _) d1
    by_cases hlt : j < k % 8
    · have HJ : Hid (dig n (k / 8) / 2 ^ (j + 1) = dig n (k / 8) / 2 ^ j / 2) := Lib.hid (by rw [Nat.pow_succ, Nat.div_div_eq_div_mul])
      generalize dig n (k / 8) / 2 ^ j = y at *
      go_wp2
      go_round
      case rel => exact ⟨j + 1, by omega, by go_num, by rw [HJ.out]; rfl⟩
      case measure => simp [intOf]; omega
    · obtain rfl : j = k % 8 := by omega
      have HJ : Hid (dig n (k / 8) / 2 ^ (k % 8) % 2 = bitN n k) := HK
      generalize dig n (k / 8) / 2 ^ (k % 8) = y at *
      go_wp2
      go_ret
      exact ⟨by rw [← HJ.out]; rfl, (Below.refl _ _).alloc (Nat.le_refl _) _⟩
theorem bit_ref (n : Nat) (i : Int) (w : World) : Calls Tryd.prog 40 #[.agg (da n), .int .i64 i] w fun e w' => e = .returned (.int .i64 (bitI n i)) ∧ Below w.heap.size w w' := by
  unfold bitI
  by_cases h1 : i < 0
  · rw [if_pos (.inl h1)]; exact bit_low n i w h1
  · by_cases h2 : 255 < i
    · rw [if_pos (.inr h2)]; exact bit_high n i w h2
    · rw [if_neg (by omega)]
      obtain ⟨k, rfl⟩ := Int.eq_ofNat_of_zero_le (show 0 ≤ i by omega)
      rw [Int.toNat_natCast]
      exact bit_mid n k w (by omega)
end Go.Proofs.YtlplncfonphkeaaDoor
