/- What the functions Bit, Byte, Small, Len and Size of package word do, for every word: a bit, a byte, whether it is small, how many bits and bytes it has; all older memory is as it was. -/
import Derived.Test.YtfpeliolngfkpaaFixed
import Derived.Test.YtfpeliolngfkpaaRefA
import Derived.Test.YtfpeliolngfkpaaBlen
namespace Go.Proofs.Ytfpeliolngfkpaa
open Go.RowKit SmWord
set_option maxRecDepth 100000

theorem lb_bit (m n : Nat) : lb m (n / 64) / 2 ^ (n % 64) % 2 = bitN m n := by
  unfold lb bitN
  have h8 : n % 64 < 64 := Nat.mod_lt _ (by decide)
  have hB : B = 2 ^ 64 := rfl
  have e2 : B = 2 ^ (n % 64) * 2 ^ (64 - n % 64) := by rw [← Nat.pow_add, hB]; congr 1; omega
  have e3 : (2 : Nat) ^ (64 - n % 64) = 2 * 2 ^ (63 - n % 64) := by rw [← Nat.pow_succ']; congr 1; omega
  have e4 : B ^ (n / 64) * 2 ^ (n % 64) = 2 ^ n := by rw [hB, ← Nat.pow_mul, ← Nat.pow_add]; congr 1; omega
  conv => lhs; arg 1; arg 1; arg 2; rw [e2]
  rw [Nat.mod_mul_right_div_self, e3, Nat.mod_mul_right_mod, Nat.div_div_eq_div_mul, e4]
theorem lb_lt (m i : Nat) : lb m i < B := Nat.mod_lt _ (by decide)

set_option maxHeartbeats 1000000 in
theorem byte_high (m : Nat) (n : Int) (w : World) (h : 32 ≤ n) : Calls Try.prog 38 #[wd m, .int .u64 n] w fun e w' => e = .returned (.int .u8 0) ∧ Below w.heap.size w w' := by
  have hz := wa_size
  go_enter Try.func38, Try.ntmps38
  go_wp2
  go_ret
  exact ⟨rfl, (Below.refl _ _).alloc (Nat.le_refl _) _⟩
set_option maxHeartbeats 1000000 in
theorem byte_walk (m n : Nat) (w : World) (h : n < 32) :
    Calls Try.prog 38 #[wd m, .int .u64 (n : Int)] w fun e w' => e = .returned (.int .u8 ((dig m (31 - n) : Nat) : Int)) ∧ Below w.heap.size w w' := by
  have hz := wa_size
  have hq : (31 - n) / 8 < 4 := by omega
  have fb : (w.alloc (.cells (wa m) 39)).heap[w.heap.size]? = some (.cells (wa m) 39) := heap_alloc_new _ _
  have c1 := blk_cell fb (wa_lb m _ hq)
  clear fb
  go_enter Try.func38, Try.ntmps38
  go_wp2
  have e1 : ((lb m ((31 - n) / 8) : Nat) : Int) / 2 ^ (8 * ((31 - n) % 8)) = ((lb m ((31 - n) / 8) / 2 ^ (8 * ((31 - n) % 8)) : Nat) : Int) := int_div_pow _ _
  have e2 : ((lb m ((31 - n) / 8) / 2 ^ (8 * ((31 - n) % 8)) : Nat) : Int) % 256 = ((dig m (31 - n) : Nat) : Int) := by rw [← lb_dig m (31 - n)]; rfl
  rw [e1, e2]
  go_ret
  exact ⟨rfl, (Below.refl _ _).alloc (Nat.le_refl _) _⟩
/-- The byte of a word at a place, the highest first; 0 where there is none. -/
def byteV (m n : Nat) : Nat := if n < 32 then dig m (31 - n) else 0
theorem byte_wd (m n : Nat) (w : World) : Calls Try.prog 38 #[wd m, .int .u64 (n : Int)] w fun e w' => e = .returned (.int .u8 ((byteV m n : Nat) : Int)) ∧ Below w.heap.size w w' := by
  unfold byteV
  by_cases h : n < 32
  · rw [if_pos h]; exact byte_walk m n w h
  · rw [if_neg h]; exact byte_high m n w (by omega)

set_option maxHeartbeats 1000000 in
theorem small_walk (m : Nat) (q : Bool) (w : World) (E : ∀ w : World, (Op.equalIn 10000 39 (.agg (wa m)) (.agg (wa (l0 m)))).run Try.prog w = .ok q w) :
    Calls Try.prog 43 #[wd m] w fun e w' => e = .returned (.tuple #[.int .u64 (if q then ((l0 m : Nat) : Int) else 0), .bool q]) ∧ Below w.heap.size w w' := by
  have hz := wa_size
  have hl : l0 m < B := (l_lt m).1
  go_enter Try.func43, Try.ntmps43
  go_wp2_with fail
  have f1 : (w.alloc (.cells (wa m) 39)).heap[w.heap.size]? = some (.cells (wa m) 39) := heap_alloc_new _ _
  have bW : Below w.heap.size w (w.alloc (.cells (wa m) 39)) := (Below.refl _ _).alloc (Nat.le_refl _) _
  generalize w.alloc (.cells (wa m) 39) = W at *
  have g1 := fun g : Ext W => g.word f1
  have fo := fold_wa
  have eg := Try.guardW
  cases q
  · refine region_ext (by kernel_rfl) (by kernel_rfl) ?_
    repeat (go_big_quiet_step ((go_at_call 32; with_reducible exact calls_ext (of_wd _ _ hl))))
    refine wpQuiet_nil ?_
    rintro _ ⟨g, rfl⟩
    go_wp2
    go_ret2
    exact ⟨rfl, bW.trans (g.below.mono bW.size)⟩
  · refine region_ext (by kernel_rfl) (by kernel_rfl) ?_
    repeat (go_big_quiet_step ((go_at_call 32; with_reducible exact calls_ext (of_wd _ _ hl))))
    refine wpQuiet_nil ?_
    rintro _ ⟨g, rfl⟩
    obtain ⟨k0, _, _, _⟩ := g1 g
    go_wp2
    go_ret2
    exact ⟨rfl, bW.trans (g.below.mono bW.size)⟩
/-- Is a word below 2^64? -/
def smallB (m : Nat) : Bool := decide (m % M = l0 m % M)
theorem small_wd (m : Nat) (w : World) : Calls Try.prog 43 #[wd m] w fun e w' => e = .returned (.tuple #[.int .u64 (if smallB m then ((l0 m : Nat) : Int) else 0), .bool (smallB m)]) ∧ Below w.heap.size w w' :=
  small_walk m _ w fun w => equal_wa m (l0 m) w

theorem len_wd (m : Nat) (w : World) : Calls Try.prog 39 #[wd m] w fun e w' => e = .returned (.int .i64 ((bl (m % M) : Nat) : Int)) ∧ Below w.heap.size w w' := by
  obtain ⟨A0, A1, A2, A3⟩ := l_lt m
  obtain ⟨t3, t2, t1, t0⟩ := bl_num (d := l3 m) A0 A1 A2
  rw [num_parts] at t3 t2 t1 t0
  have hb : ∀ x : Nat, x < B → bl x ≤ 64 := fun x hx => bl_le (by simp only [B] at hx; omega)
  have hf : ∀ x : Nat, x ≠ 0 → ((x : Int) != 0) = true := fun x hx => by simp [hx]
  have hg : ∀ x : Nat, x = 0 → ((x : Int) != 0) = false := fun x hx => by simp [hx]
  have hl : ∀ (x : Nat), x < B → ∀ w : World, Calls Try.prog 42 #[.int .u64 (x : Int)] w fun e w' => e = .returned (.int .i64 ((bl x : Nat) : Int)) ∧ w = w' := fun x hx w => by
    rw [← bl_lib hx]; exact len64_nat x w hx
  by_cases h3 : l3 m = 0
  · by_cases h2 : l2 m = 0
    · by_cases h1 : l1 m = 0
      · by_cases h0 : l0 m = 0
        · rw [t0 h3 h2 h1, h0]
          exact len_walkZ _ _ _ _ w (hg _ h3) (hg _ h2) (hg _ h1) (hg _ h0)
        · rw [t0 h3 h2 h1, show ((bl (l0 m) : Nat) : Int) = 0 + ((bl (l0 m) : Nat) : Int) by omega]
          exact len_walk0 _ _ _ _ _ w (hg _ h3) (hg _ h2) (hg _ h1) (hf _ h0) (by omega) (by have := hb _ A0; omega) (hl _ A0)
      · rw [t1 h3 h2 h1, show ((64 + bl (l1 m) : Nat) : Int) = 64 + ((bl (l1 m) : Nat) : Int) by omega]
        exact len_walk1 _ _ _ _ _ w (hg _ h3) (hg _ h2) (hf _ h1) (by omega) (by have := hb _ A1; omega) (hl _ A1)
    · rw [t2 h3 h2, show ((128 + bl (l2 m) : Nat) : Int) = 128 + ((bl (l2 m) : Nat) : Int) by omega]
      exact len_walk2 _ _ _ _ _ w (hg _ h3) (hf _ h2) (by omega) (by have := hb _ A2; omega) (hl _ A2)
  · rw [t3 h3, show ((192 + bl (l3 m) : Nat) : Int) = 192 + ((bl (l3 m) : Nat) : Int) by omega]
    exact len_walk3 _ _ _ _ _ w (hf _ h3) (by omega) (by have := hb _ A3; omega) (hl _ A3)

set_option maxHeartbeats 1000000 in
theorem size_walk (m k : Nat) (w : World) (hk : k ≤ 256) (H : Hid (∀ w : World, Calls Try.prog 39 #[wd m] w fun e w' => e = .returned (.int .i64 (k : Int)) ∧ Below w.heap.size w w')) :
    Calls Try.prog 25 #[wd m] w fun e w' => e = .returned (.int .i64 (((k + 7) / 8 : Nat) : Int)) ∧ Below w.heap.size w w' := by
  have hz := wa_size
  go_enter Try.func25, Try.ntmps25
  go_wp2_with fail
  refine (H.out _).mono ?_
  rintro e w1 ⟨rfl, b1⟩
  go_wp2
  go_ret
  refine ⟨by simp, ?_⟩
  have bW : Below w.heap.size w (w.alloc (.cells (wa m) 39)) := (Below.refl _ _).alloc (Nat.le_refl _) _
  exact bW.trans (b1.mono bW.size)
theorem size_wd (m : Nat) (w : World) : Calls Try.prog 25 #[wd m] w fun e w' => e = .returned (.int .i64 (((bl (m % M) + 7) / 8 : Nat) : Int)) ∧ Below w.heap.size w w' :=
  size_walk m _ w (bl_le (by rw [← M_2]; exact Nat.mod_lt _ (by decide))) fun w => len_wd m w
end Go.Proofs.Ytfpeliolngfkpaa
