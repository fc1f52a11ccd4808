/- What the functions Bit, Byte, Small, Len and Size of package word do, for every word: a bit, a byte, whether it is small, how many bits and bytes it has; all older memory is as it was. -/
import Derived.Test.YtlobchkbkdjccaaFixed
import Derived.Test.YtlobchkbkdjccaaRefA
import Derived.Test.YtlobchkbkdjccaaBlen
namespace Go.Proofs.Ytlobchkbkdjccaa
open Go.RowKit SmWord
set_option maxRecDepth 100000

theorem lb_bit (m n : Nat) : lb m (n / 64) / 2 ^ (n % 64) % 2 = bitN m n := by
  unfold lb bitN
  have h8 : n % 64 < 64 := Nat.mod_lt _ (by decide)
  have hB : B = 2 ^ 64 := rfl
  have e2 : B = 2 ^ (n % 64) * 2 ^ (64 - n % 64) := by rw [← Nat.pow_add, hB]; congr 1; omega
  have e3 : (2 : Nat) ^ (64 - n % 64) = 2 * 2 ^ (63 - n % 64) := by rw [← Nat.pow_succ']; congr 1; omega
  have e4 : B ^ (n / 64) * 2 ^ (n % 64) = 2 ^ n := by rw [hB, ← Nat.pow_mul, ← Nat.pow_add]; congr 1; omega
  conv => lhs; arg 1; arg 1; arg 2; rw [e2]
  rw [Nat.mod_mul_right_div_self, e3, Nat.mod_mul_right_mod, Nat.div_div_eq_div_mul, e4]
theorem lb_lt (m i : Nat) : lb m i < B := Nat.mod_lt _ (by decide)

set_option maxHeartbeats 1000000 in
theorem wbit_high (m : Nat) (n : Int) (w : World) (h : 256 ≤ n) : Calls Try.prog 36 #[wd m, .int .u64 n] w fun e w' => e = .returned (.bool false) ∧ Below w.heap.size w w' := by
  have hz := wa_size
  have h0 : ¬ n < 256 := by omega
  have h1 : decide (n < 256) = false := by simp; omega
  go_enter Try.func36, Try.ntmps36
  go_wp2
  go_ret
  exact ⟨rfl, (Below.refl _ _).alloc (Nat.le_refl _) _⟩
set_option maxHeartbeats 1000000 in
theorem wbit_walk (m n : Nat) (p : Bool) (w : World) (h : n < 256) (hp : Hid ((bits .and .u64 (((lb m (n / 64) : Nat) : Int) / 2 ^ (n % 64)) 1 == 1) = p)) :
    Calls Try.prog 36 #[wd m, .int .u64 (n : Int)] w fun e w' => e = .returned (.bool p) ∧ Below w.heap.size w w' := by
  have hz := wa_size
  have hq : n / 64 < 4 := by omega
  have fb : (w.alloc (.cells (wa m) 24)).heap[w.heap.size]? = some (.cells (wa m) 24) := heap_alloc_new _ _
  have c1 := blk_cell fb (wa_lb m _ hq)
  clear fb
  have h1 : decide ((n : Int) < 256) = true := by simp; omega
  go_enter Try.func36, Try.ntmps36
  go_wp2
  go_ret
  exact ⟨by rw [hp.out]; rfl, (Below.refl _ _).alloc (Nat.le_refl _) _⟩
theorem wbit_wd (m n : Nat) (w : World) (_hn : n < B) : Calls Try.prog 36 #[wd m, .int .u64 (n : Int)] w fun e w' => e = .returned (.bool (decide (n < 256 ∧ bitN m n = 1))) ∧ Below w.heap.size w w' := by
  by_cases h : n < 256
  · have hp : (bits .and .u64 (((lb m (n / 64) : Nat) : Int) / 2 ^ (n % 64)) 1 == 1) = decide (n < 256 ∧ bitN m n = 1) := by
      have hl := lb_lt m (n / 64)
      have e1 : ((lb m (n / 64) : Nat) : Int) / 2 ^ (n % 64) = ((lb m (n / 64) / 2 ^ (n % 64) : Nat) : Int) := int_div_pow _ _
      have e2 := u64_and_nat (lb m (n / 64) / 2 ^ (n % 64)) 1 (Nat.lt_of_le_of_lt (Nat.div_le_self _ _) hl) (by decide)
      rw [e1]
      have e3 : bits .and .u64 ((lb m (n / 64) / 2 ^ (n % 64) : Nat) : Int) 1 = ((bitN m n : Nat) : Int) := by
        rw [← lb_bit, ← nat_mask1]; exact e2
      rw [e3, Bool.eq_iff_iff, beq_iff_eq, decide_eq_true_iff]
      omega
    exact wbit_walk m n _ w h hp
  · have hf : decide (n < 256 ∧ bitN m n = 1) = false := by simp; omega
    rw [hf]
    exact wbit_high m n w (by omega)
/-- The byte of a word at a place, the highest first; 0 where there is none. -/
def byteV (m n : Nat) : Nat := if n < 32 then dig m (31 - n) else 0
set_option maxHeartbeats 1000000 in
theorem small_walk (m : Nat) (q : Bool) (w : World) (E : ∀ w : World, (Op.equalIn 10000 24 (.agg (wa m)) (.agg (wa (l0 m)))).run Try.prog w = .ok q w) :
    Calls Try.prog 39 #[wd m] w fun e w' => e = .returned (.tuple #[.int .u64 (if q then ((l0 m : Nat) : Int) else 0), .bool q]) ∧ Below w.heap.size w w' := by
  have hz := wa_size
  have hl : l0 m < B := (l_lt m).1
  go_enter Try.func39, Try.ntmps39
  go_wp2_with fail
  have f1 : (w.alloc (.cells (wa m) 24)).heap[w.heap.size]? = some (.cells (wa m) 24) := heap_alloc_new _ _
  have bW : Below w.heap.size w (w.alloc (.cells (wa m) 24)) := (Below.refl _ _).alloc (Nat.le_refl _) _
  generalize w.alloc (.cells (wa m) 24) = W at *
  have g1 := fun g : Ext W => g.word f1
  have fo := fold_wa
  have eg := Try.guardW
  cases q
  · refine region_ext (by kernel_rfl) (by kernel_rfl) ?_
    repeat (go_big_quiet_step ((go_at_call 52; with_reducible exact calls_ext (of_wd _ _ hl))))
    refine wpQuiet_nil ?_
    rintro _ ⟨g, rfl⟩
    go_wp2
    go_ret2
    exact ⟨rfl, bW.trans (g.below.mono bW.size)⟩
  · refine region_ext (by kernel_rfl) (by kernel_rfl) ?_
    repeat (go_big_quiet_step ((go_at_call 52; with_reducible exact calls_ext (of_wd _ _ hl))))
    refine wpQuiet_nil ?_
    rintro _ ⟨g, rfl⟩
    obtain ⟨k0, _, _, _⟩ := g1 g
    go_wp2
    go_ret2
    exact ⟨rfl, bW.trans (g.below.mono bW.size)⟩
/-- Is a word below 2^64? -/
def smallB (m : Nat) : Bool := decide (m % M = l0 m % M)
theorem small_wd (m : Nat) (w : World) : Calls Try.prog 39 #[wd m] w fun e w' => e = .returned (.tuple #[.int .u64 (if smallB m then ((l0 m : Nat) : Int) else 0), .bool (smallB m)]) ∧ Below w.heap.size w w' :=
  small_walk m _ w fun w => equal_wa m (l0 m) w

theorem len_wd (m : Nat) (w : World) : Calls Try.prog 53 #[wd m] w fun e w' => e = .returned (.int .i64 ((bl (m % M) : Nat) : Int)) ∧ Below w.heap.size w w' := by
  obtain ⟨A0, A1, A2, A3⟩ := l_lt m
  obtain ⟨t3, t2, t1, t0⟩ := bl_num (d := l3 m) A0 A1 A2
  rw [num_parts] at t3 t2 t1 t0
  have hb : ∀ x : Nat, x < B → bl x ≤ 64 := fun x hx => bl_le (by simp only [B] at hx; omega)
  have hf : ∀ x : Nat, x ≠ 0 → ((x : Int) != 0) = true := fun x hx => by simp [hx]
  have hg : ∀ x : Nat, x = 0 → ((x : Int) != 0) = false := fun x hx => by simp [hx]
  have hl : ∀ (x : Nat), x < B → ∀ w : World, Calls Try.prog 57 #[.int .u64 (x : Int)] w fun e w' => e = .returned (.int .i64 ((bl x : Nat) : Int)) ∧ w = w' := fun x hx w => by
    rw [← bl_lib hx]; exact len64_nat x w hx
  by_cases h3 : l3 m = 0
  · by_cases h2 : l2 m = 0
    · by_cases h1 : l1 m = 0
      · by_cases h0 : l0 m = 0
        · rw [t0 h3 h2 h1, h0]
          exact len_walkZ _ _ _ _ w (hg _ h3) (hg _ h2) (hg _ h1) (hg _ h0)
        · rw [t0 h3 h2 h1, show ((bl (l0 m) : Nat) : Int) = 0 + ((bl (l0 m) : Nat) : Int) by omega]
          exact len_walk0 _ _ _ _ _ w (hg _ h3) (hg _ h2) (hg _ h1) (hf _ h0) (by omega) (by have := hb _ A0; omega) (hl _ A0)
      · rw [t1 h3 h2 h1, show ((64 + bl (l1 m) : Nat) : Int) = 64 + ((bl (l1 m) : Nat) : Int) by omega]
        exact len_walk1 _ _ _ _ _ w (hg _ h3) (hg _ h2) (hf _ h1) (by omega) (by have := hb _ A1; omega) (hl _ A1)
    · rw [t2 h3 h2, show ((128 + bl (l2 m) : Nat) : Int) = 128 + ((bl (l2 m) : Nat) : Int) by omega]
      exact len_walk2 _ _ _ _ _ w (hg _ h3) (hf _ h2) (by omega) (by have := hb _ A2; omega) (hl _ A2)
  · rw [t3 h3, show ((192 + bl (l3 m) : Nat) : Int) = 192 + ((bl (l3 m) : Nat) : Int) by omega]
    exact len_walk3 _ _ _ _ _ w (hf _ h3) (by omega) (by have := hb _ A3; omega) (hl _ A3)

end Go.Proofs.Ytlobchkbkdjccaa
