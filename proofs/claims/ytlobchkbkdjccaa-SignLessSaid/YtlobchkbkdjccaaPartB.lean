/- What the methods Len and Bytes and the function Compare of the document's digits do: how many bits, the bytes with the highest first, and -1, 0 or 1 as the first is less, the same or more. -/
import Derived.Test.YtlobchkbkdjccaaPartA
import Derived.Test.YtlobchkbkdjccaaShiftR
import Derived.Deep.LoopGhost
namespace Go.Proofs.Ytlobchkbkdjccaa
open Go.RowKit SmWord
set_option maxRecDepth 100000

theorem cmp_low (m n k : Nat) : m % 256 ^ (k + 1) = m % 256 ^ k + 256 ^ k * dig m k ∧ n % 256 ^ (k + 1) = n % 256 ^ k + 256 ^ k * dig n k := by
  constructor <;> (rw [Nat.pow_succ, Nat.mod_mul]; rfl)
/-- From the highest digit down: as long as they are the same, what is below decides. -/
theorem cmp_step (m n k : Nat) : (dig m k < dig n k → cmpN (m % 256 ^ (k + 1)) (n % 256 ^ (k + 1)) = -1) ∧ (dig n k < dig m k → cmpN (m % 256 ^ (k + 1)) (n % 256 ^ (k + 1)) = 1) ∧
    (dig m k = dig n k → cmpN (m % 256 ^ (k + 1)) (n % 256 ^ (k + 1)) = cmpN (m % 256 ^ k) (n % 256 ^ k)) := by
  obtain ⟨e1, e2⟩ := cmp_low m n k
  rw [e1, e2]
  have hp : 0 < 256 ^ k := Nat.pow_pos (by decide)
  have h1 : m % 256 ^ k < 256 ^ k := Nat.mod_lt _ hp
  have h2 : n % 256 ^ k < 256 ^ k := Nat.mod_lt _ hp
  generalize m % 256 ^ k = x at *
  generalize n % 256 ^ k = y at *
  generalize 256 ^ k = p at *
  generalize dig m k = a at *
  generalize dig n k = b at *
  have key : ∀ {a b x y : Nat}, x < p → a < b → x + p * a < y + p * b := fun {a b x y} hx hab => by
    have := Nat.mul_le_mul_left p (show a + 1 ≤ b from hab)
    rw [Nat.mul_add] at this
    omega
  unfold cmpN
  refine ⟨fun h => ?_, fun h => ?_, fun h => ?_⟩
  · rw [if_pos (key h1 h)]
  · have := key (y := x) h2 h
    rw [if_neg (by omega), if_pos this]
  · subst h
    (repeat' split) <;> omega

set_option maxHeartbeats 2000000 in
theorem compare_ref (m n : Nat) (w : World) : Calls Try.prog 19 #[.agg (da m), .agg (da n)] w fun e w' => e = .returned (.int .i64 (cmpN (m % M) (n % M))) ∧ Below w.heap.size w w' := by
  have hds : ∀ x, (da x).size = 32 := fun x => arr_size _ _ _
  go_enter Try.func19, Try.ntmps19
  go_wp2_with fail
  clear hds
  have f0 : ((w.alloc (.cells (da m) 31)).alloc (.cells (da n) 31)).heap[w.heap.size]? = some (.cells (da m) 31) := blk_alloc (heap_alloc_new _ _)
  have f1 : ((w.alloc (.cells (da m) 31)).alloc (.cells (da n) 31)).heap[w.heap.size + 1]? = some (.cells (da n) 31) := heap_alloc2_new _ _ _
  have bW : Below w.heap.size w ((w.alloc (.cells (da m) 31)).alloc (.cells (da n) 31)) := ((Below.refl _ _).alloc (Nat.le_refl _) _).alloc (by simp) _
  generalize (w.alloc (.cells (da m) 31)).alloc (.cells (da n) 31) = W at *
  go_loopw [5] (fun i wr => ∃ k : Nat, k ≤ 32 ∧ i = .int .i64 ((k : Int) - 1) ∧ Hid (cmpN (m % M) (n % M) = cmpN (m % 256 ^ k) (n % 256 ^ k)) ∧ Below w.heap.size w wr ∧ wr.heap[w.heap.size]? = some (.cells (da m) 31) ∧ wr.heap[w.heap.size + 1]? = some (.cells (da n) 31)) (fun i _ => (intOf i + 1).toNat)
  case atStart => exact ⟨32, Nat.le_refl _, rfl, by rw [M_256]; exact Lib.hid rfl, bW, f0, f1⟩
  case round =>
    obtain ⟨k, hk, rfl, HC, hb, ha, hn⟩ := hrel
    clear f0 f1 bW
    by_cases hlt : 0 < k
    · obtain ⟨j, rfl⟩ : ∃ j, k = j + 1 := ⟨k - 1, by omega⟩
      have e1 : ((j + 1 : Nat) : Int) - 1 = (j : Int) := by omega
      rw [e1]
      have hj : j < 32 := by omega
      have c1 := blk_cell ha (arr_get .i64 _ hj)
      have c2 := blk_cell hn (arr_get .i64 _ hj)
      have HA := Lib.hid ha
      have HN := Lib.hid hn
      have HB := Lib.hid hb
      obtain ⟨s1, s2, s3⟩ := cmp_step m n j
      have S1 := Lib.hid s1
      have S2 := Lib.hid s2
      have S3 := Lib.hid s3
      clear ha hn hb e1 s1 s2 s3
      have ht : (dig m j < dig n j) ∨ (dig n j < dig m j) ∨ dig m j = dig n j := by omega
      rcases ht with ht | ht | ht
      · have d1 : decide (((dig m j : Nat) : Int) < ((dig n j : Nat) : Int)) = true := by simp; omega
        go_wp2_with fail
        go_region
        go_wp2_with fail
        go_ret
        exact ⟨by rw [HC.out, S1.out ht]; rfl, HB.out.drew⟩
      · have d1 : decide (((dig m j : Nat) : Int) < ((dig n j : Nat) : Int)) = false := by simp; omega
        have d2 : decide (((dig n j : Nat) : Int) < ((dig m j : Nat) : Int)) = true := by simp; omega
        go_wp2_with fail
        go_region
        go_wp2_with fail
        go_region
        go_wp2_with fail
        go_ret
        exact ⟨by rw [HC.out, S2.out ht]; rfl, HB.out.drew.drew⟩
      · have d1 : decide (((dig m j : Nat) : Int) < ((dig n j : Nat) : Int)) = false := by simp; omega
        have d2 : decide (((dig n j : Nat) : Int) < ((dig m j : Nat) : Int)) = false := by simp; omega
        go_wp2_with fail
        go_region
        go_wp2_with fail
        go_region
        go_wp2_with fail
        exact ⟨⟨j, by omega, rfl, Lib.hid (by rw [HC.out, S3.out ht]), HB.out.drew.drew, HA.out, HN.out⟩, by simp [intOf]⟩
    · obtain rfl : k = 0 := by omega
      go_wp2_with fail
      go_ret
      refine ⟨?_, hb⟩
      rw [HC.out]
      simp [Nat.mod_one, cmpN]

/-- The bytes of n, the highest first. -/
def ya (n : Nat) : Array Value := arr .u8 32 (fun i => ((dig n (31 - i) : Nat) : Int))
def zY : Array Value := arr .u8 32 (fun _ => 0)
theorem ya_congr {m n : Nat} (h : m % M = n % M) : ya m = ya n := arr_congr fun _ hi => by rw [dig_congr h (by omega)]
theorem fillH_step (f : Nat → Int) (k : Nat) (hk : k < 32) (v : Int) (hv : v = f (31 - k)) :
    (arr .u8 32 (fun j => if 32 - k ≤ j then f j else 0)).setIfInBounds (31 - k) (.int .u8 v) = arr .u8 32 (fun j => if 32 - (k + 1) ≤ j then f j else 0) := by
  rw [arr_set _ _ _ (by omega)]
  refine arr_congr fun i _ => ?_
  by_cases h1 : i = 31 - k
  · subst h1; rw [if_pos rfl, if_pos (by omega), hv]
  · rw [if_neg h1]
    by_cases h2 : 32 - k ≤ i
    · rw [if_pos h2, if_pos (by omega)]
    · rw [if_neg h2, if_neg (by omega)]
theorem fillH_start (f : Nat → Int) : arr .u8 32 (fun j => if 32 - 0 ≤ j then f j else 0) = zY := arr_congr fun i hi => by rw [if_neg (by omega)]
theorem fillH_end (f : Nat → Int) : arr .u8 32 (fun j => if 32 - 32 ≤ j then f j else 0) = arr .u8 32 f := arr_congr fun i hi => by rw [if_pos (by omega)]
end Go.Proofs.Ytlobchkbkdjccaa
