/- What the methods Len and Bytes and the function Compare of the document's digits do: how many bits, the bytes with the highest first, and -1, 0 or 1 as the first is less, the same or more. -/
import Derived.Test.YtfpeliolngfkpaaPartA
import Derived.Test.YtfpeliolngfkpaaShiftR
import Derived.Deep.LoopGhost
namespace Go.Proofs.Ytfpeliolngfkpaa
open Go.RowKit SmWord
set_option maxRecDepth 100000

theorem cmp_low (m n k : Nat) : m % 256 ^ (k + 1) = m % 256 ^ k + 256 ^ k * dig m k ∧ n % 256 ^ (k + 1) = n % 256 ^ k + 256 ^ k * dig n k := by
  constructor <;> (rw [Nat.pow_succ, Nat.mod_mul]; rfl)
/-- From the highest digit down: as long as they are the same, what is below decides. -/
theorem cmp_step (m n k : Nat) : (dig m k < dig n k → cmpN (m % 256 ^ (k + 1)) (n % 256 ^ (k + 1)) = -1) ∧ (dig n k < dig m k → cmpN (m % 256 ^ (k + 1)) (n % 256 ^ (k + 1)) = 1) ∧
    (dig m k = dig n k → cmpN (m % 256 ^ (k + 1)) (n % 256 ^ (k + 1)) = cmpN (m % 256 ^ k) (n % 256 ^ k)) := by
  obtain ⟨e1, e2⟩ := cmp_low m n k
  rw [e1, e2]
  have hp : 0 < 256 ^ k := Nat.pow_pos (by decide)
  have h1 : m % 256 ^ k < 256 ^ k := Nat.mod_lt _ hp
  have h2 : n % 256 ^ k < 256 ^ k := Nat.mod_lt _ hp
  generalize m % 256 ^ k = x at *
  generalize n % 256 ^ k = y at *
  generalize 256 ^ k = p at *
  generalize dig m k = a at *
  generalize dig n k = b at *
  have key : ∀ {a b x y : Nat}, x < p → a < b → x + p * a < y + p * b := fun {a b x y} hx hab => by
    have := Nat.mul_le_mul_left p (show a + 1 ≤ b from hab)
    rw [Nat.mul_add] at this
    omega
  unfold cmpN
  refine ⟨fun h => ?_, fun h => ?_, fun h => ?_⟩
  · rw [if_pos (key h1 h)]
  · have := key (y := x) h2 h
    rw [if_neg (by omega), if_pos this]
  · subst h
    (repeat' split) <;> omega

/-- The bytes of n, the highest first. -/
def ya (n : Nat) : Array Value := arr .u8 32 (fun i => ((dig n (31 - i) : Nat) : Int))
def zY : Array Value := arr .u8 32 (fun _ => 0)
theorem Try.infoY : (Try.prog.info? 59).map (fun i => (i.zero, i.size)) = some (some (.agg zY), 32) := by kernel_rfl
theorem zY_run (w : World) : (zeroValue 59).run Try.prog w = .ok (.agg zY) w := (zero_of_info Try.infoY).1 w
theorem infoArrY (f : Nat → Int) : (Try.prog.info? 59).map (·.size) = some (arr .u8 32 f).size := by rw [arr_size]; exact (zero_of_info Try.infoY).2
theorem ya_congr {m n : Nat} (h : m % M = n % M) : ya m = ya n := arr_congr fun _ hi => by rw [dig_congr h (by omega)]
theorem fillH_step (f : Nat → Int) (k : Nat) (hk : k < 32) (v : Int) (hv : v = f (31 - k)) :
    (arr .u8 32 (fun j => if 32 - k ≤ j then f j else 0)).setIfInBounds (31 - k) (.int .u8 v) = arr .u8 32 (fun j => if 32 - (k + 1) ≤ j then f j else 0) := by
  rw [arr_set _ _ _ (by omega)]
  refine arr_congr fun i _ => ?_
  by_cases h1 : i = 31 - k
  · subst h1; rw [if_pos rfl, if_pos (by omega), hv]
  · rw [if_neg h1]
    by_cases h2 : 32 - k ≤ i
    · rw [if_pos h2, if_pos (by omega)]
    · rw [if_neg h2, if_neg (by omega)]
theorem fillH_start (f : Nat → Int) : arr .u8 32 (fun j => if 32 - 0 ≤ j then f j else 0) = zY := arr_congr fun i hi => by rw [if_neg (by omega)]
theorem fillH_end (f : Nat → Int) : arr .u8 32 (fun j => if 32 - 32 ≤ j then f j else 0) = arr .u8 32 f := arr_congr fun i hi => by rw [if_pos (by omega)]
set_option maxHeartbeats 2000000 in
theorem bytes_ref (m : Nat) (w : World) : Calls Try.prog 27 #[.agg (da m)] w fun e w' => e = .returned (.agg (ya m)) ∧ Below w.heap.size w w' := by
  have hds : (da m).size = 32 := arr_size _ _ _
  go_enter Try.func27, Try.ntmps27
  go_wp2_with (first | (refine wpList_alloc_row rfl 59 rfl zY zY_run ?_) | (refine wpList_build_zero rfl 59 rfl Try.underlying59 Try.sizeOf5 zY zY_run ?_) | (refine wpList_store_row rfl 59 _ _ rfl _ zY zY rfl rfl (heap_alloc_new _ _) (infoArrY _) rfl (arr_one _ _ _) ?_))
  clear hds
  have f0 : ((((w.alloc (.cells (da m) 63)).alloc (.cells zY 59)).alloc (.cells zY 59)).setRow (w.heap.size + 1 + 1) zY).heap[w.heap.size]? = some (.cells (da m) 63) := blk_row_other (blk_alloc (blk_alloc (by have := heap_alloc_new w (.cells (da m) 63); simpa using this))) (by omega)
  have f1 : ((((w.alloc (.cells (da m) 63)).alloc (.cells zY 59)).alloc (.cells zY 59)).setRow (w.heap.size + 1 + 1) zY).heap[w.heap.size + 1]? = some (.cells zY 59) := blk_row_other (blk_alloc (by have := heap_alloc_new (w.alloc (.cells (da m) 63)) (.cells zY 59); simpa using this)) (by omega)
  have f2 : ((((w.alloc (.cells (da m) 63)).alloc (.cells zY 59)).alloc (.cells zY 59)).setRow (w.heap.size + 1 + 1) zY).heap[w.heap.size + 1 + 1]? = some (.cells zY 59) := blk_row (by have := heap_alloc_new ((w.alloc (.cells (da m) 63)).alloc (.cells zY 59)) (.cells zY 59); simpa using this)
  have bW : Below w.heap.size w ((((w.alloc (.cells (da m) 63)).alloc (.cells zY 59)).alloc (.cells zY 59)).setRow (w.heap.size + 1 + 1) zY) := below_setRow ((((Below.refl _ _).alloc (by simp; try omega) _).alloc (by simp; try omega) _).alloc (by simp; try omega) _) (by omega) _
  generalize ((((w.alloc (.cells (da m) 63)).alloc (.cells zY 59)).alloc (.cells zY 59)).setRow (w.heap.size + 1 + 1) zY) = W at *
  go_loopw [4] (fun i wr => ∃ k : Nat, k ≤ 32 ∧ i = .int .i64 k ∧ Below w.heap.size w wr ∧ wr.heap[w.heap.size]? = some (.cells (da m) 63) ∧ wr.heap[w.heap.size + 1]? = some (.cells zY 59) ∧
      wr.heap[w.heap.size + 1 + 1]? = some (.cells (arr .u8 32 (fun j => if 32 - k ≤ j then ((dig m (31 - j) : Nat) : Int) else 0)) 59)) (fun i _ => 32 - (intOf i).toNat)
  case atStart => exact ⟨0, Nat.zero_le _, rfl, bW, f0, f1, by rw [fillH_start]; exact f2⟩
  case round =>
    obtain ⟨k, hk, rfl, hb, ha, hr, hd⟩ := hrel
    clear f0 f1 f2 bW
    by_cases hlt : k < 32
    · have c1 := blk_cell ha (arr_get .i64 _ hlt)
      have c2 := blk_cell hd (arr_get .u8 _ (show 31 - k < 32 by omega))
      have c3 := blk_frozen (j := 31 - k) hd
      have d1 := dig_lt m k
      have HA := Lib.hid ha
      have HR := Lib.hid hr
      have HD := Lib.hid hd
      have HB := Lib.hid hb
      clear ha hr hd hb
      go_wp2_with fail
      refine ⟨⟨k + 1, by omega, by go_num, HB.out.setCell (by simp; omega) _, blk_other HA.out (by omega) _, blk_other HR.out (by omega) _, ?_⟩, by simp [intOf]; omega⟩
      rw [← fillH_step (fun j => ((dig m (31 - j) : Nat) : Int)) k hlt _ (by rw [show 31 - (31 - k) = k by omega])]
      exact blk_set HD.out _
    · obtain rfl : k = 32 := by omega
      rw [fillH_end] at hd
      have HB := Lib.hid hb
      clear hb
      go_wp2_with (first | (refine wpList_load_row rfl 59 _ rfl _ rfl 59 (ya m) (0, 0) _ hd Try.underlying59 rfl (infoArrY _) ?_) | (refine wpList_store_row rfl 59 _ _ rfl _ zY (ya m) rfl rfl hr (infoArrY _) rfl (arr_one _ _ _) ?_))
      refine bodyPost_ret (v := .agg (ya m)) (results_cell_row rfl _ _ _ 59 (ya m) (0, 0) _ rfl (blk_row hr) Try.underlying59 rfl (infoArrY _)) rfl ⟨rfl, below_setRow HB.out (by omega) _⟩
end Go.Proofs.Ytfpeliolngfkpaa
