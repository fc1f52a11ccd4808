/- What the functions Of, Word, Add, Neg and Sub of the document's own answers do, for every number: its digits, the word of digits, sums and differences of digits, going round; all older memory is as it was. -/
import Derived.Test.YtfpeliolngfkpaaRow
import Derived.Test.YtfpeliolngfkpaaDig
import Derived.Deep.LoopGhost
namespace Go.Proofs.Ytfpeliolngfkpaa
open Go.RowKit SmWord
set_option maxRecDepth 100000

/-- The digits of n. -/
def da (n : Nat) : Array Value := arr .i64 32 (fun i => ((dig n i : Nat) : Int))
def zD : Array Value := arr .i64 32 (fun _ => 0)
theorem zD_run (w : World) : (zeroValue 63).run Try.prog w = .ok (.agg zD) w := by rw [Try.zeroValue63]; rfl
theorem Try.infoD : (Try.prog.info? 63).map (·.size) = some 32 := by kernel_rfl
theorem infoArr (f : Nat → Int) : (Try.prog.info? 63).map (·.size) = some (arr .i64 32 f).size := by rw [arr_size]; exact Try.infoD
theorem da_congr {m n : Nat} (h : m % M = n % M) : da m = da n := arr_congr fun _ hi => by rw [dig_congr h hi]
theorem wa_lb (n i : Nat) (hi : i < 4) : (wa n)[i]? = some (.int .u64 ((lb n i : Nat) : Int)) := by
  have : i = 0 ∨ i = 1 ∨ i = 2 ∨ i = 3 := by omega
  unfold lb
  rcases this with rfl | rfl | rfl | rfl
  · simp [wa, l0]
  · simp [wa, l1]
  · simp [wa, l2, Nat.div_div_eq_div_mul, Nat.pow_succ]
  · simp [wa, l3, Nat.div_div_eq_div_mul, Nat.pow_succ, Nat.mul_assoc]
theorem dig_of (m k : Nat) : wrap64 ((((lb m (k / 8) : Nat) : Int) / 2 ^ (8 * (k % 8))).tmod 256) = ((dig m k : Nat) : Int) := by
  have e : ((lb m (k / 8) : Nat) : Int) / 2 ^ (8 * (k % 8)) = ((lb m (k / 8) / 2 ^ (8 * (k % 8)) : Nat) : Int) := by
    rw [Int.natCast_ediv, Int.natCast_pow]; rfl
  have h := lb_dig m k
  have h2 := dig_lt m k
  rw [e, Int.tmod_eq_emod_of_nonneg (Int.natCast_nonneg _)]
  have e2 : ((lb m (k / 8) / 2 ^ (8 * (k % 8)) : Nat) : Int) % 256 = ((dig m k : Nat) : Int) := by rw [← h]; rfl
  rw [e2]
  exact IntWalk.wrap64_in _ ⟨by omega, by omega⟩
theorem fill_step (f : Nat → Int) (k : Nat) (hk : k < 32) (v : Int) (hv : v = f k) :
    (arr .i64 32 (fun j => if j < k then f j else 0)).setIfInBounds k (.int .i64 v) = arr .i64 32 (fun j => if j < k + 1 then f j else 0) := by
  rw [arr_set _ _ _ hk]
  refine arr_congr fun i _ => ?_
  by_cases h1 : i = k
  · subst h1; simp [hv]
  · by_cases h2 : i < k
    · simp [h1, h2, show i < k + 1 by omega]
    · simp [h1, h2, show ¬ i < k + 1 by omega]
theorem fill_start (f : Nat → Int) : arr .i64 32 (fun j => if j < 0 then f j else 0) = zD := arr_congr fun i _ => by simp
theorem fill_end (f : Nat → Int) : arr .i64 32 (fun j => if j < 32 then f j else 0) = arr .i64 32 f := arr_congr fun i hi => by simp [hi]

set_option maxHeartbeats 1000000 in
theorem of_ref (m : Nat) (w : World) : Calls Try.prog 26 #[wd m] w fun e w' => e = .returned (.agg (da m)) ∧ Below w.heap.size w w' := by
  go_enter Try.func26, Try.ntmps26
  go_wp2_with (first | (refine wpList_alloc_row rfl 63 rfl zD zD_run ?_) | (refine wpList_build_zero rfl 63 rfl Try.underlying63 Try.sizeOf3 zD zD_run ?_) | (refine wpList_store_row rfl 63 _ _ rfl _ zD zD rfl rfl (heap_alloc_new _ _) (infoArr _) rfl (arr_one _ _ _) ?_))
  have f0 : ((((w.alloc (.cells (wa m) 39)).alloc (.cells zD 63)).alloc (.cells zD 63)).setRow (w.heap.size + 1 + 1) zD).heap[w.heap.size]? = some (.cells (wa m) 39) := blk_row_other (blk_alloc (blk_alloc (by have := heap_alloc_new w (.cells (wa m) 39); simpa using this))) (by omega)
  have f1 : ((((w.alloc (.cells (wa m) 39)).alloc (.cells zD 63)).alloc (.cells zD 63)).setRow (w.heap.size + 1 + 1) zD).heap[w.heap.size + 1]? = some (.cells zD 63) := blk_row_other (blk_alloc (by have := heap_alloc_new (w.alloc (.cells (wa m) 39)) (.cells zD 63); simpa using this)) (by omega)
  have f2 : ((((w.alloc (.cells (wa m) 39)).alloc (.cells zD 63)).alloc (.cells zD 63)).setRow (w.heap.size + 1 + 1) zD).heap[w.heap.size + 1 + 1]? = some (.cells zD 63) := blk_row (by have := heap_alloc_new ((w.alloc (.cells (wa m) 39)).alloc (.cells zD 63)) (.cells zD 63); simpa using this)
  have bW : Below w.heap.size w ((((w.alloc (.cells (wa m) 39)).alloc (.cells zD 63)).alloc (.cells zD 63)).setRow (w.heap.size + 1 + 1) zD) := below_setRow ((((Below.refl _ _).alloc (by simp; try omega) _).alloc (by simp; try omega) _).alloc (by simp; try omega) _) (by omega) _
  generalize ((((w.alloc (.cells (wa m) 39)).alloc (.cells zD 63)).alloc (.cells zD 63)).setRow (w.heap.size + 1 + 1) zD) = W at *
  go_loopw [4] (fun i wr => ∃ k : Nat, k ≤ 32 ∧ i = .int .i64 k ∧ Below w.heap.size w wr ∧ wr.heap[w.heap.size]? = some (.cells (wa m) 39) ∧ wr.heap[w.heap.size + 1]? = some (.cells zD 63) ∧
      wr.heap[w.heap.size + 1 + 1]? = some (.cells (arr .i64 32 (fun j => if j < k then ((dig m j : Nat) : Int) else 0)) 63)) (fun i _ => 32 - (intOf i).toNat)
  case atStart => exact ⟨0, Nat.zero_le _, rfl, bW, f0, f1, by rw [fill_start]; exact f2⟩
  case round =>
    obtain ⟨k, hk, rfl, hb, ha, hr, hd⟩ := hrel
    clear f0 f1 f2 bW
    by_cases hlt : k < 32
    · have c1 := blk_cell ha (wa_lb m (k / 8) (by omega))
      have c2 := blk_cell hd (arr_get .i64 _ hlt)
      have c3 := blk_frozen (j := k) hd
      have HA := Lib.hid ha
      have HR := Lib.hid hr
      have HD := Lib.hid hd
      have HB := Lib.hid hb
      clear ha hr hd hb
      have q1 : k / 8 < 4 := by omega
      go_wp2_with fail
      rw [dig_of]
      refine ⟨⟨k + 1, by omega, by go_num, HB.out.setCell (by simp; omega) _, blk_other HA.out (by omega) _, blk_other HR.out (by omega) _, ?_⟩, by simp [intOf]; omega⟩
      rw [← fill_step (fun j => ((dig m j : Nat) : Int)) k hlt _ rfl]
      exact blk_set HD.out _
    · obtain rfl : k = 32 := by omega
      rw [fill_end] at hd
      have HB := Lib.hid hb
      clear hb
      go_wp2_with (first | (refine wpList_load_row rfl 63 _ rfl _ rfl 63 (da m) (0, 0) _ hd Try.underlying63 rfl (infoArr _) ?_) | (refine wpList_store_row rfl 63 _ _ rfl _ zD (da m) rfl rfl hr (infoArr _) rfl (arr_one _ _ _) ?_))
      refine bodyPost_ret (v := .agg (da m)) (results_cell_row rfl _ _ _ 63 (da m) (0, 0) _ rfl (blk_row hr) Try.underlying63 rfl (infoArr _)) rfl ⟨rfl, below_setRow HB.out (by omega) _⟩
end Go.Proofs.Ytfpeliolngfkpaa
