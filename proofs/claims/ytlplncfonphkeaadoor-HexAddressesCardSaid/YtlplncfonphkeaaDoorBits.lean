/- What the function Bits of the document's digits does: the digits of the number whose bits these are. -/
import Derived.Test.YtlplncfonphkeaaDoorBit
namespace Go.Proofs.YtlplncfonphkeaaDoor
open Go.RowKit SmWord
set_option maxRecDepth 100000

/-- The bits of n. -/
def ba (n : Nat) : Array Value := arr .i64 256 (fun i => ((bitN n i : Nat) : Int))
def zB : Array Value := arr .i64 256 (fun _ => 0)
theorem Tryd.infoB : (Tryd.prog.info? 83).map (fun i => (i.zero, i.size)) = some (some (.agg zB), 256) := by kernel_rfl
theorem zB_run (w : World) : (zeroValue 83).run Tryd.prog w = .ok (.agg zB) w := (zero_of_info Tryd.infoB).1 w
theorem infoArrB (f : Nat → Int) : (Tryd.prog.info? 83).map (·.size) = some (arr .i64 256 f).size := by rw [arr_size]; exact (zero_of_info Tryd.infoB).2
theorem ba_congr {m n : Nat} (h : m % M = n % M) : ba m = ba n := arr_congr fun _ hi => by rw [bit_congr h hi]
theorem accB_start (m : Nat) : arr .i64 32 (fun q => ((accB m 256 q : Nat) : Int)) = zD := arr_congr fun q hq => by rw [accB_end m q hq]; rfl
theorem accB_last (m : Nat) : arr .i64 32 (fun q => ((accB m 0 q : Nat) : Int)) = da m := arr_congr fun q _ => by rw [accB_zero]
theorem accB_val (m j : Nat) : ((accB m (j + 1) (j / 8) : Nat) : Int) * 2 + ((bitN m j : Nat) : Int) = ((accB m j (j / 8) : Nat) : Int) := by
  obtain ⟨h1, _⟩ := accB_step m j
  omega
theorem accB_put (m j : Nat) (hj : j / 8 < 32) : (arr .i64 32 (fun q => ((accB m (j + 1) q : Nat) : Int))).setIfInBounds (j / 8) (.int .i64 ((accB m j (j / 8) : Nat) : Int)) = arr .i64 32 (fun q => ((accB m j q : Nat) : Int)) := by
  rw [arr_set _ _ _ hj]
  refine arr_congr fun q _ => ?_
  by_cases h : q = j / 8
  · subst h; simp
  · rw [if_neg h, accB_other m j q (fun e => h e.symm)]
set_option maxHeartbeats 2000000 in
theorem bits_ref (n : Nat) (w : World) : Calls Tryd.prog 41 #[.agg (ba n)] w fun e w' => e = .returned (.agg (da n)) ∧ Below w.heap.size w w' := by
  have hbs : (ba n).size = 256 := arr_size _ _ _
  go_enter Tryd.func41, Tryd.ntmps41
  go_wp2_with (first | (refine wpList_alloc_row rfl 65 rfl zD zD_run ?_) | (refine wpList_build_zero rfl 65 rfl Tryd.underlying65 Tryd.sizeOf3 zD zD_run ?_) | (refine wpList_store_row rfl 65 _ _ rfl _ zD zD rfl rfl (heap_alloc_new _ _) (infoArr _) rfl (arr_one _ _ _) ?_))
  clear hbs
  have f0 : ((((w.alloc (.cells (ba n) 83)).alloc (.cells zD 65)).alloc (.cells zD 65)).setRow (w.heap.size + 1 + 1) zD).heap[w.heap.size]? = some (.cells (ba n) 83) := blk_row_other (blk_alloc (blk_alloc (by have := heap_alloc_new w (.cells (ba n) 83); simpa using this))) (by omega)
  have f1 : ((((w.alloc (.cells (ba n) 83)).alloc (.cells zD 65)).alloc (.cells zD 65)).setRow (w.heap.size + 1 + 1) zD).heap[w.heap.size + 1]? = some (.cells zD 65) := blk_row_other (blk_alloc (by have := heap_alloc_new (w.alloc (.cells (ba n) 83)) (.cells zD 65); simpa using this)) (by omega)
  have f2 : ((((w.alloc (.cells (ba n) 83)).alloc (.cells zD 65)).alloc (.cells zD 65)).setRow (w.heap.size + 1 + 1) zD).heap[w.heap.size + 1 + 1]? = some (.cells zD 65) := blk_row (by have := heap_alloc_new ((w.alloc (.cells (ba n) 83)).alloc (.cells zD 65)) (.cells zD 65); simpa using this)
  have bW : Below w.heap.size w ((((w.alloc (.cells (ba n) 83)).alloc (.cells zD 65)).alloc (.cells zD 65)).setRow (w.heap.size + 1 + 1) zD) := below_setRow ((((Below.refl _ _).alloc (by simp; try omega) _).alloc (by simp; try omega) _).alloc (by simp; try omega) _) (by omega) _
  generalize ((((w.alloc (.cells (ba n) 83)).alloc (.cells zD 65)).alloc (.cells zD 65)).setRow (w.heap.size + 1 + 1) zD) = W at *
  go_loopw [4] (fun i wr => ∃ k : Nat, k ≤ 256 ∧ i = .int .i64 ((k : Int) - 1) ∧ Below w.heap.size w wr ∧ wr.heap[w.heap.size]? = some (.cells (ba n) 83) ∧ wr.heap[w.heap.size + 1]? = some (.cells zD 65) ∧
      wr.heap[w.heap.size + 1 + 1]? = some (.cells (arr .i64 32 (fun q => ((accB n k q : Nat) : Int))) 65)) (fun i _ => (intOf i + 1).toNat)
  case atStart => exact ⟨256, Nat.le_refl _, rfl, bW, f0, f1, by rw [accB_start]; exact f2⟩
  case round =>
    obtain ⟨k, hk, rfl, hb, ha, hr, hd⟩ := hrel
    clear f0 f1 f2 bW
    by_cases hlt : 0 < k
    · obtain ⟨j, rfl⟩ : ∃ j, k = j + 1 := ⟨k - 1, by omega⟩
      have e1 : ((j + 1 : Nat) : Int) - 1 = (j : Int) := by omega
      rw [e1]
      have hj4 : j / 8 < 32 := by omega
      have c1 := blk_cell ha (arr_get .i64 _ (show j < 256 by omega))
      have c2 := blk_cell hd (arr_get .i64 _ hj4)
      have c3 := blk_frozen (j := j / 8) hd
      have d1 := bitN_lt n j
      have d2 : accB n (j + 1) (j / 8) < 256 := by have := accB_step n j; omega
      have HA := Lib.hid ha
      have HR := Lib.hid hr
      have HD := Lib.hid hd
      have HB := Lib.hid hb
      clear ha hr hd hb e1
      go_wp2_with fail
      go_region
      go_wp2_with fail
      rw [accB_val]
      refine ⟨⟨j, by omega, rfl, (HB.out.setCell (by simp; omega) _).drew, blk_other HA.out (by omega) _, blk_other HR.out (by omega) _, ?_⟩, by simp [intOf]⟩
      rw [← accB_put n j hj4]
      exact blk_set HD.out _
    · obtain rfl : k = 0 := by omega
      rw [accB_last] at hd
      have HB := Lib.hid hb
      clear hb ha
      go_wp2_with (first | (refine wpList_load_row rfl 65 _ rfl _ rfl 65 (da n) (0, 0) _ hd Tryd.underlying65 rfl (infoArr _) ?_) | (refine wpList_store_row rfl 65 _ _ rfl _ zD (da n) rfl rfl hr (infoArr _) rfl (arr_one _ _ _) ?_))
      exact bodyPost_ret (v := .agg (da n)) (results_cell_row rfl _ _ _ 65 (da n) (0, 0) _ rfl (blk_row hr) Tryd.underlying65 rfl (infoArr _)) rfl ⟨rfl, below_setRow HB.out (by omega) _⟩
end Go.Proofs.YtlplncfonphkeaaDoor
