/- What the function Add of the document's digits does: the digits of the sum, going round. -/
import Derived.Test.YtlplncfonphkeaaDoorRefA
namespace Go.Proofs.YtlplncfonphkeaaDoor
open Go.RowKit SmWord
set_option maxRecDepth 100000
set_option maxHeartbeats 2000000 in
theorem add_ref (m n : Nat) (w : World) : Calls Tryd.prog 28 #[.agg (da m), .agg (da n)] w fun e w' => e = .returned (.agg (da (m + n))) ∧ Below w.heap.size w w' := by
  have hds : ∀ x, (da x).size = 32 := fun x => arr_size _ _ _
  go_enter Tryd.func28, Tryd.ntmps28
  go_wp2_with (first | (refine wpList_alloc_row rfl 65 rfl zD zD_run ?_) | (refine wpList_build_zero rfl 65 rfl Tryd.underlying65 Tryd.sizeOf3 zD zD_run ?_) | (refine wpList_store_row rfl 65 _ _ rfl _ zD zD rfl rfl (heap_alloc_new _ _) (infoArr _) rfl (arr_one _ _ _) ?_))
  clear hds
  have f0 : (((((w.alloc (.cells (da m) 65)).alloc (.cells (da n) 65)).alloc (.cells zD 65)).alloc (.cells zD 65)).setRow (w.heap.size + 1 + 1 + 1) zD).heap[w.heap.size]? = some (.cells (da m) 65) := blk_row_other (blk_alloc (blk_alloc (blk_alloc (by have := heap_alloc_new w (.cells (da m) 65); simpa using this)))) (by omega)
  have f1 : (((((w.alloc (.cells (da m) 65)).alloc (.cells (da n) 65)).alloc (.cells zD 65)).alloc (.cells zD 65)).setRow (w.heap.size + 1 + 1 + 1) zD).heap[w.heap.size + 1]? = some (.cells (da n) 65) := blk_row_other (blk_alloc (blk_alloc (by have := heap_alloc_new (w.alloc (.cells (da m) 65)) (.cells (da n) 65); simpa using this))) (by omega)
  have f2 : (((((w.alloc (.cells (da m) 65)).alloc (.cells (da n) 65)).alloc (.cells zD 65)).alloc (.cells zD 65)).setRow (w.heap.size + 1 + 1 + 1) zD).heap[w.heap.size + 1 + 1]? = some (.cells zD 65) := blk_row_other (blk_alloc (by have := heap_alloc_new ((w.alloc (.cells (da m) 65)).alloc (.cells (da n) 65)) (.cells zD 65); simpa using this)) (by omega)
  have f3 : (((((w.alloc (.cells (da m) 65)).alloc (.cells (da n) 65)).alloc (.cells zD 65)).alloc (.cells zD 65)).setRow (w.heap.size + 1 + 1 + 1) zD).heap[w.heap.size + 1 + 1 + 1]? = some (.cells zD 65) := blk_row (by have := heap_alloc_new (((w.alloc (.cells (da m) 65)).alloc (.cells (da n) 65)).alloc (.cells zD 65)) (.cells zD 65); simpa using this)
  have bW : Below w.heap.size w (((((w.alloc (.cells (da m) 65)).alloc (.cells (da n) 65)).alloc (.cells zD 65)).alloc (.cells zD 65)).setRow (w.heap.size + 1 + 1 + 1) zD) := below_setRow (((((Below.refl _ _).alloc (by simp; try omega) _).alloc (by simp; try omega) _).alloc (by simp; try omega) _).alloc (by simp; try omega) _) (by omega) _
  generalize (((((w.alloc (.cells (da m) 65)).alloc (.cells (da n) 65)).alloc (.cells zD 65)).alloc (.cells zD 65)).setRow (w.heap.size + 1 + 1 + 1) zD) = W at *
  go_loopw [6, 7] (fun c i wr => ∃ k : Nat, k ≤ 32 ∧ i = .int .i64 k ∧ c = .int .i64 ((carry m n k : Nat) : Int) ∧ Below w.heap.size w wr ∧ wr.heap[w.heap.size]? = some (.cells (da m) 65) ∧ wr.heap[w.heap.size + 1]? = some (.cells (da n) 65) ∧ wr.heap[w.heap.size + 1 + 1]? = some (.cells zD 65) ∧
      wr.heap[w.heap.size + 1 + 1 + 1]? = some (.cells (arr .i64 32 (fun j => if j < k then ((dig (m + n) j : Nat) : Int) else 0)) 65)) (fun _ i _ => 32 - (intOf i).toNat)
  case atStart => exact ⟨0, Nat.zero_le _, rfl, by rw [carry_zero]; rfl, bW, f0, f1, f2, by rw [fill_start]; exact f3⟩
  case round =>
    obtain ⟨k, hk, rfl, rfl, hb, ha, hn, hr, hd⟩ := hrel
    clear f0 f1 f2 f3 bW
    by_cases hlt : k < 32
    · have c1 := blk_cell ha (arr_get .i64 _ hlt)
      have c2 := blk_cell hn (arr_get .i64 _ hlt)
      have c3 := blk_cell hd (arr_get .i64 _ hlt)
      have c4 := blk_frozen (j := k) hd
      have d1 := dig_lt m k
      have d2 := dig_lt n k
      have d3 := (carry_eq m n k).2
      obtain ⟨s1, s2⟩ := carry_step m n k
      have S1 := Lib.hid s1
      have S2 := Lib.hid s2
      have HA := Lib.hid ha
      have HN := Lib.hid hn
      have HR := Lib.hid hr
      have HD := Lib.hid hd
      have HB := Lib.hid hb
      clear ha hn hr hd hb s1 s2
      go_wp2_with fail
      go_region
      go_wp2_with fail
      have v1 : (((dig m k : Nat) : Int) + ((dig n k : Nat) : Int) + ((carry m n k : Nat) : Int)) % 256 = ((dig (m + n) k : Nat) : Int) := by rw [← S1.out]; rfl
      have v2 : (((dig m k : Nat) : Int) + ((dig n k : Nat) : Int) + ((carry m n k : Nat) : Int)) / 256 = ((carry m n (k + 1) : Nat) : Int) := by rw [← S2.out]; rfl
      rw [v1, v2]
      refine ⟨⟨k + 1, by omega, by go_num, rfl, (HB.out.setCell (by simp; omega) _).drew, blk_other HA.out (by omega) _, blk_other HN.out (by omega) _, blk_other HR.out (by omega) _, ?_⟩, by simp [intOf]; omega⟩
      rw [← fill_step (fun j => ((dig (m + n) j : Nat) : Int)) k hlt _ rfl]
      exact blk_set HD.out _
    · obtain rfl : k = 32 := by omega
      rw [fill_end] at hd
      have HB := Lib.hid hb
      clear hb ha hn
      go_wp2_with (first | (refine wpList_load_row rfl 65 _ rfl _ rfl 65 (da (m + n)) (0, 0) _ hd Tryd.underlying65 rfl (infoArr _) ?_) | (refine wpList_store_row rfl 65 _ _ rfl _ zD (da (m + n)) rfl rfl hr (infoArr _) rfl (arr_one _ _ _) ?_))
      refine bodyPost_ret (v := .agg (da (m + n))) (results_cell_row rfl _ _ _ 65 (da (m + n)) (0, 0) _ rfl (blk_row hr) Tryd.underlying65 rfl (infoArr _)) rfl ⟨rfl, below_setRow HB.out (by omega) _⟩
end Go.Proofs.YtlplncfonphkeaaDoor
