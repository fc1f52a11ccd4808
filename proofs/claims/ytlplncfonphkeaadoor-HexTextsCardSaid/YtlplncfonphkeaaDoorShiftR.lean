/- What the function Shift of the document's digits does: the digits of the number whose bits stand so many places up, or down. -/
import Derived.Test.YtlplncfonphkeaaDoorBits
namespace Go.Proofs.YtlplncfonphkeaaDoor
open Go.RowKit SmWord
set_option maxRecDepth 100000

theorem stay {w w' : World} (h : Below w.heap.size w w') {b : Nat} {o : Obj} (hb : w.heap[b]? = some o) : w'.heap[b]? = some o := Ext.block ⟨w', h⟩ hb
theorem fillB_step (f : Nat → Int) (k : Nat) (hk : k < 256) (v : Int) (hv : v = f k) :
    (arr .i64 256 (fun j => if j < k then f j else 0)).setIfInBounds k (.int .i64 v) = arr .i64 256 (fun j => if j < k + 1 then f j else 0) := by
  rw [arr_set _ _ _ hk]
  refine arr_congr fun i _ => ?_
  by_cases h1 : i = k
  · subst h1; simp [hv]
  · by_cases h2 : i < k
    · simp [h1, h2, show i < k + 1 by omega]
    · simp [h1, h2, show ¬ i < k + 1 by omega]
theorem fillB_start (f : Nat → Int) : arr .i64 256 (fun j => if j < 0 then f j else 0) = zB := arr_congr fun i _ => by simp
theorem fillB_end (f : Nat → Int) : arr .i64 256 (fun j => if j < 256 then f j else 0) = arr .i64 256 f := arr_congr fun i hi => by simp [hi]
set_option maxHeartbeats 2000000 in
theorem shift_ref (m t : Nat) (s : Int) (w : World) (hs0 : -300 ≤ s) (hs1 : s ≤ 300) (ht : Hid (∀ i : Nat, i < 256 → bitI m ((i : Int) - s) = ((bitN t i : Nat) : Int))) :
    Calls Tryd.prog 29 #[.agg (da m), .int .i64 s] w fun e w' => e = .returned (.agg (da t)) ∧ Below w.heap.size w w' := by
  have hds : (da m).size = 32 := arr_size _ _ _
  go_enter Tryd.func29, Tryd.ntmps29
  go_wp2_with (first | (refine wpList_alloc_row rfl 65 rfl zD zD_run ?_) | (refine wpList_build_zero rfl 65 rfl Tryd.underlying65 Tryd.sizeOf3 zD zD_run ?_) | (refine wpList_store_row rfl 65 _ _ rfl _ zD zD rfl rfl (heap_alloc_new _ _) (infoArr _) rfl (arr_one _ _ _) ?_) | (refine wpList_alloc_row rfl 83 rfl zB zB_run ?_) | (refine wpList_build_zero rfl 83 rfl Tryd.underlying83 Tryd.sizeOf3 zB zB_run ?_) | (refine wpList_store_row rfl 83 _ _ rfl _ zB zB rfl rfl (heap_alloc_new _ _) (infoArrB _) rfl (arr_one _ _ _) ?_))
  clear hds
  have f0 : ((((w.alloc (.cells (da m) 65)).alloc (.cells zD 65)).alloc (.cells zB 83)).setRow (w.heap.size + 1 + 1) zB).heap[w.heap.size]? = some (.cells (da m) 65) := blk_row_other (blk_alloc (blk_alloc (by have := heap_alloc_new w (.cells (da m) 65); simpa using this))) (by omega)
  have f1 : ((((w.alloc (.cells (da m) 65)).alloc (.cells zD 65)).alloc (.cells zB 83)).setRow (w.heap.size + 1 + 1) zB).heap[w.heap.size + 1]? = some (.cells zD 65) := blk_row_other (blk_alloc (by have := heap_alloc_new (w.alloc (.cells (da m) 65)) (.cells zD 65); simpa using this)) (by omega)
  have f2 : ((((w.alloc (.cells (da m) 65)).alloc (.cells zD 65)).alloc (.cells zB 83)).setRow (w.heap.size + 1 + 1) zB).heap[w.heap.size + 1 + 1]? = some (.cells zB 83) := blk_row (by have := heap_alloc_new ((w.alloc (.cells (da m) 65)).alloc (.cells zD 65)) (.cells zB 83); simpa using this)
  have bW : Below w.heap.size w ((((w.alloc (.cells (da m) 65)).alloc (.cells zD 65)).alloc (.cells zB 83)).setRow (w.heap.size + 1 + 1) zB) := below_setRow ((((Below.refl _ _).alloc (by simp; try omega) _).alloc (by simp; try omega) _).alloc (by simp; try omega) _) (by omega) _
  generalize ((((w.alloc (.cells (da m) 65)).alloc (.cells zD 65)).alloc (.cells zB 83)).setRow (w.heap.size + 1 + 1) zB) = W at *
  go_loopw [6] (fun i wr => ∃ k : Nat, k ≤ 256 ∧ i = .int .i64 k ∧ Below w.heap.size w wr ∧ wr.heap[w.heap.size]? = some (.cells (da m) 65) ∧ wr.heap[w.heap.size + 1]? = some (.cells zD 65) ∧
      wr.heap[w.heap.size + 1 + 1]? = some (.cells (arr .i64 256 (fun j => if j < k then ((bitN t j : Nat) : Int) else 0)) 83)) (fun i _ => 256 - (intOf i).toNat)
  case atStart => exact ⟨0, Nat.zero_le _, rfl, bW, f0, f1, by rw [fillB_start]; exact f2⟩
  case round =>
    obtain ⟨k, hk, rfl, hb, ha, hr, hd⟩ := hrel
    clear f0 f1 f2 bW
    by_cases hlt : k < 256
    · have HT := Lib.hid (ht.out k hlt)
      have HA := Lib.hid ha
      have HR := Lib.hid hr
      have HD := Lib.hid hd
      have HB := Lib.hid hb
      clear ha hr hd hb
      go_wp2_with (refine wpList_load_row rfl 65 _ rfl _ rfl 65 (da m) (0, 0) _ HA.out Tryd.underlying65 rfl (infoArr _) ?_)
      refine (bit_ref m _ _).mono ?_
      rintro e w1 ⟨rfl, b1⟩
      have ha := stay b1 HA.out
      have hr := stay b1 HR.out
      have hd := stay b1 HD.out
      have hb := HB.out.trans (b1.mono HB.out.size)
      have c2 := blk_cell hd (arr_get .i64 _ hlt)
      have c3 := blk_frozen (j := k) hd
      clear HA HR HD HB
      have HA := Lib.hid ha
      have HR := Lib.hid hr
      have HD := Lib.hid hd
      have HB := Lib.hid hb
      clear ha hr hd hb b1
      rw [HT.out]
      go_wp2_with fail
      refine ⟨⟨k + 1, by omega, by go_num, HB.out.setCell (by simp; omega) _, blk_other HA.out (by omega) _, blk_other HR.out (by omega) _, ?_⟩, by simp [intOf]; omega⟩
      rw [← fillB_step (fun j => ((bitN t j : Nat) : Int)) k hlt _ rfl]
      exact blk_set HD.out _
    · obtain rfl : k = 256 := by omega
      rw [fillB_end] at hd
      have HB := Lib.hid hb
      clear hb ha
      go_wp2_with (refine wpList_load_row rfl 83 _ rfl _ rfl 83 (ba t) (0, 0) _ hd Tryd.underlying83 rfl (infoArrB _) ?_)
      refine (bits_ref t _).mono ?_
      rintro e w1 ⟨rfl, b1⟩
      have hr1 := stay b1 hr
      go_wp2_with (refine wpList_store_row rfl 65 _ _ rfl _ zD (da t) rfl rfl hr1 (infoArr _) rfl (arr_one _ _ _) ?_)
      exact bodyPost_ret (v := .agg (da t)) (results_cell_row rfl _ _ _ 65 (da t) (0, 0) _ rfl (blk_row hr1) Tryd.underlying65 rfl (infoArr _)) rfl ⟨rfl, below_setRow (HB.out.trans (b1.mono HB.out.size)) (by omega) _⟩
end Go.Proofs.YtlplncfonphkeaaDoor
