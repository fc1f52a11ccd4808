/- What the function Sub of the document's digits does: the digits of a difference, going round. -/
import Derived.Test.YtlobchkbkdjccaaRefC
import Derived.Test.YtlobchkbkdjccaaLast
namespace Go.Proofs.Ytlobchkbkdjccaa
open Go.RowKit SmWord
set_option maxRecDepth 100000
theorem sub_num_mod (m n : Nat) : (m + (M - 1 - n % M + 1) + n) % M = m % M := by
  have h : n % M < M := Nat.mod_lt _ (by decide)
  have e : m + (M - 1 - n % M + 1) + n = m + n / M * M + M := by
    have := Nat.mod_add_div n M
    rw [Nat.mul_comm M] at this
    omega
  rw [e, Nat.add_mod_right, Nat.add_mul_mod_self_right]
set_option maxHeartbeats 2000000 in
theorem sub_ref (m n : Nat) (w : World) : Calls Try.prog 28 #[.agg (da m), .agg (da n)] w fun e w' => e = .returned (.agg (da (m + (M - 1 - n % M + 1)))) ∧ Below w.heap.size w w' := by
  have hds : ∀ x, (da x).size = 32 := fun x => arr_size _ _ _
  go_enter Try.func28, Try.ntmps28
  go_wp2_with (refine wpList_alloc_row rfl 31 rfl zD zD_run ?_)
  clear hds
  have f0 : (((w.alloc (.cells (da m) 31)).alloc (.cells (da n) 31)).alloc (.cells zD 31)).heap[w.heap.size]? = some (.cells (da m) 31) := blk_alloc (blk_alloc (heap_alloc_new _ _))
  have f1 : (((w.alloc (.cells (da m) 31)).alloc (.cells (da n) 31)).alloc (.cells zD 31)).heap[w.heap.size + 1]? = some (.cells (da n) 31) := blk_alloc (heap_alloc2_new _ _ _)
  have f2 : (((w.alloc (.cells (da m) 31)).alloc (.cells (da n) 31)).alloc (.cells zD 31)).heap[w.heap.size + 1 + 1]? = some (.cells zD 31) := by
    have := heap_alloc_new ((w.alloc (.cells (da m) 31)).alloc (.cells (da n) 31)) (.cells zD 31)
    simpa using this
  have bW : Below w.heap.size w (((w.alloc (.cells (da m) 31)).alloc (.cells (da n) 31)).alloc (.cells zD 31)) := (((Below.refl _ _).alloc (Nat.le_refl _) _).alloc (by simp) _).alloc (by simp; omega) _
  generalize ((w.alloc (.cells (da m) 31)).alloc (.cells (da n) 31)).alloc (.cells zD 31) = W at *
  obtain ⟨x, hx⟩ : ∃ x, M - 1 - n % M + 1 = x := ⟨_, rfl⟩
  have hneg : ∀ w : World, Calls Try.prog 14 #[.agg (da n)] w fun e w' => e = .returned (.agg (da x)) ∧ Below w.heap.size w w' := fun w => by rw [← hx]; exact neg_ref n w
  have HN := Lib.hid hneg
  have HX := Lib.hid hx
  clear hneg hx
  simp only [Act.put, List.setIfInBounds_toArray, List.set_cons_succ, List.set_cons_zero, World.size_alloc]
  refine region_last (aQ := ?aQ) 4 (by kernel_rfl) (by kernel_rfl) (fun w1 => ?hq) (fun w' hb => ?hh)
  case hq =>
    simp only [List.take_succ_cons, List.take_zero]
    go_big_quiet_want
    refine quiet_load_row 31 _ rfl _ (da m) rfl (fun w2 hw2 => by obtain ⟨g, rfl⟩ := hw2; exact g.block (w1.block f0)) Try.underlying31 (infoArr _) ?_
    simp only [Act.put, List.setIfInBounds_toArray, List.set_cons_succ, List.set_cons_zero]
    go_big_quiet_on
    go_big_quiet_want
    refine quiet_load_row 31 _ rfl _ (da n) rfl (fun w2 hw2 => by obtain ⟨g, rfl⟩ := hw2; exact g.block (w1.block f1)) Try.underlying31 (infoArr _) ?_
    simp only [Act.put, List.setIfInBounds_toArray, List.set_cons_succ, List.set_cons_zero]
    go_big_quiet_on
    repeat (go_big_quiet_step (first | (go_at_call 14; with_reducible exact calls_ext (HN.out _)) | (go_at_call 17; with_reducible exact calls_ext (add_ref _ _ _))))
    refine wpQuiet_nil ?_
    rfl
  case hh =>
    have hr := Ext.block ⟨w', hb⟩ f2
    have bW := bW.trans (hb.mono bW.size)
    simp only [List.drop_succ_cons, List.drop_zero]
    refine wpList_store_row rfl 31 _ _ rfl _ zD (da (m + x)) rfl rfl hr (infoArr _) rfl (arr_one _ _ _) ?_
    refine wpList_nil ?_
    go_wp2_with fail
    exact bodyPost_ret (v := .agg (da (m + x))) (results_cell_row rfl _ _ _ 31 (da (m + x)) (0, 0) _ rfl (blk_row hr) Try.underlying31 rfl (infoArr _)) rfl ⟨by rw [HX.out], below_setRow bW (by omega) _⟩
end Go.Proofs.Ytlobchkbkdjccaa
