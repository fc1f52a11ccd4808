/- Stage 17: what a number's methods answer, told by what they call; all older memory is as it was. -/
import Derived.Test.YtdpbjdecbilaeaaG4
import Derived.Deep.DeepCutAuto
import Derived.Deep.RegionHeld3
import Derived.Test.YtdpbjdecbilaeaaG6
import Derived.Test.YtdpbjdecbilaeaaG1
namespace Go.Proofs.Ytdpbjdecbilaeaa
open Go.RowKit SmWord
set_option maxRecDepth 100000

theorem Try.infoNa {n : Nat} : (Try.prog.info? 34).map (·.size) = some (wa n).size := by rw [wa_size]; kernel_rfl
set_option maxHeartbeats 1000000 in
theorem al_plus_walk (a b t : Nat) (w : World) (H : Hid (∀ w : World, Calls Try.prog 40 #[wd a, wd b] w fun e w' => e = .returned (wd t) ∧ Below w.heap.size w w')) :
    Calls Try.prog 14 #[wd a, wd b] w fun e w' => e = .returned (wd t) ∧ Below w.heap.size w w' := by
  have hz := z4_wa
  have hsz := wa_size
  go_enter Try.func14, Try.ntmps14
  go_upto_region 1 with fail
  have f0 : (((w.alloc (.cells (wa a) 34)).alloc (.cells (wa b) 34)).alloc (.cells (wa 0) 34)).heap[w.heap.size]? = some (.cells (wa a) 34) := blk_alloc (blk_alloc (blk_new _ (by simp)))
  have f1 : (((w.alloc (.cells (wa a) 34)).alloc (.cells (wa b) 34)).alloc (.cells (wa 0) 34)).heap[w.heap.size + 1]? = some (.cells (wa b) 34) := blk_alloc (blk_new _ (by simp))
  have f2 : (((w.alloc (.cells (wa a) 34)).alloc (.cells (wa b) 34)).alloc (.cells (wa 0) 34)).heap[w.heap.size + 2]? = some (.cells (wa 0) 34) := blk_new _ (by simp)
  have bW : Below w.heap.size w (((w.alloc (.cells (wa a) 34)).alloc (.cells (wa b) 34)).alloc (.cells (wa 0) 34)) := (((Below.refl _ _).alloc (by simp <;> omega) _).alloc (by simp <;> omega) _).alloc (by simp <;> omega) _
  have sW : w.heap.size + 3 ≤ (((w.alloc (.cells (wa a) 34)).alloc (.cells (wa b) 34)).alloc (.cells (wa 0) 34)).heap.size := by simp
  generalize (((w.alloc (.cells (wa a) 34)).alloc (.cells (wa b) 34)).alloc (.cells (wa 0) 34)) = W at *
  go_wp2_with (refine wpList_load_row rfl 34 _ rfl _ rfl 34 _ (0, 0) _ (by assumption) Try.underlying34 rfl Try.infoNa ?_)
  refine (H.out _).mono ?_
  rintro e w1 ⟨rfl, b1⟩
  replace f0 := Below.stays b1 f0
  replace f1 := Below.stays b1 f1
  replace f2 := Below.stays b1 f2
  replace bW := bW.trans (b1.mono bW.size)
  replace sW := Nat.le_trans sW b1.size
  clear b1
  go_wp2_with (refine wpList_store_row rfl 34 (.tmp 4) _ rfl _ _ (wa t) rfl rfl f2 Try.infoNa rfl wa_one ?_)
  have e2 := word_cells (blk_row (c' := wa t) f2)
  exact bodyPost_ret (v := wd t) (by simp [results, Try.results14, go_sem, e2, fold_wa]) rfl ⟨rfl, below_setRow bW (by omega) _⟩
set_option maxHeartbeats 1000000 in
theorem al_times_walk (a b t : Nat) (w : World) (H : Hid (∀ w : World, Calls Try.prog 41 #[wd a, wd b] w fun e w' => e = .returned (wd t) ∧ Below w.heap.size w w')) :
    Calls Try.prog 15 #[wd a, wd b] w fun e w' => e = .returned (wd t) ∧ Below w.heap.size w w' := by
  have hz := z4_wa
  have hsz := wa_size
  go_enter Try.func15, Try.ntmps15
  go_upto_region 1 with fail
  have f0 : (((w.alloc (.cells (wa a) 34)).alloc (.cells (wa b) 34)).alloc (.cells (wa 0) 34)).heap[w.heap.size]? = some (.cells (wa a) 34) := blk_alloc (blk_alloc (blk_new _ (by simp)))
  have f1 : (((w.alloc (.cells (wa a) 34)).alloc (.cells (wa b) 34)).alloc (.cells (wa 0) 34)).heap[w.heap.size + 1]? = some (.cells (wa b) 34) := blk_alloc (blk_new _ (by simp))
  have f2 : (((w.alloc (.cells (wa a) 34)).alloc (.cells (wa b) 34)).alloc (.cells (wa 0) 34)).heap[w.heap.size + 2]? = some (.cells (wa 0) 34) := blk_new _ (by simp)
  have bW : Below w.heap.size w (((w.alloc (.cells (wa a) 34)).alloc (.cells (wa b) 34)).alloc (.cells (wa 0) 34)) := (((Below.refl _ _).alloc (by simp <;> omega) _).alloc (by simp <;> omega) _).alloc (by simp <;> omega) _
  have sW : w.heap.size + 3 ≤ (((w.alloc (.cells (wa a) 34)).alloc (.cells (wa b) 34)).alloc (.cells (wa 0) 34)).heap.size := by simp
  generalize (((w.alloc (.cells (wa a) 34)).alloc (.cells (wa b) 34)).alloc (.cells (wa 0) 34)) = W at *
  go_wp2_with (refine wpList_load_row rfl 34 _ rfl _ rfl 34 _ (0, 0) _ (by assumption) Try.underlying34 rfl Try.infoNa ?_)
  refine (H.out _).mono ?_
  rintro e w1 ⟨rfl, b1⟩
  replace f0 := Below.stays b1 f0
  replace f1 := Below.stays b1 f1
  replace f2 := Below.stays b1 f2
  replace bW := bW.trans (b1.mono bW.size)
  replace sW := Nat.le_trans sW b1.size
  clear b1
  go_wp2_with (refine wpList_store_row rfl 34 (.tmp 4) _ rfl _ _ (wa t) rfl rfl f2 Try.infoNa rfl wa_one ?_)
  have e2 := word_cells (blk_row (c' := wa t) f2)
  exact bodyPost_ret (v := wd t) (by simp [results, Try.results15, go_sem, e2, fold_wa]) rfl ⟨rfl, below_setRow bW (by omega) _⟩
set_option maxHeartbeats 1000000 in
theorem al_minus_walk (a b t : Nat) (w : World) (H : Hid (∀ w : World, Calls Try.prog 42 #[wd a, wd b] w fun e w' => e = .returned (wd t) ∧ Below w.heap.size w w')) :
    Calls Try.prog 16 #[wd a, wd b] w fun e w' => e = .returned (wd t) ∧ Below w.heap.size w w' := by
  have hz := z4_wa
  have hsz := wa_size
  go_enter Try.func16, Try.ntmps16
  go_upto_region 1 with fail
  have f0 : (((w.alloc (.cells (wa a) 34)).alloc (.cells (wa b) 34)).alloc (.cells (wa 0) 34)).heap[w.heap.size]? = some (.cells (wa a) 34) := blk_alloc (blk_alloc (blk_new _ (by simp)))
  have f1 : (((w.alloc (.cells (wa a) 34)).alloc (.cells (wa b) 34)).alloc (.cells (wa 0) 34)).heap[w.heap.size + 1]? = some (.cells (wa b) 34) := blk_alloc (blk_new _ (by simp))
  have f2 : (((w.alloc (.cells (wa a) 34)).alloc (.cells (wa b) 34)).alloc (.cells (wa 0) 34)).heap[w.heap.size + 2]? = some (.cells (wa 0) 34) := blk_new _ (by simp)
  have bW : Below w.heap.size w (((w.alloc (.cells (wa a) 34)).alloc (.cells (wa b) 34)).alloc (.cells (wa 0) 34)) := (((Below.refl _ _).alloc (by simp <;> omega) _).alloc (by simp <;> omega) _).alloc (by simp <;> omega) _
  have sW : w.heap.size + 3 ≤ (((w.alloc (.cells (wa a) 34)).alloc (.cells (wa b) 34)).alloc (.cells (wa 0) 34)).heap.size := by simp
  generalize (((w.alloc (.cells (wa a) 34)).alloc (.cells (wa b) 34)).alloc (.cells (wa 0) 34)) = W at *
  go_wp2_with (refine wpList_load_row rfl 34 _ rfl _ rfl 34 _ (0, 0) _ (by assumption) Try.underlying34 rfl Try.infoNa ?_)
  refine (H.out _).mono ?_
  rintro e w1 ⟨rfl, b1⟩
  replace f0 := Below.stays b1 f0
  replace f1 := Below.stays b1 f1
  replace f2 := Below.stays b1 f2
  replace bW := bW.trans (b1.mono bW.size)
  replace sW := Nat.le_trans sW b1.size
  clear b1
  go_wp2_with (refine wpList_store_row rfl 34 (.tmp 4) _ rfl _ _ (wa t) rfl rfl f2 Try.infoNa rfl wa_one ?_)
  have e2 := word_cells (blk_row (c' := wa t) f2)
  exact bodyPost_ret (v := wd t) (by simp [results, Try.results16, go_sem, e2, fold_wa]) rfl ⟨rfl, below_setRow bW (by omega) _⟩
set_option maxHeartbeats 1000000 in
theorem al_power_walk (a b t : Nat) (w : World) (H : Hid (∀ w : World, Calls Try.prog 45 #[wd a, wd b] w fun e w' => e = .returned (wd t) ∧ Below w.heap.size w w')) :
    Calls Try.prog 21 #[wd a, wd b] w fun e w' => e = .returned (wd t) ∧ Below w.heap.size w w' := by
  have hz := z4_wa
  have hsz := wa_size
  go_enter Try.func21, Try.ntmps21
  go_upto_region 1 with fail
  have f0 : (((w.alloc (.cells (wa a) 34)).alloc (.cells (wa b) 34)).alloc (.cells (wa 0) 34)).heap[w.heap.size]? = some (.cells (wa a) 34) := blk_alloc (blk_alloc (blk_new _ (by simp)))
  have f1 : (((w.alloc (.cells (wa a) 34)).alloc (.cells (wa b) 34)).alloc (.cells (wa 0) 34)).heap[w.heap.size + 1]? = some (.cells (wa b) 34) := blk_alloc (blk_new _ (by simp))
  have f2 : (((w.alloc (.cells (wa a) 34)).alloc (.cells (wa b) 34)).alloc (.cells (wa 0) 34)).heap[w.heap.size + 2]? = some (.cells (wa 0) 34) := blk_new _ (by simp)
  have bW : Below w.heap.size w (((w.alloc (.cells (wa a) 34)).alloc (.cells (wa b) 34)).alloc (.cells (wa 0) 34)) := (((Below.refl _ _).alloc (by simp <;> omega) _).alloc (by simp <;> omega) _).alloc (by simp <;> omega) _
  have sW : w.heap.size + 3 ≤ (((w.alloc (.cells (wa a) 34)).alloc (.cells (wa b) 34)).alloc (.cells (wa 0) 34)).heap.size := by simp
  generalize (((w.alloc (.cells (wa a) 34)).alloc (.cells (wa b) 34)).alloc (.cells (wa 0) 34)) = W at *
  go_wp2_with (refine wpList_load_row rfl 34 _ rfl _ rfl 34 _ (0, 0) _ (by assumption) Try.underlying34 rfl Try.infoNa ?_)
  refine (H.out _).mono ?_
  rintro e w1 ⟨rfl, b1⟩
  replace f0 := Below.stays b1 f0
  replace f1 := Below.stays b1 f1
  replace f2 := Below.stays b1 f2
  replace bW := bW.trans (b1.mono bW.size)
  replace sW := Nat.le_trans sW b1.size
  clear b1
  go_wp2_with (refine wpList_store_row rfl 34 (.tmp 4) _ rfl _ _ (wa t) rfl rfl f2 Try.infoNa rfl wa_one ?_)
  have e2 := word_cells (blk_row (c' := wa t) f2)
  exact bodyPost_ret (v := wd t) (by simp [results, Try.results21, go_sem, e2, fold_wa]) rfl ⟨rfl, below_setRow bW (by omega) _⟩
set_option maxHeartbeats 1000000 in
theorem al_extend_walk (a b t : Nat) (w : World) (H : Hid (∀ w : World, Calls Try.prog 46 #[wd a, wd b] w fun e w' => e = .returned (wd t) ∧ Below w.heap.size w w')) :
    Calls Try.prog 22 #[wd a, wd b] w fun e w' => e = .returned (wd t) ∧ Below w.heap.size w w' := by
  have hz := z4_wa
  have hsz := wa_size
  go_enter Try.func22, Try.ntmps22
  go_upto_region 1 with fail
  have f0 : (((w.alloc (.cells (wa a) 34)).alloc (.cells (wa b) 34)).alloc (.cells (wa 0) 34)).heap[w.heap.size]? = some (.cells (wa a) 34) := blk_alloc (blk_alloc (blk_new _ (by simp)))
  have f1 : (((w.alloc (.cells (wa a) 34)).alloc (.cells (wa b) 34)).alloc (.cells (wa 0) 34)).heap[w.heap.size + 1]? = some (.cells (wa b) 34) := blk_alloc (blk_new _ (by simp))
  have f2 : (((w.alloc (.cells (wa a) 34)).alloc (.cells (wa b) 34)).alloc (.cells (wa 0) 34)).heap[w.heap.size + 2]? = some (.cells (wa 0) 34) := blk_new _ (by simp)
  have bW : Below w.heap.size w (((w.alloc (.cells (wa a) 34)).alloc (.cells (wa b) 34)).alloc (.cells (wa 0) 34)) := (((Below.refl _ _).alloc (by simp <;> omega) _).alloc (by simp <;> omega) _).alloc (by simp <;> omega) _
  have sW : w.heap.size + 3 ≤ (((w.alloc (.cells (wa a) 34)).alloc (.cells (wa b) 34)).alloc (.cells (wa 0) 34)).heap.size := by simp
  generalize (((w.alloc (.cells (wa a) 34)).alloc (.cells (wa b) 34)).alloc (.cells (wa 0) 34)) = W at *
  go_wp2_with (refine wpList_load_row rfl 34 _ rfl _ rfl 34 _ (0, 0) _ (by assumption) Try.underlying34 rfl Try.infoNa ?_)
  refine (H.out _).mono ?_
  rintro e w1 ⟨rfl, b1⟩
  replace f0 := Below.stays b1 f0
  replace f1 := Below.stays b1 f1
  replace f2 := Below.stays b1 f2
  replace bW := bW.trans (b1.mono bW.size)
  replace sW := Nat.le_trans sW b1.size
  clear b1
  go_wp2_with (refine wpList_store_row rfl 34 (.tmp 4) _ rfl _ _ (wa t) rfl rfl f2 Try.infoNa rfl wa_one ?_)
  have e2 := word_cells (blk_row (c' := wa t) f2)
  exact bodyPost_ret (v := wd t) (by simp [results, Try.results22, go_sem, e2, fold_wa]) rfl ⟨rfl, below_setRow bW (by omega) _⟩
set_option maxHeartbeats 1000000 in
theorem al_and_walk (a b t : Nat) (w : World) (H : Hid (∀ w : World, Calls Try.prog 50 #[wd a, wd b] w fun e w' => e = .returned (wd t) ∧ Below w.heap.size w w')) :
    Calls Try.prog 28 #[wd a, wd b] w fun e w' => e = .returned (wd t) ∧ Below w.heap.size w w' := by
  have hz := z4_wa
  have hsz := wa_size
  go_enter Try.func28, Try.ntmps28
  go_upto_region 1 with fail
  have f0 : (((w.alloc (.cells (wa a) 34)).alloc (.cells (wa b) 34)).alloc (.cells (wa 0) 34)).heap[w.heap.size]? = some (.cells (wa a) 34) := blk_alloc (blk_alloc (blk_new _ (by simp)))
  have f1 : (((w.alloc (.cells (wa a) 34)).alloc (.cells (wa b) 34)).alloc (.cells (wa 0) 34)).heap[w.heap.size + 1]? = some (.cells (wa b) 34) := blk_alloc (blk_new _ (by simp))
  have f2 : (((w.alloc (.cells (wa a) 34)).alloc (.cells (wa b) 34)).alloc (.cells (wa 0) 34)).heap[w.heap.size + 2]? = some (.cells (wa 0) 34) := blk_new _ (by simp)
  have bW : Below w.heap.size w (((w.alloc (.cells (wa a) 34)).alloc (.cells (wa b) 34)).alloc (.cells (wa 0) 34)) := (((Below.refl _ _).alloc (by simp <;> omega) _).alloc (by simp <;> omega) _).alloc (by simp <;> omega) _
  have sW : w.heap.size + 3 ≤ (((w.alloc (.cells (wa a) 34)).alloc (.cells (wa b) 34)).alloc (.cells (wa 0) 34)).heap.size := by simp
  generalize (((w.alloc (.cells (wa a) 34)).alloc (.cells (wa b) 34)).alloc (.cells (wa 0) 34)) = W at *
  go_wp2_with (refine wpList_load_row rfl 34 _ rfl _ rfl 34 _ (0, 0) _ (by assumption) Try.underlying34 rfl Try.infoNa ?_)
  refine (H.out _).mono ?_
  rintro e w1 ⟨rfl, b1⟩
  replace f0 := Below.stays b1 f0
  replace f1 := Below.stays b1 f1
  replace f2 := Below.stays b1 f2
  replace bW := bW.trans (b1.mono bW.size)
  replace sW := Nat.le_trans sW b1.size
  clear b1
  go_wp2_with (refine wpList_store_row rfl 34 (.tmp 4) _ rfl _ _ (wa t) rfl rfl f2 Try.infoNa rfl wa_one ?_)
  have e2 := word_cells (blk_row (c' := wa t) f2)
  exact bodyPost_ret (v := wd t) (by simp [results, Try.results28, go_sem, e2, fold_wa]) rfl ⟨rfl, below_setRow bW (by omega) _⟩
set_option maxHeartbeats 1000000 in
theorem al_or_walk (a b t : Nat) (w : World) (H : Hid (∀ w : World, Calls Try.prog 51 #[wd a, wd b] w fun e w' => e = .returned (wd t) ∧ Below w.heap.size w w')) :
    Calls Try.prog 29 #[wd a, wd b] w fun e w' => e = .returned (wd t) ∧ Below w.heap.size w w' := by
  have hz := z4_wa
  have hsz := wa_size
  go_enter Try.func29, Try.ntmps29
  go_upto_region 1 with fail
  have f0 : (((w.alloc (.cells (wa a) 34)).alloc (.cells (wa b) 34)).alloc (.cells (wa 0) 34)).heap[w.heap.size]? = some (.cells (wa a) 34) := blk_alloc (blk_alloc (blk_new _ (by simp)))
  have f1 : (((w.alloc (.cells (wa a) 34)).alloc (.cells (wa b) 34)).alloc (.cells (wa 0) 34)).heap[w.heap.size + 1]? = some (.cells (wa b) 34) := blk_alloc (blk_new _ (by simp))
  have f2 : (((w.alloc (.cells (wa a) 34)).alloc (.cells (wa b) 34)).alloc (.cells (wa 0) 34)).heap[w.heap.size + 2]? = some (.cells (wa 0) 34) := blk_new _ (by simp)
  have bW : Below w.heap.size w (((w.alloc (.cells (wa a) 34)).alloc (.cells (wa b) 34)).alloc (.cells (wa 0) 34)) := (((Below.refl _ _).alloc (by simp <;> omega) _).alloc (by simp <;> omega) _).alloc (by simp <;> omega) _
  have sW : w.heap.size + 3 ≤ (((w.alloc (.cells (wa a) 34)).alloc (.cells (wa b) 34)).alloc (.cells (wa 0) 34)).heap.size := by simp
  generalize (((w.alloc (.cells (wa a) 34)).alloc (.cells (wa b) 34)).alloc (.cells (wa 0) 34)) = W at *
  go_wp2_with (refine wpList_load_row rfl 34 _ rfl _ rfl 34 _ (0, 0) _ (by assumption) Try.underlying34 rfl Try.infoNa ?_)
  refine (H.out _).mono ?_
  rintro e w1 ⟨rfl, b1⟩
  replace f0 := Below.stays b1 f0
  replace f1 := Below.stays b1 f1
  replace f2 := Below.stays b1 f2
  replace bW := bW.trans (b1.mono bW.size)
  replace sW := Nat.le_trans sW b1.size
  clear b1
  go_wp2_with (refine wpList_store_row rfl 34 (.tmp 4) _ rfl _ _ (wa t) rfl rfl f2 Try.infoNa rfl wa_one ?_)
  have e2 := word_cells (blk_row (c' := wa t) f2)
  exact bodyPost_ret (v := wd t) (by simp [results, Try.results29, go_sem, e2, fold_wa]) rfl ⟨rfl, below_setRow bW (by omega) _⟩
set_option maxHeartbeats 1000000 in
theorem al_xor_walk (a b t : Nat) (w : World) (H : Hid (∀ w : World, Calls Try.prog 52 #[wd a, wd b] w fun e w' => e = .returned (wd t) ∧ Below w.heap.size w w')) :
    Calls Try.prog 30 #[wd a, wd b] w fun e w' => e = .returned (wd t) ∧ Below w.heap.size w w' := by
  have hz := z4_wa
  have hsz := wa_size
  go_enter Try.func30, Try.ntmps30
  go_upto_region 1 with fail
  have f0 : (((w.alloc (.cells (wa a) 34)).alloc (.cells (wa b) 34)).alloc (.cells (wa 0) 34)).heap[w.heap.size]? = some (.cells (wa a) 34) := blk_alloc (blk_alloc (blk_new _ (by simp)))
  have f1 : (((w.alloc (.cells (wa a) 34)).alloc (.cells (wa b) 34)).alloc (.cells (wa 0) 34)).heap[w.heap.size + 1]? = some (.cells (wa b) 34) := blk_alloc (blk_new _ (by simp))
  have f2 : (((w.alloc (.cells (wa a) 34)).alloc (.cells (wa b) 34)).alloc (.cells (wa 0) 34)).heap[w.heap.size + 2]? = some (.cells (wa 0) 34) := blk_new _ (by simp)
  have bW : Below w.heap.size w (((w.alloc (.cells (wa a) 34)).alloc (.cells (wa b) 34)).alloc (.cells (wa 0) 34)) := (((Below.refl _ _).alloc (by simp <;> omega) _).alloc (by simp <;> omega) _).alloc (by simp <;> omega) _
  have sW : w.heap.size + 3 ≤ (((w.alloc (.cells (wa a) 34)).alloc (.cells (wa b) 34)).alloc (.cells (wa 0) 34)).heap.size := by simp
  generalize (((w.alloc (.cells (wa a) 34)).alloc (.cells (wa b) 34)).alloc (.cells (wa 0) 34)) = W at *
  go_wp2_with (refine wpList_load_row rfl 34 _ rfl _ rfl 34 _ (0, 0) _ (by assumption) Try.underlying34 rfl Try.infoNa ?_)
  refine (H.out _).mono ?_
  rintro e w1 ⟨rfl, b1⟩
  replace f0 := Below.stays b1 f0
  replace f1 := Below.stays b1 f1
  replace f2 := Below.stays b1 f2
  replace bW := bW.trans (b1.mono bW.size)
  replace sW := Nat.le_trans sW b1.size
  clear b1
  go_wp2_with (refine wpList_store_row rfl 34 (.tmp 4) _ rfl _ _ (wa t) rfl rfl f2 Try.infoNa rfl wa_one ?_)
  have e2 := word_cells (blk_row (c' := wa t) f2)
  exact bodyPost_ret (v := wd t) (by simp [results, Try.results30, go_sem, e2, fold_wa]) rfl ⟨rfl, below_setRow bW (by omega) _⟩
set_option maxHeartbeats 1000000 in
theorem al_more_walk (a b t : Nat) (w : World) (H : Hid (∀ w : World, Calls Try.prog 23 #[wd b, wd a] w fun e w' => e = .returned (wd t) ∧ Below w.heap.size w w')) :
    Calls Try.prog 24 #[wd a, wd b] w fun e w' => e = .returned (wd t) ∧ Below w.heap.size w w' := by
  have hz := z4_wa
  have hsz := wa_size
  go_enter Try.func24, Try.ntmps24
  go_upto_region 1 with fail
  have f0 : (((w.alloc (.cells (wa a) 34)).alloc (.cells (wa b) 34)).alloc (.cells (wa 0) 34)).heap[w.heap.size]? = some (.cells (wa a) 34) := blk_alloc (blk_alloc (blk_new _ (by simp)))
  have f1 : (((w.alloc (.cells (wa a) 34)).alloc (.cells (wa b) 34)).alloc (.cells (wa 0) 34)).heap[w.heap.size + 1]? = some (.cells (wa b) 34) := blk_alloc (blk_new _ (by simp))
  have f2 : (((w.alloc (.cells (wa a) 34)).alloc (.cells (wa b) 34)).alloc (.cells (wa 0) 34)).heap[w.heap.size + 2]? = some (.cells (wa 0) 34) := blk_new _ (by simp)
  have bW : Below w.heap.size w (((w.alloc (.cells (wa a) 34)).alloc (.cells (wa b) 34)).alloc (.cells (wa 0) 34)) := (((Below.refl _ _).alloc (by simp <;> omega) _).alloc (by simp <;> omega) _).alloc (by simp <;> omega) _
  have sW : w.heap.size + 3 ≤ (((w.alloc (.cells (wa a) 34)).alloc (.cells (wa b) 34)).alloc (.cells (wa 0) 34)).heap.size := by simp
  generalize (((w.alloc (.cells (wa a) 34)).alloc (.cells (wa b) 34)).alloc (.cells (wa 0) 34)) = W at *
  go_wp2_with (refine wpList_load_row rfl 34 _ rfl _ rfl 34 _ (0, 0) _ (by assumption) Try.underlying34 rfl Try.infoNa ?_)
  refine (H.out _).mono ?_
  rintro e w1 ⟨rfl, b1⟩
  replace f0 := Below.stays b1 f0
  replace f1 := Below.stays b1 f1
  replace f2 := Below.stays b1 f2
  replace bW := bW.trans (b1.mono bW.size)
  replace sW := Nat.le_trans sW b1.size
  clear b1
  go_wp2_with (refine wpList_store_row rfl 34 (.tmp 4) _ rfl _ _ (wa t) rfl rfl f2 Try.infoNa rfl wa_one ?_)
  have e2 := word_cells (blk_row (c' := wa t) f2)
  exact bodyPost_ret (v := wd t) (by simp [results, Try.results24, go_sem, e2, fold_wa]) rfl ⟨rfl, below_setRow bW (by omega) _⟩
set_option maxHeartbeats 1000000 in
theorem al_signedMore_walk (a b t : Nat) (w : World) (H : Hid (∀ w : World, Calls Try.prog 25 #[wd b, wd a] w fun e w' => e = .returned (wd t) ∧ Below w.heap.size w w')) :
    Calls Try.prog 26 #[wd a, wd b] w fun e w' => e = .returned (wd t) ∧ Below w.heap.size w w' := by
  have hz := z4_wa
  have hsz := wa_size
  go_enter Try.func26, Try.ntmps26
  go_upto_region 1 with fail
  have f0 : (((w.alloc (.cells (wa a) 34)).alloc (.cells (wa b) 34)).alloc (.cells (wa 0) 34)).heap[w.heap.size]? = some (.cells (wa a) 34) := blk_alloc (blk_alloc (blk_new _ (by simp)))
  have f1 : (((w.alloc (.cells (wa a) 34)).alloc (.cells (wa b) 34)).alloc (.cells (wa 0) 34)).heap[w.heap.size + 1]? = some (.cells (wa b) 34) := blk_alloc (blk_new _ (by simp))
  have f2 : (((w.alloc (.cells (wa a) 34)).alloc (.cells (wa b) 34)).alloc (.cells (wa 0) 34)).heap[w.heap.size + 2]? = some (.cells (wa 0) 34) := blk_new _ (by simp)
  have bW : Below w.heap.size w (((w.alloc (.cells (wa a) 34)).alloc (.cells (wa b) 34)).alloc (.cells (wa 0) 34)) := (((Below.refl _ _).alloc (by simp <;> omega) _).alloc (by simp <;> omega) _).alloc (by simp <;> omega) _
  have sW : w.heap.size + 3 ≤ (((w.alloc (.cells (wa a) 34)).alloc (.cells (wa b) 34)).alloc (.cells (wa 0) 34)).heap.size := by simp
  generalize (((w.alloc (.cells (wa a) 34)).alloc (.cells (wa b) 34)).alloc (.cells (wa 0) 34)) = W at *
  go_wp2_with (refine wpList_load_row rfl 34 _ rfl _ rfl 34 _ (0, 0) _ (by assumption) Try.underlying34 rfl Try.infoNa ?_)
  refine (H.out _).mono ?_
  rintro e w1 ⟨rfl, b1⟩
  replace f0 := Below.stays b1 f0
  replace f1 := Below.stays b1 f1
  replace f2 := Below.stays b1 f2
  replace bW := bW.trans (b1.mono bW.size)
  replace sW := Nat.le_trans sW b1.size
  clear b1
  go_wp2_with (refine wpList_store_row rfl 34 (.tmp 4) _ rfl _ _ (wa t) rfl rfl f2 Try.infoNa rfl wa_one ?_)
  have e2 := word_cells (blk_row (c' := wa t) f2)
  exact bodyPost_ret (v := wd t) (by simp [results, Try.results26, go_sem, e2, fold_wa]) rfl ⟨rfl, below_setRow bW (by omega) _⟩
set_option maxHeartbeats 1000000 in
theorem al_plusRest_walk (a b c t : Nat) (w : World) (H : Hid (∀ w : World, Calls Try.prog 61 #[wd a, wd b, wd c] w fun e w' => e = .returned (wd t) ∧ Below w.heap.size w w')) :
    Calls Try.prog 37 #[wd a, wd b, wd c] w fun e w' => e = .returned (wd t) ∧ Below w.heap.size w w' := by
  have hz := z4_wa
  have hsz := wa_size
  go_enter Try.func37, Try.ntmps37
  go_upto_region 1 with fail
  have f0 : ((((w.alloc (.cells (wa a) 34)).alloc (.cells (wa b) 34)).alloc (.cells (wa c) 34)).alloc (.cells (wa 0) 34)).heap[w.heap.size]? = some (.cells (wa a) 34) := blk_alloc (blk_alloc (blk_alloc (blk_new _ (by simp))))
  have f1 : ((((w.alloc (.cells (wa a) 34)).alloc (.cells (wa b) 34)).alloc (.cells (wa c) 34)).alloc (.cells (wa 0) 34)).heap[w.heap.size + 1]? = some (.cells (wa b) 34) := blk_alloc (blk_alloc (blk_new _ (by simp)))
  have f2 : ((((w.alloc (.cells (wa a) 34)).alloc (.cells (wa b) 34)).alloc (.cells (wa c) 34)).alloc (.cells (wa 0) 34)).heap[w.heap.size + 2]? = some (.cells (wa c) 34) := blk_alloc (blk_new _ (by simp))
  have f3 : ((((w.alloc (.cells (wa a) 34)).alloc (.cells (wa b) 34)).alloc (.cells (wa c) 34)).alloc (.cells (wa 0) 34)).heap[w.heap.size + 3]? = some (.cells (wa 0) 34) := blk_new _ (by simp)
  have bW : Below w.heap.size w ((((w.alloc (.cells (wa a) 34)).alloc (.cells (wa b) 34)).alloc (.cells (wa c) 34)).alloc (.cells (wa 0) 34)) := ((((Below.refl _ _).alloc (by simp <;> omega) _).alloc (by simp <;> omega) _).alloc (by simp <;> omega) _).alloc (by simp <;> omega) _
  have sW : w.heap.size + 4 ≤ ((((w.alloc (.cells (wa a) 34)).alloc (.cells (wa b) 34)).alloc (.cells (wa c) 34)).alloc (.cells (wa 0) 34)).heap.size := by simp
  generalize ((((w.alloc (.cells (wa a) 34)).alloc (.cells (wa b) 34)).alloc (.cells (wa c) 34)).alloc (.cells (wa 0) 34)) = W at *
  go_wp2_with (refine wpList_load_row rfl 34 _ rfl _ rfl 34 _ (0, 0) _ (by assumption) Try.underlying34 rfl Try.infoNa ?_)
  refine (H.out _).mono ?_
  rintro e w1 ⟨rfl, b1⟩
  replace f0 := Below.stays b1 f0
  replace f1 := Below.stays b1 f1
  replace f2 := Below.stays b1 f2
  replace f3 := Below.stays b1 f3
  replace bW := bW.trans (b1.mono bW.size)
  replace sW := Nat.le_trans sW b1.size
  clear b1
  go_wp2_with (refine wpList_store_row rfl 34 (.tmp 6) _ rfl _ _ (wa t) rfl rfl f3 Try.infoNa rfl wa_one ?_)
  have e2 := word_cells (blk_row (c' := wa t) f3)
  exact bodyPost_ret (v := wd t) (by simp [results, Try.results37, go_sem, e2, fold_wa]) rfl ⟨rfl, below_setRow bW (by omega) _⟩
set_option maxHeartbeats 1000000 in
theorem al_timesRest_walk (a b c t : Nat) (w : World) (H : Hid (∀ w : World, Calls Try.prog 62 #[wd a, wd b, wd c] w fun e w' => e = .returned (wd t) ∧ Below w.heap.size w w')) :
    Calls Try.prog 38 #[wd a, wd b, wd c] w fun e w' => e = .returned (wd t) ∧ Below w.heap.size w w' := by
  have hz := z4_wa
  have hsz := wa_size
  go_enter Try.func38, Try.ntmps38
  go_upto_region 1 with fail
  have f0 : ((((w.alloc (.cells (wa a) 34)).alloc (.cells (wa b) 34)).alloc (.cells (wa c) 34)).alloc (.cells (wa 0) 34)).heap[w.heap.size]? = some (.cells (wa a) 34) := blk_alloc (blk_alloc (blk_alloc (blk_new _ (by simp))))
  have f1 : ((((w.alloc (.cells (wa a) 34)).alloc (.cells (wa b) 34)).alloc (.cells (wa c) 34)).alloc (.cells (wa 0) 34)).heap[w.heap.size + 1]? = some (.cells (wa b) 34) := blk_alloc (blk_alloc (blk_new _ (by simp)))
  have f2 : ((((w.alloc (.cells (wa a) 34)).alloc (.cells (wa b) 34)).alloc (.cells (wa c) 34)).alloc (.cells (wa 0) 34)).heap[w.heap.size + 2]? = some (.cells (wa c) 34) := blk_alloc (blk_new _ (by simp))
  have f3 : ((((w.alloc (.cells (wa a) 34)).alloc (.cells (wa b) 34)).alloc (.cells (wa c) 34)).alloc (.cells (wa 0) 34)).heap[w.heap.size + 3]? = some (.cells (wa 0) 34) := blk_new _ (by simp)
  have bW : Below w.heap.size w ((((w.alloc (.cells (wa a) 34)).alloc (.cells (wa b) 34)).alloc (.cells (wa c) 34)).alloc (.cells (wa 0) 34)) := ((((Below.refl _ _).alloc (by simp <;> omega) _).alloc (by simp <;> omega) _).alloc (by simp <;> omega) _).alloc (by simp <;> omega) _
  have sW : w.heap.size + 4 ≤ ((((w.alloc (.cells (wa a) 34)).alloc (.cells (wa b) 34)).alloc (.cells (wa c) 34)).alloc (.cells (wa 0) 34)).heap.size := by simp
  generalize ((((w.alloc (.cells (wa a) 34)).alloc (.cells (wa b) 34)).alloc (.cells (wa c) 34)).alloc (.cells (wa 0) 34)) = W at *
  go_wp2_with (refine wpList_load_row rfl 34 _ rfl _ rfl 34 _ (0, 0) _ (by assumption) Try.underlying34 rfl Try.infoNa ?_)
  refine (H.out _).mono ?_
  rintro e w1 ⟨rfl, b1⟩
  replace f0 := Below.stays b1 f0
  replace f1 := Below.stays b1 f1
  replace f2 := Below.stays b1 f2
  replace f3 := Below.stays b1 f3
  replace bW := bW.trans (b1.mono bW.size)
  replace sW := Nat.le_trans sW b1.size
  clear b1
  go_wp2_with (refine wpList_store_row rfl 34 (.tmp 6) _ rfl _ _ (wa t) rfl rfl f3 Try.infoNa rfl wa_one ?_)
  have e2 := word_cells (blk_row (c' := wa t) f3)
  exact bodyPost_ret (v := wd t) (by simp [results, Try.results38, go_sem, e2, fold_wa]) rfl ⟨rfl, below_setRow bW (by omega) _⟩
set_option maxHeartbeats 1000000 in
theorem al_not_walk (a t : Nat) (w : World) (H : Hid (∀ w : World, Calls Try.prog 60 #[wd a] w fun e w' => e = .returned (wd t) ∧ Below w.heap.size w w')) :
    Calls Try.prog 36 #[wd a] w fun e w' => e = .returned (wd t) ∧ Below w.heap.size w w' := by
  have hz := z4_wa
  have hsz := wa_size
  go_enter Try.func36, Try.ntmps36
  go_upto_region 1 with fail
  have f0 : ((w.alloc (.cells (wa a) 34)).alloc (.cells (wa 0) 34)).heap[w.heap.size]? = some (.cells (wa a) 34) := blk_alloc (blk_new _ (by simp))
  have f1 : ((w.alloc (.cells (wa a) 34)).alloc (.cells (wa 0) 34)).heap[w.heap.size + 1]? = some (.cells (wa 0) 34) := blk_new _ (by simp)
  have bW : Below w.heap.size w ((w.alloc (.cells (wa a) 34)).alloc (.cells (wa 0) 34)) := ((Below.refl _ _).alloc (by simp <;> omega) _).alloc (by simp <;> omega) _
  have sW : w.heap.size + 2 ≤ ((w.alloc (.cells (wa a) 34)).alloc (.cells (wa 0) 34)).heap.size := by simp
  generalize ((w.alloc (.cells (wa a) 34)).alloc (.cells (wa 0) 34)) = W at *
  go_wp2_with (refine wpList_load_row rfl 34 _ rfl _ rfl 34 _ (0, 0) _ (by assumption) Try.underlying34 rfl Try.infoNa ?_)
  refine (H.out _).mono ?_
  rintro e w1 ⟨rfl, b1⟩
  replace f0 := Below.stays b1 f0
  replace f1 := Below.stays b1 f1
  replace bW := bW.trans (b1.mono bW.size)
  replace sW := Nat.le_trans sW b1.size
  clear b1
  go_wp2_with (refine wpList_store_row rfl 34 (.tmp 2) _ rfl _ _ (wa t) rfl rfl f1 Try.infoNa rfl wa_one ?_)
  have e2 := word_cells (blk_row (c' := wa t) f1)
  exact bodyPost_ret (v := wd t) (by simp [results, Try.results36, go_sem, e2, fold_wa]) rfl ⟨rfl, below_setRow bW (by omega) _⟩
set_option maxHeartbeats 1000000 in
theorem al_quotient_walk (a b q r : Nat) (w : World) (H : Hid (∀ w : World, Calls Try.prog 43 #[wd a, wd b] w fun e w' => e = .returned (.tuple #[wd q, wd r]) ∧ Below w.heap.size w w')) :
    Calls Try.prog 17 #[wd a, wd b] w fun e w' => e = .returned (wd q) ∧ Below w.heap.size w w' := by
  have hz := z4_wa
  have hsz := wa_size
  go_enter Try.func17, Try.ntmps17
  go_upto_region 1 with fail
  have f0 : (((w.alloc (.cells (wa a) 34)).alloc (.cells (wa b) 34)).alloc (.cells (wa 0) 34)).heap[w.heap.size]? = some (.cells (wa a) 34) := blk_alloc (blk_alloc (blk_new _ (by simp)))
  have f1 : (((w.alloc (.cells (wa a) 34)).alloc (.cells (wa b) 34)).alloc (.cells (wa 0) 34)).heap[w.heap.size + 1]? = some (.cells (wa b) 34) := blk_alloc (blk_new _ (by simp))
  have f2 : (((w.alloc (.cells (wa a) 34)).alloc (.cells (wa b) 34)).alloc (.cells (wa 0) 34)).heap[w.heap.size + 2]? = some (.cells (wa 0) 34) := blk_new _ (by simp)
  have bW : Below w.heap.size w (((w.alloc (.cells (wa a) 34)).alloc (.cells (wa b) 34)).alloc (.cells (wa 0) 34)) := (((Below.refl _ _).alloc (by simp <;> omega) _).alloc (by simp <;> omega) _).alloc (by simp <;> omega) _
  have sW : w.heap.size + 3 ≤ (((w.alloc (.cells (wa a) 34)).alloc (.cells (wa b) 34)).alloc (.cells (wa 0) 34)).heap.size := by simp
  generalize (((w.alloc (.cells (wa a) 34)).alloc (.cells (wa b) 34)).alloc (.cells (wa 0) 34)) = W at *
  have hp1 := store_pair1
  have hp2 := store_pair2
  go_wp2_with (refine wpList_load_row rfl 34 _ rfl _ rfl 34 _ (0, 0) _ (by assumption) Try.underlying34 rfl Try.infoNa ?_)
  refine (H.out _).mono ?_
  rintro e w1 ⟨rfl, b1⟩
  replace f0 := Below.stays b1 f0
  replace f1 := Below.stays b1 f1
  replace f2 := Below.stays b1 f2
  replace bW := bW.trans (b1.mono bW.size)
  replace sW := Nat.le_trans sW b1.size
  clear b1
  go_upto_region 2 with fail
  have g1 : ((w1.alloc (.cells (wa q) 24)).alloc (.cells (wa r) 24)).heap[w1.heap.size]? = some (.cells (wa q) 24) := blk_alloc (blk_new _ rfl)
  have g2 : ((w1.alloc (.cells (wa q) 24)).alloc (.cells (wa r) 24)).heap[w1.heap.size + 1]? = some (.cells (wa r) 24) := blk_new _ (by simp)
  replace f0 := blk_alloc (o' := .cells (wa r) 24) (blk_alloc (o' := .cells (wa q) 24) f0)
  replace f1 := blk_alloc (o' := .cells (wa r) 24) (blk_alloc (o' := .cells (wa q) 24) f1)
  replace f2 := blk_alloc (o' := .cells (wa r) 24) (blk_alloc (o' := .cells (wa q) 24) f2)
  replace bW : Below w.heap.size w ((w1.alloc (.cells (wa q) 24)).alloc (.cells (wa r) 24)) := (bW.alloc (by omega) _).alloc (by simp; omega) _
  clear hp1 hp2 hz
  generalize ((w1.alloc (.cells (wa q) 24)).alloc (.cells (wa r) 24)) = w2 at *
  generalize w1.heap.size = p1 at *
  go_wp2_with (first | (refine wpList_load_row rfl 24 _ rfl _ rfl 24 _ (0, 0) _ (by assumption) Try.underlying24 rfl Try.infoWa ?_) | (refine wpList_store_row rfl 34 (.tmp 4) _ rfl _ _ (wa q) rfl rfl f2 Try.infoNa rfl wa_one ?_))
  have e2 := word_cells (blk_row (c' := wa q) f2)
  exact bodyPost_ret (v := wd q) (by simp [results, Try.results17, go_sem, e2, fold_wa]) rfl ⟨rfl, below_setRow bW (by omega) _⟩
set_option maxHeartbeats 1000000 in
theorem al_rest_walk (a b q r : Nat) (w : World) (H : Hid (∀ w : World, Calls Try.prog 43 #[wd a, wd b] w fun e w' => e = .returned (.tuple #[wd q, wd r]) ∧ Below w.heap.size w w')) :
    Calls Try.prog 19 #[wd a, wd b] w fun e w' => e = .returned (wd r) ∧ Below w.heap.size w w' := by
  have hz := z4_wa
  have hsz := wa_size
  go_enter Try.func19, Try.ntmps19
  go_upto_region 1 with fail
  have f0 : (((w.alloc (.cells (wa a) 34)).alloc (.cells (wa b) 34)).alloc (.cells (wa 0) 34)).heap[w.heap.size]? = some (.cells (wa a) 34) := blk_alloc (blk_alloc (blk_new _ (by simp)))
  have f1 : (((w.alloc (.cells (wa a) 34)).alloc (.cells (wa b) 34)).alloc (.cells (wa 0) 34)).heap[w.heap.size + 1]? = some (.cells (wa b) 34) := blk_alloc (blk_new _ (by simp))
  have f2 : (((w.alloc (.cells (wa a) 34)).alloc (.cells (wa b) 34)).alloc (.cells (wa 0) 34)).heap[w.heap.size + 2]? = some (.cells (wa 0) 34) := blk_new _ (by simp)
  have bW : Below w.heap.size w (((w.alloc (.cells (wa a) 34)).alloc (.cells (wa b) 34)).alloc (.cells (wa 0) 34)) := (((Below.refl _ _).alloc (by simp <;> omega) _).alloc (by simp <;> omega) _).alloc (by simp <;> omega) _
  have sW : w.heap.size + 3 ≤ (((w.alloc (.cells (wa a) 34)).alloc (.cells (wa b) 34)).alloc (.cells (wa 0) 34)).heap.size := by simp
  generalize (((w.alloc (.cells (wa a) 34)).alloc (.cells (wa b) 34)).alloc (.cells (wa 0) 34)) = W at *
  have hp1 := store_pair1
  have hp2 := store_pair2
  go_wp2_with (refine wpList_load_row rfl 34 _ rfl _ rfl 34 _ (0, 0) _ (by assumption) Try.underlying34 rfl Try.infoNa ?_)
  refine (H.out _).mono ?_
  rintro e w1 ⟨rfl, b1⟩
  replace f0 := Below.stays b1 f0
  replace f1 := Below.stays b1 f1
  replace f2 := Below.stays b1 f2
  replace bW := bW.trans (b1.mono bW.size)
  replace sW := Nat.le_trans sW b1.size
  clear b1
  go_upto_region 2 with fail
  have g1 : ((w1.alloc (.cells (wa q) 24)).alloc (.cells (wa r) 24)).heap[w1.heap.size]? = some (.cells (wa q) 24) := blk_alloc (blk_new _ rfl)
  have g2 : ((w1.alloc (.cells (wa q) 24)).alloc (.cells (wa r) 24)).heap[w1.heap.size + 1]? = some (.cells (wa r) 24) := blk_new _ (by simp)
  replace f0 := blk_alloc (o' := .cells (wa r) 24) (blk_alloc (o' := .cells (wa q) 24) f0)
  replace f1 := blk_alloc (o' := .cells (wa r) 24) (blk_alloc (o' := .cells (wa q) 24) f1)
  replace f2 := blk_alloc (o' := .cells (wa r) 24) (blk_alloc (o' := .cells (wa q) 24) f2)
  replace bW : Below w.heap.size w ((w1.alloc (.cells (wa q) 24)).alloc (.cells (wa r) 24)) := (bW.alloc (by omega) _).alloc (by simp; omega) _
  clear hp1 hp2 hz
  generalize ((w1.alloc (.cells (wa q) 24)).alloc (.cells (wa r) 24)) = w2 at *
  generalize w1.heap.size = p1 at *
  go_wp2_with (first | (refine wpList_load_row rfl 24 _ rfl _ rfl 24 _ (0, 0) _ (by assumption) Try.underlying24 rfl Try.infoWa ?_) | (refine wpList_store_row rfl 34 (.tmp 4) _ rfl _ _ (wa r) rfl rfl f2 Try.infoNa rfl wa_one ?_))
  have e2 := word_cells (blk_row (c' := wa r) f2)
  exact bodyPost_ret (v := wd r) (by simp [results, Try.results19, go_sem, e2, fold_wa]) rfl ⟨rfl, below_setRow bW (by omega) _⟩
set_option maxHeartbeats 1000000 in
theorem al_signedQuotient_walk (a b q r : Nat) (w : World) (H : Hid (∀ w : World, Calls Try.prog 44 #[wd a, wd b] w fun e w' => e = .returned (.tuple #[wd q, wd r]) ∧ Below w.heap.size w w')) :
    Calls Try.prog 18 #[wd a, wd b] w fun e w' => e = .returned (wd q) ∧ Below w.heap.size w w' := by
  have hz := z4_wa
  have hsz := wa_size
  go_enter Try.func18, Try.ntmps18
  go_upto_region 1 with fail
  have f0 : (((w.alloc (.cells (wa a) 34)).alloc (.cells (wa b) 34)).alloc (.cells (wa 0) 34)).heap[w.heap.size]? = some (.cells (wa a) 34) := blk_alloc (blk_alloc (blk_new _ (by simp)))
  have f1 : (((w.alloc (.cells (wa a) 34)).alloc (.cells (wa b) 34)).alloc (.cells (wa 0) 34)).heap[w.heap.size + 1]? = some (.cells (wa b) 34) := blk_alloc (blk_new _ (by simp))
  have f2 : (((w.alloc (.cells (wa a) 34)).alloc (.cells (wa b) 34)).alloc (.cells (wa 0) 34)).heap[w.heap.size + 2]? = some (.cells (wa 0) 34) := blk_new _ (by simp)
  have bW : Below w.heap.size w (((w.alloc (.cells (wa a) 34)).alloc (.cells (wa b) 34)).alloc (.cells (wa 0) 34)) := (((Below.refl _ _).alloc (by simp <;> omega) _).alloc (by simp <;> omega) _).alloc (by simp <;> omega) _
  have sW : w.heap.size + 3 ≤ (((w.alloc (.cells (wa a) 34)).alloc (.cells (wa b) 34)).alloc (.cells (wa 0) 34)).heap.size := by simp
  generalize (((w.alloc (.cells (wa a) 34)).alloc (.cells (wa b) 34)).alloc (.cells (wa 0) 34)) = W at *
  have hp1 := store_pair1
  have hp2 := store_pair2
  go_wp2_with (refine wpList_load_row rfl 34 _ rfl _ rfl 34 _ (0, 0) _ (by assumption) Try.underlying34 rfl Try.infoNa ?_)
  refine (H.out _).mono ?_
  rintro e w1 ⟨rfl, b1⟩
  replace f0 := Below.stays b1 f0
  replace f1 := Below.stays b1 f1
  replace f2 := Below.stays b1 f2
  replace bW := bW.trans (b1.mono bW.size)
  replace sW := Nat.le_trans sW b1.size
  clear b1
  go_upto_region 2 with fail
  have g1 : ((w1.alloc (.cells (wa q) 24)).alloc (.cells (wa r) 24)).heap[w1.heap.size]? = some (.cells (wa q) 24) := blk_alloc (blk_new _ rfl)
  have g2 : ((w1.alloc (.cells (wa q) 24)).alloc (.cells (wa r) 24)).heap[w1.heap.size + 1]? = some (.cells (wa r) 24) := blk_new _ (by simp)
  replace f0 := blk_alloc (o' := .cells (wa r) 24) (blk_alloc (o' := .cells (wa q) 24) f0)
  replace f1 := blk_alloc (o' := .cells (wa r) 24) (blk_alloc (o' := .cells (wa q) 24) f1)
  replace f2 := blk_alloc (o' := .cells (wa r) 24) (blk_alloc (o' := .cells (wa q) 24) f2)
  replace bW : Below w.heap.size w ((w1.alloc (.cells (wa q) 24)).alloc (.cells (wa r) 24)) := (bW.alloc (by omega) _).alloc (by simp; omega) _
  clear hp1 hp2 hz
  generalize ((w1.alloc (.cells (wa q) 24)).alloc (.cells (wa r) 24)) = w2 at *
  generalize w1.heap.size = p1 at *
  go_wp2_with (first | (refine wpList_load_row rfl 24 _ rfl _ rfl 24 _ (0, 0) _ (by assumption) Try.underlying24 rfl Try.infoWa ?_) | (refine wpList_store_row rfl 34 (.tmp 4) _ rfl _ _ (wa q) rfl rfl f2 Try.infoNa rfl wa_one ?_))
  have e2 := word_cells (blk_row (c' := wa q) f2)
  exact bodyPost_ret (v := wd q) (by simp [results, Try.results18, go_sem, e2, fold_wa]) rfl ⟨rfl, below_setRow bW (by omega) _⟩
set_option maxHeartbeats 1000000 in
theorem al_signedRest_walk (a b q r : Nat) (w : World) (H : Hid (∀ w : World, Calls Try.prog 44 #[wd a, wd b] w fun e w' => e = .returned (.tuple #[wd q, wd r]) ∧ Below w.heap.size w w')) :
    Calls Try.prog 20 #[wd a, wd b] w fun e w' => e = .returned (wd r) ∧ Below w.heap.size w w' := by
  have hz := z4_wa
  have hsz := wa_size
  go_enter Try.func20, Try.ntmps20
  go_upto_region 1 with fail
  have f0 : (((w.alloc (.cells (wa a) 34)).alloc (.cells (wa b) 34)).alloc (.cells (wa 0) 34)).heap[w.heap.size]? = some (.cells (wa a) 34) := blk_alloc (blk_alloc (blk_new _ (by simp)))
  have f1 : (((w.alloc (.cells (wa a) 34)).alloc (.cells (wa b) 34)).alloc (.cells (wa 0) 34)).heap[w.heap.size + 1]? = some (.cells (wa b) 34) := blk_alloc (blk_new _ (by simp))
  have f2 : (((w.alloc (.cells (wa a) 34)).alloc (.cells (wa b) 34)).alloc (.cells (wa 0) 34)).heap[w.heap.size + 2]? = some (.cells (wa 0) 34) := blk_new _ (by simp)
  have bW : Below w.heap.size w (((w.alloc (.cells (wa a) 34)).alloc (.cells (wa b) 34)).alloc (.cells (wa 0) 34)) := (((Below.refl _ _).alloc (by simp <;> omega) _).alloc (by simp <;> omega) _).alloc (by simp <;> omega) _
  have sW : w.heap.size + 3 ≤ (((w.alloc (.cells (wa a) 34)).alloc (.cells (wa b) 34)).alloc (.cells (wa 0) 34)).heap.size := by simp
  generalize (((w.alloc (.cells (wa a) 34)).alloc (.cells (wa b) 34)).alloc (.cells (wa 0) 34)) = W at *
  have hp1 := store_pair1
  have hp2 := store_pair2
  go_wp2_with (refine wpList_load_row rfl 34 _ rfl _ rfl 34 _ (0, 0) _ (by assumption) Try.underlying34 rfl Try.infoNa ?_)
  refine (H.out _).mono ?_
  rintro e w1 ⟨rfl, b1⟩
  replace f0 := Below.stays b1 f0
  replace f1 := Below.stays b1 f1
  replace f2 := Below.stays b1 f2
  replace bW := bW.trans (b1.mono bW.size)
  replace sW := Nat.le_trans sW b1.size
  clear b1
  go_upto_region 2 with fail
  have g1 : ((w1.alloc (.cells (wa q) 24)).alloc (.cells (wa r) 24)).heap[w1.heap.size]? = some (.cells (wa q) 24) := blk_alloc (blk_new _ rfl)
  have g2 : ((w1.alloc (.cells (wa q) 24)).alloc (.cells (wa r) 24)).heap[w1.heap.size + 1]? = some (.cells (wa r) 24) := blk_new _ (by simp)
  replace f0 := blk_alloc (o' := .cells (wa r) 24) (blk_alloc (o' := .cells (wa q) 24) f0)
  replace f1 := blk_alloc (o' := .cells (wa r) 24) (blk_alloc (o' := .cells (wa q) 24) f1)
  replace f2 := blk_alloc (o' := .cells (wa r) 24) (blk_alloc (o' := .cells (wa q) 24) f2)
  replace bW : Below w.heap.size w ((w1.alloc (.cells (wa q) 24)).alloc (.cells (wa r) 24)) := (bW.alloc (by omega) _).alloc (by simp; omega) _
  clear hp1 hp2 hz
  generalize ((w1.alloc (.cells (wa q) 24)).alloc (.cells (wa r) 24)) = w2 at *
  generalize w1.heap.size = p1 at *
  go_wp2_with (first | (refine wpList_load_row rfl 24 _ rfl _ rfl 24 _ (0, 0) _ (by assumption) Try.underlying24 rfl Try.infoWa ?_) | (refine wpList_store_row rfl 34 (.tmp 4) _ rfl _ _ (wa r) rfl rfl f2 Try.infoNa rfl wa_one ?_))
  have e2 := word_cells (blk_row (c' := wa r) f2)
  exact bodyPost_ret (v := wd r) (by simp [results, Try.results20, go_sem, e2, fold_wa]) rfl ⟨rfl, below_setRow bW (by omega) _⟩
/-- How an instruction puts that something is so. -/
def fl (b : Bool) : Nat := if b then 1 else 0
set_option maxHeartbeats 1000000 in
theorem al_flag_false (w : World) : Calls Try.prog 47 #[.bool false] w fun e w' => e = .returned (wd (fl false)) ∧ Below w.heap.size w w' := by
  rw [show wd (fl false) = .agg #[.int .u64 0, .int .u64 0, .int .u64 0, .int .u64 0] from rfl]
  go_enter Try.func47, Try.ntmps47
  go_wp2
  refine bodyPost_ret (v := .agg #[.int .u64 0, .int .u64 0, .int .u64 0, .int .u64 0]) (by simp [results, Try.results47, go_sem]) rfl ⟨rfl, ?_⟩
  exact (Below.refl _ _).alloc (Nat.le_refl _) _
set_option maxHeartbeats 1000000 in
theorem al_flag_true (w : World) : Calls Try.prog 47 #[.bool true] w fun e w' => e = .returned (wd (fl true)) ∧ Below w.heap.size w w' := by
  rw [show wd (fl true) = .agg #[.int .u64 1, .int .u64 0, .int .u64 0, .int .u64 0] from rfl]
  go_enter Try.func47, Try.ntmps47
  go_wp2
  refine bodyPost_ret (v := .agg #[.int .u64 1, .int .u64 0, .int .u64 0, .int .u64 0]) (by simp [results, Try.results47, go_sem]) rfl ⟨rfl, ?_⟩
  exact (Below.refl _ _).alloc (Nat.le_refl _) _
theorem al_flag (b : Bool) (w : World) : Calls Try.prog 47 #[.bool b] w fun e w' => e = .returned (wd (fl b)) ∧ Below w.heap.size w w' := by
  cases b
  · exact al_flag_false w
  · exact al_flag_true w
end Go.Proofs.Ytdpbjdecbilaeaa
/- Stage 17: what a number's methods answer that ask twice, or put that something is so; all older memory is as it was. -/
namespace Go.Proofs.Ytdpbjdecbilaeaa
open Go.RowKit SmWord
set_option maxRecDepth 100000

theorem guardN : Try.prog.eqGuardType Try.prog.depth 34 = false := by kernel_rfl
theorem equal_na (m n : Nat) (w : World) : (Op.equalIn 10000 34 (.agg (wa m)) (.agg (wa n))).run Try.prog w = .ok (decide (m % M = n % M)) w := equal_wa m n w
set_option maxHeartbeats 1000000 in
theorem al_less_walk (a b : Nat) (z : Int) (w : World) (H : Hid (∀ w : World, Calls Try.prog 48 #[wd a, wd b] w fun e w' => e = .returned (.int .i64 z) ∧ Below w.heap.size w w')) :
    Calls Try.prog 23 #[wd a, wd b] w fun e w' => e = .returned (wd (fl (decide (z < 0)))) ∧ Below w.heap.size w w' := by
  have hz := z4_wa
  have hsz := wa_size
  go_enter Try.func23, Try.ntmps23
  go_upto_region 1 with fail
  have f0 : (((w.alloc (.cells (wa a) 34)).alloc (.cells (wa b) 34)).alloc (.cells (wa 0) 34)).heap[w.heap.size]? = some (.cells (wa a) 34) := blk_alloc (blk_alloc (blk_new _ (by simp)))
  have f1 : (((w.alloc (.cells (wa a) 34)).alloc (.cells (wa b) 34)).alloc (.cells (wa 0) 34)).heap[w.heap.size + 1]? = some (.cells (wa b) 34) := blk_alloc (blk_new _ (by simp))
  have f2 : (((w.alloc (.cells (wa a) 34)).alloc (.cells (wa b) 34)).alloc (.cells (wa 0) 34)).heap[w.heap.size + 2]? = some (.cells (wa 0) 34) := blk_new _ (by simp)
  have bW : Below w.heap.size w (((w.alloc (.cells (wa a) 34)).alloc (.cells (wa b) 34)).alloc (.cells (wa 0) 34)) := (((Below.refl _ _).alloc (by simp <;> omega) _).alloc (by simp <;> omega) _).alloc (by simp <;> omega) _
  have sW : w.heap.size + 3 ≤ (((w.alloc (.cells (wa a) 34)).alloc (.cells (wa b) 34)).alloc (.cells (wa 0) 34)).heap.size := by simp
  generalize (((w.alloc (.cells (wa a) 34)).alloc (.cells (wa b) 34)).alloc (.cells (wa 0) 34)) = W at *
  go_wp2_with (first | (refine wpList_load_row rfl 34 _ rfl _ rfl 34 _ (0, 0) _ (by assumption) Try.underlying34 rfl Try.infoNa ?_) | (go_at_call 48; refine (H.out _).mono ?_; rintro e w1 ⟨rfl, b1⟩; replace f0 := Below.stays b1 f0; replace f1 := Below.stays b1 f1; replace f2 := Below.stays b1 f2; replace bW := bW.trans (b1.mono bW.size); replace sW := Nat.le_trans sW b1.size; clear b1) | (go_at_call 47; refine (al_flag _ _).mono ?_; rintro e w1 ⟨rfl, b1⟩; replace f0 := Below.stays b1 f0; replace f1 := Below.stays b1 f1; replace f2 := Below.stays b1 f2; replace bW := bW.trans (b1.mono bW.size); replace sW := Nat.le_trans sW b1.size; clear b1) | (refine wpList_store_row rfl 34 (.tmp 4) _ rfl _ _ (wa (fl (decide (z < 0)))) rfl rfl f2 Try.infoNa rfl wa_one ?_))
  have e2 := word_cells (blk_row (c' := wa (fl (decide (z < 0)))) f2)
  exact bodyPost_ret (v := wd (fl (decide (z < 0)))) (by simp [results, Try.results23, go_sem, e2, fold_wa]) rfl ⟨rfl, below_setRow bW (by omega) _⟩
set_option maxHeartbeats 1000000 in
theorem al_signedLess_walk (a b : Nat) (q : Bool) (w : World) (H : Hid (∀ w : World, Calls Try.prog 49 #[wd a, wd b] w fun e w' => e = .returned (.bool q) ∧ Below w.heap.size w w')) :
    Calls Try.prog 25 #[wd a, wd b] w fun e w' => e = .returned (wd (fl q)) ∧ Below w.heap.size w w' := by
  have hz := z4_wa
  have hsz := wa_size
  go_enter Try.func25, Try.ntmps25
  go_upto_region 1 with fail
  have f0 : (((w.alloc (.cells (wa a) 34)).alloc (.cells (wa b) 34)).alloc (.cells (wa 0) 34)).heap[w.heap.size]? = some (.cells (wa a) 34) := blk_alloc (blk_alloc (blk_new _ (by simp)))
  have f1 : (((w.alloc (.cells (wa a) 34)).alloc (.cells (wa b) 34)).alloc (.cells (wa 0) 34)).heap[w.heap.size + 1]? = some (.cells (wa b) 34) := blk_alloc (blk_new _ (by simp))
  have f2 : (((w.alloc (.cells (wa a) 34)).alloc (.cells (wa b) 34)).alloc (.cells (wa 0) 34)).heap[w.heap.size + 2]? = some (.cells (wa 0) 34) := blk_new _ (by simp)
  have bW : Below w.heap.size w (((w.alloc (.cells (wa a) 34)).alloc (.cells (wa b) 34)).alloc (.cells (wa 0) 34)) := (((Below.refl _ _).alloc (by simp <;> omega) _).alloc (by simp <;> omega) _).alloc (by simp <;> omega) _
  have sW : w.heap.size + 3 ≤ (((w.alloc (.cells (wa a) 34)).alloc (.cells (wa b) 34)).alloc (.cells (wa 0) 34)).heap.size := by simp
  generalize (((w.alloc (.cells (wa a) 34)).alloc (.cells (wa b) 34)).alloc (.cells (wa 0) 34)) = W at *
  go_wp2_with (first | (refine wpList_load_row rfl 34 _ rfl _ rfl 34 _ (0, 0) _ (by assumption) Try.underlying34 rfl Try.infoNa ?_) | (go_at_call 49; refine (H.out _).mono ?_; rintro e w1 ⟨rfl, b1⟩; replace f0 := Below.stays b1 f0; replace f1 := Below.stays b1 f1; replace f2 := Below.stays b1 f2; replace bW := bW.trans (b1.mono bW.size); replace sW := Nat.le_trans sW b1.size; clear b1) | (go_at_call 47; refine (al_flag _ _).mono ?_; rintro e w1 ⟨rfl, b1⟩; replace f0 := Below.stays b1 f0; replace f1 := Below.stays b1 f1; replace f2 := Below.stays b1 f2; replace bW := bW.trans (b1.mono bW.size); replace sW := Nat.le_trans sW b1.size; clear b1) | (refine wpList_store_row rfl 34 (.tmp 4) _ rfl _ _ (wa (fl q)) rfl rfl f2 Try.infoNa rfl wa_one ?_))
  have e2 := word_cells (blk_row (c' := wa (fl q)) f2)
  exact bodyPost_ret (v := wd (fl q)) (by simp [results, Try.results25, go_sem, e2, fold_wa]) rfl ⟨rfl, below_setRow bW (by omega) _⟩
set_option maxHeartbeats 1000000 in
theorem al_same (a b : Nat) (w : World)  :
    Calls Try.prog 27 #[wd a, wd b] w fun e w' => e = .returned (wd (fl (decide (a % M = b % M)))) ∧ Below w.heap.size w w' := by
  have hz := z4_wa
  have hsz := wa_size
  go_enter Try.func27, Try.ntmps27
  go_upto_region 1 with fail
  have f0 : (((w.alloc (.cells (wa a) 34)).alloc (.cells (wa b) 34)).alloc (.cells (wa 0) 34)).heap[w.heap.size]? = some (.cells (wa a) 34) := blk_alloc (blk_alloc (blk_new _ (by simp)))
  have f1 : (((w.alloc (.cells (wa a) 34)).alloc (.cells (wa b) 34)).alloc (.cells (wa 0) 34)).heap[w.heap.size + 1]? = some (.cells (wa b) 34) := blk_alloc (blk_new _ (by simp))
  have f2 : (((w.alloc (.cells (wa a) 34)).alloc (.cells (wa b) 34)).alloc (.cells (wa 0) 34)).heap[w.heap.size + 2]? = some (.cells (wa 0) 34) := blk_new _ (by simp)
  have bW : Below w.heap.size w (((w.alloc (.cells (wa a) 34)).alloc (.cells (wa b) 34)).alloc (.cells (wa 0) 34)) := (((Below.refl _ _).alloc (by simp <;> omega) _).alloc (by simp <;> omega) _).alloc (by simp <;> omega) _
  have sW : w.heap.size + 3 ≤ (((w.alloc (.cells (wa a) 34)).alloc (.cells (wa b) 34)).alloc (.cells (wa 0) 34)).heap.size := by simp
  generalize (((w.alloc (.cells (wa a) 34)).alloc (.cells (wa b) 34)).alloc (.cells (wa 0) 34)) = W at *
  have eg := guardN
  have eq := equal_na a b
  go_wp2_with (first | (refine wpList_load_row rfl 34 _ rfl _ rfl 34 _ (0, 0) _ (by assumption) Try.underlying34 rfl Try.infoNa ?_) | (go_at_call 47; refine (al_flag _ _).mono ?_; rintro e w1 ⟨rfl, b1⟩; replace f0 := Below.stays b1 f0; replace f1 := Below.stays b1 f1; replace f2 := Below.stays b1 f2; replace bW := bW.trans (b1.mono bW.size); replace sW := Nat.le_trans sW b1.size; clear b1) | (refine wpList_store_row rfl 34 (.tmp 4) _ rfl _ _ (wa (fl (decide (a % M = b % M)))) rfl rfl f2 Try.infoNa rfl wa_one ?_))
  have e2 := word_cells (blk_row (c' := wa (fl (decide (a % M = b % M)))) f2)
  exact bodyPost_ret (v := wd (fl (decide (a % M = b % M)))) (by simp [results, Try.results27, go_sem, e2, fold_wa]) rfl ⟨rfl, below_setRow bW (by omega) _⟩
set_option maxHeartbeats 1000000 in
theorem al_isZero (a : Nat) (w : World)  :
    Calls Try.prog 35 #[wd a] w fun e w' => e = .returned (wd (fl (decide (a % M = 0 % M)))) ∧ Below w.heap.size w w' := by
  have eq := equal_na a 0
  generalize decide (a % M = 0 % M) = q at *
  have hz := z4_wa
  have hsz := wa_size
  go_enter Try.func35, Try.ntmps35
  go_upto_region 1 with fail
  have f0 : ((w.alloc (.cells (wa a) 34)).alloc (.cells (wa 0) 34)).heap[w.heap.size]? = some (.cells (wa a) 34) := blk_alloc (blk_new _ (by simp))
  have f1 : ((w.alloc (.cells (wa a) 34)).alloc (.cells (wa 0) 34)).heap[w.heap.size + 1]? = some (.cells (wa 0) 34) := blk_new _ (by simp)
  have bW : Below w.heap.size w ((w.alloc (.cells (wa a) 34)).alloc (.cells (wa 0) 34)) := ((Below.refl _ _).alloc (by simp <;> omega) _).alloc (by simp <;> omega) _
  have sW : w.heap.size + 2 ≤ ((w.alloc (.cells (wa a) 34)).alloc (.cells (wa 0) 34)).heap.size := by simp
  generalize ((w.alloc (.cells (wa a) 34)).alloc (.cells (wa 0) 34)) = W at *
  have eg := guardN
  go_wp2_with (first | (refine wpList_load_row rfl 34 _ rfl _ rfl 34 _ (0, 0) _ (by assumption) Try.underlying34 rfl Try.infoNa ?_) | (go_at_call 47; refine (al_flag _ _).mono ?_; rintro e w1 ⟨rfl, b1⟩; replace f0 := Below.stays b1 f0; replace f1 := Below.stays b1 f1; replace bW := bW.trans (b1.mono bW.size); replace sW := Nat.le_trans sW b1.size; clear b1) | (refine wpList_store_row rfl 34 (.tmp 2) _ rfl _ _ (wa (fl q)) rfl rfl f1 Try.infoNa rfl wa_one ?_))
  have e2 := word_cells (blk_row (c' := wa (fl q)) f1)
  exact bodyPost_ret (v := wd (fl q)) (by simp [results, Try.results35, go_sem, e2, fold_wa]) rfl ⟨rfl, below_setRow bW (by omega) _⟩
/-- By how many bits a number shifts. -/
def sh (a : Nat) : Nat := if smallB a then min (l0 a) 256 else 256
set_option maxHeartbeats 1000000 in
theorem al_shift (a : Nat) (w : World) : Calls Try.prog 57 #[wd a] w fun e w' => e = .returned (.int .u64 ((sh a : Nat) : Int)) ∧ Below w.heap.size w w' := by
  have hsz := wa_size
  have K := Lib.hid (small_wd a)
  obtain ⟨p, hp⟩ : ∃ p, l0 a = p := ⟨_, rfl⟩
  unfold sh
  rw [hp] at K ⊢
  clear hp
  cases hb : smallB a
  · rw [hb] at K
    simp only [Bool.false_eq_true, if_false] at K ⊢
    clear hb
    go_enter Try.func57, Try.ntmps57
    go_upto_region 1 with fail
    have f0 : (w.alloc (.cells (wa a) 34)).heap[w.heap.size]? = some (.cells (wa a) 34) := blk_new _ (by simp)
    have bW : Below w.heap.size w (w.alloc (.cells (wa a) 34)) := (Below.refl _ _).alloc (by simp <;> omega) _
    have sW : w.heap.size + 1 ≤ (w.alloc (.cells (wa a) 34)).heap.size := by simp
    generalize (w.alloc (.cells (wa a) 34)) = W at *
    go_wp2_with (first | (refine wpList_load_row rfl 34 _ rfl _ rfl 34 _ (0, 0) _ (by assumption) Try.underlying34 rfl Try.infoNa ?_) | (go_at_call 53; refine (K.out _).mono ?_; rintro e w1 ⟨rfl, b1⟩; replace f0 := Below.stays b1 f0; replace bW := bW.trans (b1.mono bW.size); replace sW := Nat.le_trans sW b1.size; clear b1))
    go_ret
    exact ⟨rfl, bW⟩
  · rw [hb] at K
    simp only [if_true] at K ⊢
    clear hb
    obtain ⟨k, hk⟩ : ∃ k : Nat, min p 256 = k := ⟨_, rfl⟩
    have hmin : min (p : Int) 256 = (k : Int) := by omega
    rw [hk]
    clear hk
    go_enter Try.func57, Try.ntmps57
    go_upto_region 1 with fail
    have f0 : (w.alloc (.cells (wa a) 34)).heap[w.heap.size]? = some (.cells (wa a) 34) := blk_new _ (by simp)
    have bW : Below w.heap.size w (w.alloc (.cells (wa a) 34)) := (Below.refl _ _).alloc (by simp <;> omega) _
    have sW : w.heap.size + 1 ≤ (w.alloc (.cells (wa a) 34)).heap.size := by simp
    generalize (w.alloc (.cells (wa a) 34)) = W at *
    go_wp2_with (first | (refine wpList_load_row rfl 34 _ rfl _ rfl 34 _ (0, 0) _ (by assumption) Try.underlying34 rfl Try.infoNa ?_) | (go_at_call 53; refine (K.out _).mono ?_; rintro e w1 ⟨rfl, b1⟩; replace f0 := Below.stays b1 f0; replace bW := bW.trans (b1.mono bW.size); replace sW := Nat.le_trans sW b1.size; clear b1))
    go_ret
    exact ⟨rfl, bW⟩
set_option maxHeartbeats 1000000 in
theorem al_up_walk (a b n t : Nat) (w : World) (H : Hid (∀ w : World, Calls Try.prog 57 #[wd a] w fun e w' => e = .returned (.int .u64 (n : Int)) ∧ Below w.heap.size w w')) (H2 : Hid (∀ w : World, Calls Try.prog 56 #[wd b, .int .u64 (n : Int)] w fun e w' => e = .returned (wd t) ∧ Below w.heap.size w w')) :
    Calls Try.prog 32 #[wd a, wd b] w fun e w' => e = .returned (wd t) ∧ Below w.heap.size w w' := by
  have hz := z4_wa
  have hsz := wa_size
  go_enter Try.func32, Try.ntmps32
  go_upto_region 1 with fail
  have f0 : (((w.alloc (.cells (wa a) 34)).alloc (.cells (wa b) 34)).alloc (.cells (wa 0) 34)).heap[w.heap.size]? = some (.cells (wa a) 34) := blk_alloc (blk_alloc (blk_new _ (by simp)))
  have f1 : (((w.alloc (.cells (wa a) 34)).alloc (.cells (wa b) 34)).alloc (.cells (wa 0) 34)).heap[w.heap.size + 1]? = some (.cells (wa b) 34) := blk_alloc (blk_new _ (by simp))
  have f2 : (((w.alloc (.cells (wa a) 34)).alloc (.cells (wa b) 34)).alloc (.cells (wa 0) 34)).heap[w.heap.size + 2]? = some (.cells (wa 0) 34) := blk_new _ (by simp)
  have bW : Below w.heap.size w (((w.alloc (.cells (wa a) 34)).alloc (.cells (wa b) 34)).alloc (.cells (wa 0) 34)) := (((Below.refl _ _).alloc (by simp <;> omega) _).alloc (by simp <;> omega) _).alloc (by simp <;> omega) _
  have sW : w.heap.size + 3 ≤ (((w.alloc (.cells (wa a) 34)).alloc (.cells (wa b) 34)).alloc (.cells (wa 0) 34)).heap.size := by simp
  generalize (((w.alloc (.cells (wa a) 34)).alloc (.cells (wa b) 34)).alloc (.cells (wa 0) 34)) = W at *
  refine region_last (aQ := ?aQ) 4 (by kernel_rfl) (by kernel_rfl) (fun w1 => ?hq) (fun w' hb => ?hh)
  case hq =>
    have d0 : ∀ g : Ext w1.on, g.on.heap[w.heap.size]? = some (.cells (wa a) 34) := fun g => g.block (w1.block f0)
    have d1 : ∀ g : Ext w1.on, g.on.heap[w.heap.size + 1]? = some (.cells (wa b) 34) := fun g => g.block (w1.block f1)
    simp only [List.take_succ_cons, List.take_zero]
    repeat (first | (go_big_quiet_want; refine quiet_load_row 34 _ rfl _ (wa a) rfl (fun w2 hw2 => by obtain ⟨g, rfl⟩ := hw2; exact d0 g) Try.underlying34 Try.infoNa ?_; simp only [Act.put, List.setIfInBounds_toArray, List.set_cons_succ, List.set_cons_zero]; go_big_quiet_on) | (go_big_quiet_want; refine quiet_load_row 34 _ rfl _ (wa b) rfl (fun w2 hw2 => by obtain ⟨g, rfl⟩ := hw2; exact d1 g) Try.underlying34 Try.infoNa ?_; simp only [Act.put, List.setIfInBounds_toArray, List.set_cons_succ, List.set_cons_zero]; go_big_quiet_on) | go_big_quiet_step (first | (go_at_call 57; with_reducible exact calls_ext (H.out _)) | (go_at_call 56; with_reducible exact calls_ext (H2.out _))))
    refine wpQuiet_nil ?_
    rfl
  case hh =>
    have b1 : Below W.heap.size W w' := hb
    replace f2 := Below.stays b1 f2
    replace bW := bW.trans (b1.mono bW.size)
    replace sW := Nat.le_trans sW b1.size
    clear b1
    simp only [List.drop_succ_cons, List.drop_zero]
    refine wpList_store_row rfl 34 (.tmp 4) _ rfl _ _ (wa t) rfl rfl f2 Try.infoNa rfl wa_one ?_
    go_wp2
    have e2 := word_cells (blk_row (c' := wa t) f2)
    exact bodyPost_ret (v := wd t) (by simp [results, Try.results32, go_sem, e2, fold_wa]) rfl ⟨rfl, below_setRow bW (by omega) _⟩
set_option maxHeartbeats 1000000 in
theorem al_down_walk (a b n t : Nat) (w : World) (H : Hid (∀ w : World, Calls Try.prog 57 #[wd a] w fun e w' => e = .returned (.int .u64 (n : Int)) ∧ Below w.heap.size w w')) (H2 : Hid (∀ w : World, Calls Try.prog 58 #[wd b, .int .u64 (n : Int)] w fun e w' => e = .returned (wd t) ∧ Below w.heap.size w w')) :
    Calls Try.prog 33 #[wd a, wd b] w fun e w' => e = .returned (wd t) ∧ Below w.heap.size w w' := by
  have hz := z4_wa
  have hsz := wa_size
  go_enter Try.func33, Try.ntmps33
  go_upto_region 1 with fail
  have f0 : (((w.alloc (.cells (wa a) 34)).alloc (.cells (wa b) 34)).alloc (.cells (wa 0) 34)).heap[w.heap.size]? = some (.cells (wa a) 34) := blk_alloc (blk_alloc (blk_new _ (by simp)))
  have f1 : (((w.alloc (.cells (wa a) 34)).alloc (.cells (wa b) 34)).alloc (.cells (wa 0) 34)).heap[w.heap.size + 1]? = some (.cells (wa b) 34) := blk_alloc (blk_new _ (by simp))
  have f2 : (((w.alloc (.cells (wa a) 34)).alloc (.cells (wa b) 34)).alloc (.cells (wa 0) 34)).heap[w.heap.size + 2]? = some (.cells (wa 0) 34) := blk_new _ (by simp)
  have bW : Below w.heap.size w (((w.alloc (.cells (wa a) 34)).alloc (.cells (wa b) 34)).alloc (.cells (wa 0) 34)) := (((Below.refl _ _).alloc (by simp <;> omega) _).alloc (by simp <;> omega) _).alloc (by simp <;> omega) _
  have sW : w.heap.size + 3 ≤ (((w.alloc (.cells (wa a) 34)).alloc (.cells (wa b) 34)).alloc (.cells (wa 0) 34)).heap.size := by simp
  generalize (((w.alloc (.cells (wa a) 34)).alloc (.cells (wa b) 34)).alloc (.cells (wa 0) 34)) = W at *
  refine region_last (aQ := ?aQ) 4 (by kernel_rfl) (by kernel_rfl) (fun w1 => ?hq) (fun w' hb => ?hh)
  case hq =>
    have d0 : ∀ g : Ext w1.on, g.on.heap[w.heap.size]? = some (.cells (wa a) 34) := fun g => g.block (w1.block f0)
    have d1 : ∀ g : Ext w1.on, g.on.heap[w.heap.size + 1]? = some (.cells (wa b) 34) := fun g => g.block (w1.block f1)
    simp only [List.take_succ_cons, List.take_zero]
    repeat (first | (go_big_quiet_want; refine quiet_load_row 34 _ rfl _ (wa a) rfl (fun w2 hw2 => by obtain ⟨g, rfl⟩ := hw2; exact d0 g) Try.underlying34 Try.infoNa ?_; simp only [Act.put, List.setIfInBounds_toArray, List.set_cons_succ, List.set_cons_zero]; go_big_quiet_on) | (go_big_quiet_want; refine quiet_load_row 34 _ rfl _ (wa b) rfl (fun w2 hw2 => by obtain ⟨g, rfl⟩ := hw2; exact d1 g) Try.underlying34 Try.infoNa ?_; simp only [Act.put, List.setIfInBounds_toArray, List.set_cons_succ, List.set_cons_zero]; go_big_quiet_on) | go_big_quiet_step (first | (go_at_call 57; with_reducible exact calls_ext (H.out _)) | (go_at_call 58; with_reducible exact calls_ext (H2.out _))))
    refine wpQuiet_nil ?_
    rfl
  case hh =>
    have b1 : Below W.heap.size W w' := hb
    replace f2 := Below.stays b1 f2
    replace bW := bW.trans (b1.mono bW.size)
    replace sW := Nat.le_trans sW b1.size
    clear b1
    simp only [List.drop_succ_cons, List.drop_zero]
    refine wpList_store_row rfl 34 (.tmp 4) _ rfl _ _ (wa t) rfl rfl f2 Try.infoNa rfl wa_one ?_
    go_wp2
    have e2 := word_cells (blk_row (c' := wa t) f2)
    exact bodyPost_ret (v := wd t) (by simp [results, Try.results33, go_sem, e2, fold_wa]) rfl ⟨rfl, below_setRow bW (by omega) _⟩
set_option maxHeartbeats 1000000 in
theorem al_signedDown_walk (a b n t : Nat) (w : World) (H : Hid (∀ w : World, Calls Try.prog 57 #[wd a] w fun e w' => e = .returned (.int .u64 (n : Int)) ∧ Below w.heap.size w w')) (H2 : Hid (∀ w : World, Calls Try.prog 59 #[wd b, .int .u64 (n : Int)] w fun e w' => e = .returned (wd t) ∧ Below w.heap.size w w')) :
    Calls Try.prog 34 #[wd a, wd b] w fun e w' => e = .returned (wd t) ∧ Below w.heap.size w w' := by
  have hz := z4_wa
  have hsz := wa_size
  go_enter Try.func34, Try.ntmps34
  go_upto_region 1 with fail
  have f0 : (((w.alloc (.cells (wa a) 34)).alloc (.cells (wa b) 34)).alloc (.cells (wa 0) 34)).heap[w.heap.size]? = some (.cells (wa a) 34) := blk_alloc (blk_alloc (blk_new _ (by simp)))
  have f1 : (((w.alloc (.cells (wa a) 34)).alloc (.cells (wa b) 34)).alloc (.cells (wa 0) 34)).heap[w.heap.size + 1]? = some (.cells (wa b) 34) := blk_alloc (blk_new _ (by simp))
  have f2 : (((w.alloc (.cells (wa a) 34)).alloc (.cells (wa b) 34)).alloc (.cells (wa 0) 34)).heap[w.heap.size + 2]? = some (.cells (wa 0) 34) := blk_new _ (by simp)
  have bW : Below w.heap.size w (((w.alloc (.cells (wa a) 34)).alloc (.cells (wa b) 34)).alloc (.cells (wa 0) 34)) := (((Below.refl _ _).alloc (by simp <;> omega) _).alloc (by simp <;> omega) _).alloc (by simp <;> omega) _
  have sW : w.heap.size + 3 ≤ (((w.alloc (.cells (wa a) 34)).alloc (.cells (wa b) 34)).alloc (.cells (wa 0) 34)).heap.size := by simp
  generalize (((w.alloc (.cells (wa a) 34)).alloc (.cells (wa b) 34)).alloc (.cells (wa 0) 34)) = W at *
  refine region_last (aQ := ?aQ) 4 (by kernel_rfl) (by kernel_rfl) (fun w1 => ?hq) (fun w' hb => ?hh)
  case hq =>
    have d0 : ∀ g : Ext w1.on, g.on.heap[w.heap.size]? = some (.cells (wa a) 34) := fun g => g.block (w1.block f0)
    have d1 : ∀ g : Ext w1.on, g.on.heap[w.heap.size + 1]? = some (.cells (wa b) 34) := fun g => g.block (w1.block f1)
    simp only [List.take_succ_cons, List.take_zero]
    repeat (first | (go_big_quiet_want; refine quiet_load_row 34 _ rfl _ (wa a) rfl (fun w2 hw2 => by obtain ⟨g, rfl⟩ := hw2; exact d0 g) Try.underlying34 Try.infoNa ?_; simp only [Act.put, List.setIfInBounds_toArray, List.set_cons_succ, List.set_cons_zero]; go_big_quiet_on) | (go_big_quiet_want; refine quiet_load_row 34 _ rfl _ (wa b) rfl (fun w2 hw2 => by obtain ⟨g, rfl⟩ := hw2; exact d1 g) Try.underlying34 Try.infoNa ?_; simp only [Act.put, List.setIfInBounds_toArray, List.set_cons_succ, List.set_cons_zero]; go_big_quiet_on) | go_big_quiet_step (first | (go_at_call 57; with_reducible exact calls_ext (H.out _)) | (go_at_call 59; with_reducible exact calls_ext (H2.out _))))
    refine wpQuiet_nil ?_
    rfl
  case hh =>
    have b1 : Below W.heap.size W w' := hb
    replace f2 := Below.stays b1 f2
    replace bW := bW.trans (b1.mono bW.size)
    replace sW := Nat.le_trans sW b1.size
    clear b1
    simp only [List.drop_succ_cons, List.drop_zero]
    refine wpList_store_row rfl 34 (.tmp 4) _ rfl _ _ (wa t) rfl rfl f2 Try.infoNa rfl wa_one ?_
    go_wp2
    have e2 := word_cells (blk_row (c' := wa t) f2)
    exact bodyPost_ret (v := wd t) (by simp [results, Try.results34, go_sem, e2, fold_wa]) rfl ⟨rfl, below_setRow bW (by omega) _⟩
set_option maxHeartbeats 1000000 in
theorem al_byteOf_no (a b : Nat) (w : World) (H : Hid (∀ w : World, Calls Try.prog 53 #[wd a] w fun e w' => e = .returned (.tuple #[.int .u64 0, .bool false]) ∧ Below w.heap.size w w')) :
    Calls Try.prog 31 #[wd a, wd b] w fun e w' => e = .returned (wd 0) ∧ Below w.heap.size w w' := by
  have hz := z4_wa
  have hsz := wa_size
  go_enter Try.func31, Try.ntmps31
  go_upto_region 1 with fail
  have f0 : (((w.alloc (.cells (wa a) 34)).alloc (.cells (wa b) 34)).alloc (.cells (wa 0) 34)).heap[w.heap.size]? = some (.cells (wa a) 34) := blk_alloc (blk_alloc (blk_new _ (by simp)))
  have f1 : (((w.alloc (.cells (wa a) 34)).alloc (.cells (wa b) 34)).alloc (.cells (wa 0) 34)).heap[w.heap.size + 1]? = some (.cells (wa b) 34) := blk_alloc (blk_new _ (by simp))
  have f2 : (((w.alloc (.cells (wa a) 34)).alloc (.cells (wa b) 34)).alloc (.cells (wa 0) 34)).heap[w.heap.size + 2]? = some (.cells (wa 0) 34) := blk_new _ (by simp)
  have bW : Below w.heap.size w (((w.alloc (.cells (wa a) 34)).alloc (.cells (wa b) 34)).alloc (.cells (wa 0) 34)) := (((Below.refl _ _).alloc (by simp <;> omega) _).alloc (by simp <;> omega) _).alloc (by simp <;> omega) _
  have sW : w.heap.size + 3 ≤ (((w.alloc (.cells (wa a) 34)).alloc (.cells (wa b) 34)).alloc (.cells (wa 0) 34)).heap.size := by simp
  generalize (((w.alloc (.cells (wa a) 34)).alloc (.cells (wa b) 34)).alloc (.cells (wa 0) 34)) = W at *
  go_wp2_with (first | (refine wpList_load_row rfl 34 _ rfl _ rfl 34 _ (0, 0) _ (by assumption) Try.underlying34 rfl Try.infoNa ?_) | (go_at_call 53; refine (H.out _).mono ?_; rintro e w1 ⟨rfl, b1⟩; replace f0 := Below.stays b1 f0; replace f1 := Below.stays b1 f1; replace f2 := Below.stays b1 f2; replace bW := bW.trans (b1.mono bW.size); replace sW := Nat.le_trans sW b1.size; clear b1) | (refine wpList_store_row rfl 34 (.tmp 4) _ rfl _ _ (wa 0) rfl rfl f2 Try.infoNa rfl wa_one ?_))
  have e2 := word_cells (blk_row (c' := wa 0) f2)
  exact bodyPost_ret (v := wd 0) (by simp [results, Try.results31, go_sem, e2, fold_wa]) rfl ⟨rfl, below_setRow bW (by omega) _⟩
set_option maxHeartbeats 1000000 in
theorem al_byteOf_yes (a b p v : Nat) (w : World) (hv : v < 256) (H : Hid (∀ w : World, Calls Try.prog 53 #[wd a] w fun e w' => e = .returned (.tuple #[.int .u64 (p : Int), .bool true]) ∧ Below w.heap.size w w')) (H2 : Hid (∀ w : World, Calls Try.prog 55 #[wd b, .int .u64 (p : Int)] w fun e w' => e = .returned (.int .u8 (v : Int)) ∧ Below w.heap.size w w')) (H3 : Hid (∀ w : World, Calls Try.prog 54 #[.int .u64 (v : Int)] w fun e w' => e = .returned (wd v) ∧ Below w.heap.size w w')) :
    Calls Try.prog 31 #[wd a, wd b] w fun e w' => e = .returned (wd v) ∧ Below w.heap.size w w' := by
  have hz := z4_wa
  have hsz := wa_size
  go_enter Try.func31, Try.ntmps31
  go_upto_region 1 with fail
  have f0 : (((w.alloc (.cells (wa a) 34)).alloc (.cells (wa b) 34)).alloc (.cells (wa 0) 34)).heap[w.heap.size]? = some (.cells (wa a) 34) := blk_alloc (blk_alloc (blk_new _ (by simp)))
  have f1 : (((w.alloc (.cells (wa a) 34)).alloc (.cells (wa b) 34)).alloc (.cells (wa 0) 34)).heap[w.heap.size + 1]? = some (.cells (wa b) 34) := blk_alloc (blk_new _ (by simp))
  have f2 : (((w.alloc (.cells (wa a) 34)).alloc (.cells (wa b) 34)).alloc (.cells (wa 0) 34)).heap[w.heap.size + 2]? = some (.cells (wa 0) 34) := blk_new _ (by simp)
  have bW : Below w.heap.size w (((w.alloc (.cells (wa a) 34)).alloc (.cells (wa b) 34)).alloc (.cells (wa 0) 34)) := (((Below.refl _ _).alloc (by simp <;> omega) _).alloc (by simp <;> omega) _).alloc (by simp <;> omega) _
  have sW : w.heap.size + 3 ≤ (((w.alloc (.cells (wa a) 34)).alloc (.cells (wa b) 34)).alloc (.cells (wa 0) 34)).heap.size := by simp
  generalize (((w.alloc (.cells (wa a) 34)).alloc (.cells (wa b) 34)).alloc (.cells (wa 0) 34)) = W at *
  go_wp2_with (first | (refine wpList_load_row rfl 34 _ rfl _ rfl 34 _ (0, 0) _ (by assumption) Try.underlying34 rfl Try.infoNa ?_) | (go_at_call 53; refine (H.out _).mono ?_; rintro e w1 ⟨rfl, b1⟩; replace f0 := Below.stays b1 f0; replace f1 := Below.stays b1 f1; replace f2 := Below.stays b1 f2; replace bW := bW.trans (b1.mono bW.size); replace sW := Nat.le_trans sW b1.size; clear b1) | (go_at_call 55; refine (H2.out _).mono ?_; rintro e w1 ⟨rfl, b1⟩; replace f0 := Below.stays b1 f0; replace f1 := Below.stays b1 f1; replace f2 := Below.stays b1 f2; replace bW := bW.trans (b1.mono bW.size); replace sW := Nat.le_trans sW b1.size; clear b1) | (go_at_call 54; refine (H3.out _).mono ?_; rintro e w1 ⟨rfl, b1⟩; replace f0 := Below.stays b1 f0; replace f1 := Below.stays b1 f1; replace f2 := Below.stays b1 f2; replace bW := bW.trans (b1.mono bW.size); replace sW := Nat.le_trans sW b1.size; clear b1) | (refine wpList_store_row rfl 34 (.tmp 4) _ rfl _ _ (wa v) rfl rfl f2 Try.infoNa rfl wa_one ?_))
  have e2 := word_cells (blk_row (c' := wa v) f2)
  exact bodyPost_ret (v := wd v) (by simp [results, Try.results31, go_sem, e2, fold_wa]) rfl ⟨rfl, below_setRow bW (by omega) _⟩
end Go.Proofs.Ytdpbjdecbilaeaa
/- Stage 17: which of a number's methods reckons. -/
namespace Go.Proofs.Ytdpbjdecbilaeaa
open Go.RowKit SmWord
set_option maxRecDepth 100000

/-- A function as a value. -/
def fnV (g : FuncId) : Value := .func (.func g) #[] #[]
def twoV (op : Nat) : Value := if op = 1 then fnV 14 else if op = 2 then fnV 15 else if op = 3 then fnV 16 else if op = 4 then fnV 17 else if op = 5 then fnV 18 else if op = 6 then fnV 19 else if op = 7 then fnV 20 else if op = 10 then fnV 21 else if op = 11 then fnV 22 else if op = 16 then fnV 23 else if op = 17 then fnV 24 else if op = 18 then fnV 25 else if op = 19 then fnV 26 else if op = 20 then fnV 27 else if op = 22 then fnV 28 else if op = 23 then fnV 29 else if op = 24 then fnV 30 else if op = 26 then fnV 31 else if op = 27 then fnV 32 else if op = 28 then fnV 33 else if op = 29 then fnV 34 else .nilFunc
set_option maxHeartbeats 2000000 in
theorem twoV_walk (op : Nat) (w : World) : Calls Try.prog 9 #[.int .u8 (op : Int)] w fun e w' => e = .returned (twoV op) ∧ Below w.heap.size w w' := by
  go_enter Try.func9, Try.ntmps9
  go_wp2
  · rename_i h
    rw [beq_iff_eq] at h
    obtain rfl : op = 1 := by omega
    go_ret
    exact ⟨rfl, Below.refl _ _⟩
  · rename_i h
    rw [beq_iff_eq] at h
    obtain rfl : op = 2 := by omega
    go_ret
    exact ⟨rfl, Below.refl _ _⟩
  · rename_i h
    rw [beq_iff_eq] at h
    obtain rfl : op = 3 := by omega
    go_ret
    exact ⟨rfl, Below.refl _ _⟩
  · rename_i h
    rw [beq_iff_eq] at h
    obtain rfl : op = 4 := by omega
    go_ret
    exact ⟨rfl, Below.refl _ _⟩
  · rename_i h
    rw [beq_iff_eq] at h
    obtain rfl : op = 5 := by omega
    go_ret
    exact ⟨rfl, Below.refl _ _⟩
  · rename_i h
    rw [beq_iff_eq] at h
    obtain rfl : op = 6 := by omega
    go_ret
    exact ⟨rfl, Below.refl _ _⟩
  · rename_i h
    rw [beq_iff_eq] at h
    obtain rfl : op = 7 := by omega
    go_ret
    exact ⟨rfl, Below.refl _ _⟩
  · rename_i h
    rw [beq_iff_eq] at h
    obtain rfl : op = 10 := by omega
    go_ret
    exact ⟨rfl, Below.refl _ _⟩
  · rename_i h
    rw [beq_iff_eq] at h
    obtain rfl : op = 11 := by omega
    go_ret
    exact ⟨rfl, Below.refl _ _⟩
  · rename_i h
    rw [beq_iff_eq] at h
    obtain rfl : op = 16 := by omega
    go_ret
    exact ⟨rfl, Below.refl _ _⟩
  · rename_i h
    rw [beq_iff_eq] at h
    obtain rfl : op = 17 := by omega
    go_ret
    exact ⟨rfl, Below.refl _ _⟩
  · rename_i h
    rw [beq_iff_eq] at h
    obtain rfl : op = 18 := by omega
    go_ret
    exact ⟨rfl, Below.refl _ _⟩
  · rename_i h
    rw [beq_iff_eq] at h
    obtain rfl : op = 19 := by omega
    go_ret
    exact ⟨rfl, Below.refl _ _⟩
  · rename_i h
    rw [beq_iff_eq] at h
    obtain rfl : op = 20 := by omega
    go_ret
    exact ⟨rfl, Below.refl _ _⟩
  · rename_i h
    rw [beq_iff_eq] at h
    obtain rfl : op = 22 := by omega
    go_ret
    exact ⟨rfl, Below.refl _ _⟩
  · rename_i h
    rw [beq_iff_eq] at h
    obtain rfl : op = 23 := by omega
    go_ret
    exact ⟨rfl, Below.refl _ _⟩
  · rename_i h
    rw [beq_iff_eq] at h
    obtain rfl : op = 24 := by omega
    go_ret
    exact ⟨rfl, Below.refl _ _⟩
  · rename_i h
    rw [beq_iff_eq] at h
    obtain rfl : op = 26 := by omega
    go_ret
    exact ⟨rfl, Below.refl _ _⟩
  · rename_i h
    rw [beq_iff_eq] at h
    obtain rfl : op = 27 := by omega
    go_ret
    exact ⟨rfl, Below.refl _ _⟩
  · rename_i h
    rw [beq_iff_eq] at h
    obtain rfl : op = 28 := by omega
    go_ret
    exact ⟨rfl, Below.refl _ _⟩
  · rename_i h
    rw [beq_iff_eq] at h
    obtain rfl : op = 29 := by omega
    go_ret
    exact ⟨rfl, Below.refl _ _⟩
  · simp only [beq_eq_false_iff_ne, ne_eq] at *
    refine bodyPost_ret (v := .nilFunc) (by simp [results, Try.results9, go_sem]) rfl ⟨?_, Below.refl _ _⟩
    unfold twoV
    repeat rw [if_neg (by omega)]
def oneV (op : Nat) : Value := if op = 21 then fnV 35 else if op = 25 then fnV 36 else .nilFunc
set_option maxHeartbeats 2000000 in
theorem oneV_walk (op : Nat) (w : World) : Calls Try.prog 10 #[.int .u8 (op : Int)] w fun e w' => e = .returned (oneV op) ∧ Below w.heap.size w w' := by
  go_enter Try.func10, Try.ntmps10
  go_wp2
  · rename_i h
    rw [beq_iff_eq] at h
    obtain rfl : op = 21 := by omega
    go_ret
    exact ⟨rfl, Below.refl _ _⟩
  · rename_i h
    rw [beq_iff_eq] at h
    obtain rfl : op = 25 := by omega
    go_ret
    exact ⟨rfl, Below.refl _ _⟩
  · simp only [beq_eq_false_iff_ne, ne_eq] at *
    refine bodyPost_ret (v := .nilFunc) (by simp [results, Try.results10, go_sem]) rfl ⟨?_, Below.refl _ _⟩
    unfold oneV
    repeat rw [if_neg (by omega)]
def threeV (op : Nat) : Value := if op = 8 then fnV 37 else if op = 9 then fnV 38 else .nilFunc
set_option maxHeartbeats 2000000 in
theorem threeV_walk (op : Nat) (w : World) : Calls Try.prog 11 #[.int .u8 (op : Int)] w fun e w' => e = .returned (threeV op) ∧ Below w.heap.size w w' := by
  go_enter Try.func11, Try.ntmps11
  go_wp2
  · rename_i h
    rw [beq_iff_eq] at h
    obtain rfl : op = 8 := by omega
    go_ret
    exact ⟨rfl, Below.refl _ _⟩
  · rename_i h
    rw [beq_iff_eq] at h
    obtain rfl : op = 9 := by omega
    go_ret
    exact ⟨rfl, Below.refl _ _⟩
  · simp only [beq_eq_false_iff_ne, ne_eq] at *
    refine bodyPost_ret (v := .nilFunc) (by simp [results, Try.results11, go_sem]) rfl ⟨?_, Below.refl _ _⟩
    unfold threeV
    repeat rw [if_neg (by omega)]
end Go.Proofs.Ytdpbjdecbilaeaa
/- Stage 17: the code's Do and Takes, told by what reckons. -/
namespace Go.Proofs.Ytdpbjdecbilaeaa
open Go.RowKit SmWord
set_option maxRecDepth 100000

theorem dboxes3 (w : World) (a b c : Nat) : ∃ W, (((w.alloc (.cells (wa a) 24)).alloc (.cells (wa b) 24)).alloc (.cells (wa c) 24)).alloc (.cells (wa 0) 24) = W ∧ W.heap[w.heap.size]? = some (.cells (wa a) 24) ∧ W.heap[w.heap.size + 1]? = some (.cells (wa b) 24) ∧ W.heap[w.heap.size + 2]? = some (.cells (wa c) 24) ∧ W.heap[w.heap.size + 3]? = some (.cells (wa 0) 24) ∧ Below w.heap.size w W ∧ W.heap.size = w.heap.size + 4 :=
  ⟨_, rfl, blk_alloc (blk_alloc (blk_alloc (blk_new _ rfl))), blk_alloc (blk_alloc (blk_new _ (by simp))), blk_alloc (blk_new _ (by simp)), blk_new _ (by simp), ((((Below.refl _ _).alloc (Nat.le_refl _) _).alloc (by simp) _).alloc (by simp; omega) _).alloc (by simp; omega) _, by simp⟩
theorem neF2 (g : FuncId) (w : World) : (binOp .neq 32 (.func (.func g) #[] #[]) .nilFunc).run Try.prog w = .ok (.bool true) w := by kernel_rfl
theorem neF2n (w : World) : (binOp .neq 32 .nilFunc .nilFunc).run Try.prog w = .ok (.bool false) w := by kernel_rfl
theorem neF1 (g : FuncId) (w : World) : (binOp .neq 35 (.func (.func g) #[] #[]) .nilFunc).run Try.prog w = .ok (.bool true) w := by kernel_rfl
theorem neF1n (w : World) : (binOp .neq 35 .nilFunc .nilFunc).run Try.prog w = .ok (.bool false) w := by kernel_rfl
theorem neF3 (g : FuncId) (w : World) : (binOp .neq 37 (.func (.func g) #[] #[]) .nilFunc).run Try.prog w = .ok (.bool true) w := by kernel_rfl
theorem neF3n (w : World) : (binOp .neq 37 .nilFunc .nilFunc).run Try.prog w = .ok (.bool false) w := by kernel_rfl
set_option maxHeartbeats 4000000 in
theorem do_two (op : Int) (a b c t : Nat) (g : FuncId) (w : World) (hg : ∀ args w, (callFunc g args).run Try.prog w = .ok (.enter g args) w)
    (H2 : Hid (∀ w, Calls Try.prog 9 #[.int .u8 op] w fun e w' => e = .returned (.func (.func g) #[] #[]) ∧ Below w.heap.size w w'))
    (H : Hid (∀ w, Calls Try.prog g #[.agg (wa a), .agg (wa b)] w fun e w' => e = .returned (wd t) ∧ Below w.heap.size w w')) :
    Calls Try.prog 5 #[.int .u8 op, wd a, wd b, wd c] w fun e w' => e = .returned (.tuple #[wd t, .bool true]) ∧ Below w.heap.size w w' := by
  obtain ⟨W, hW, f0, f1, f2, f3, bW, sW⟩ := dboxes3 w a b c
  have hz := z4_wa
  have n2 := neF2
  have n2n := neF2n
  have n1 := neF1
  have n1n := neF1n
  have n3 := neF3
  have n3n := neF3n
  have hsz := wa_size
  replace sW := Nat.le_of_eq sW.symm
  go_enter Try.func5, Try.ntmps5
  go_upto_region 1 with fail
  try rw [hW]
  clear hW
  go_upto_region 3 with (go_at_call 9; refine (H2.out _).mono ?_; rintro e w1 ⟨rfl, b1⟩; replace f0 := Below.stays b1 f0; replace f1 := Below.stays b1 f1; replace f3 := Below.stays b1 f3; replace bW := bW.trans (b1.mono bW.size); replace sW := Nat.le_trans sW b1.size; clear b1)
  go_wp2_with (first
    | (refine wpList_load_row rfl 24 _ rfl _ rfl 24 _ (0, 0) _ (by assumption) Try.underlying24 rfl Try.infoWa ?_)
    | (go_at_fn g; refine (H.out _).mono ?_; rintro e w1 ⟨rfl, b1⟩; replace f0 := Below.stays b1 f0; replace f1 := Below.stays b1 f1; replace f3 := Below.stays b1 f3; replace bW := bW.trans (b1.mono bW.size); replace sW := Nat.le_trans sW b1.size; clear b1)
    | (refine wpList_store_row rfl 24 (.tmp 8) _ rfl _ _ (wa t) rfl rfl f3 Try.infoWa rfl wa_one ?_))
  have e2 := word_cells (blk_row (c' := wa t) f3)
  exact bodyPost_ret (v := .tuple #[wd t, .bool true]) (by simp [results, Try.results5, go_sem, e2, fold_wa]) rfl ⟨rfl, below_setRow bW (by omega) _⟩
set_option maxHeartbeats 4000000 in
theorem do_one (op : Int) (a b c t : Nat) (g : FuncId) (w : World) (hg : ∀ args w, (callFunc g args).run Try.prog w = .ok (.enter g args) w)
    (H2 : Hid (∀ w, Calls Try.prog 9 #[.int .u8 op] w fun e w' => e = .returned .nilFunc ∧ Below w.heap.size w w'))
    (H1 : Hid (∀ w, Calls Try.prog 10 #[.int .u8 op] w fun e w' => e = .returned (.func (.func g) #[] #[]) ∧ Below w.heap.size w w'))
    (H : Hid (∀ w, Calls Try.prog g #[.agg (wa a)] w fun e w' => e = .returned (wd t) ∧ Below w.heap.size w w')) :
    Calls Try.prog 5 #[.int .u8 op, wd a, wd b, wd c] w fun e w' => e = .returned (.tuple #[wd t, .bool true]) ∧ Below w.heap.size w w' := by
  obtain ⟨W, hW, f0, f1, f2, f3, bW, sW⟩ := dboxes3 w a b c
  have hz := z4_wa
  have n2 := neF2
  have n2n := neF2n
  have n1 := neF1
  have n1n := neF1n
  have n3 := neF3
  have n3n := neF3n
  have hsz := wa_size
  replace sW := Nat.le_of_eq sW.symm
  go_enter Try.func5, Try.ntmps5
  go_upto_region 1 with fail
  try rw [hW]
  clear hW
  go_upto_region 6 with (first | (go_at_call 9; refine (H2.out _).mono ?_; rintro e w1 ⟨rfl, b1⟩; replace f0 := Below.stays b1 f0; replace f1 := Below.stays b1 f1; replace f3 := Below.stays b1 f3; replace bW := bW.trans (b1.mono bW.size); replace sW := Nat.le_trans sW b1.size; clear b1) | (go_at_call 10; refine (H1.out _).mono ?_; rintro e w1 ⟨rfl, b1⟩; replace f0 := Below.stays b1 f0; replace f1 := Below.stays b1 f1; replace f3 := Below.stays b1 f3; replace bW := bW.trans (b1.mono bW.size); replace sW := Nat.le_trans sW b1.size; clear b1))
  go_wp2_with (first
    | (refine wpList_load_row rfl 24 _ rfl _ rfl 24 _ (0, 0) _ (by assumption) Try.underlying24 rfl Try.infoWa ?_)
    | (go_at_fn g; refine (H.out _).mono ?_; rintro e w1 ⟨rfl, b1⟩; replace f0 := Below.stays b1 f0; replace f1 := Below.stays b1 f1; replace f3 := Below.stays b1 f3; replace bW := bW.trans (b1.mono bW.size); replace sW := Nat.le_trans sW b1.size; clear b1)
    | (refine wpList_store_row rfl 24 (.tmp 8) _ rfl _ _ (wa t) rfl rfl f3 Try.infoWa rfl wa_one ?_))
  have e2 := word_cells (blk_row (c' := wa t) f3)
  exact bodyPost_ret (v := .tuple #[wd t, .bool true]) (by simp [results, Try.results5, go_sem, e2, fold_wa]) rfl ⟨rfl, below_setRow bW (by omega) _⟩
set_option maxHeartbeats 4000000 in
theorem do_three (op : Int) (a b c t : Nat) (g : FuncId) (w : World) (hg : ∀ args w, (callFunc g args).run Try.prog w = .ok (.enter g args) w)
    (H2 : Hid (∀ w, Calls Try.prog 9 #[.int .u8 op] w fun e w' => e = .returned .nilFunc ∧ Below w.heap.size w w'))
    (H1 : Hid (∀ w, Calls Try.prog 10 #[.int .u8 op] w fun e w' => e = .returned .nilFunc ∧ Below w.heap.size w w'))
    (H3 : Hid (∀ w, Calls Try.prog 11 #[.int .u8 op] w fun e w' => e = .returned (.func (.func g) #[] #[]) ∧ Below w.heap.size w w'))
    (H : Hid (∀ w, Calls Try.prog g #[.agg (wa a), .agg (wa b), .agg (wa c)] w fun e w' => e = .returned (wd t) ∧ Below w.heap.size w w')) :
    Calls Try.prog 5 #[.int .u8 op, wd a, wd b, wd c] w fun e w' => e = .returned (.tuple #[wd t, .bool true]) ∧ Below w.heap.size w w' := by
  obtain ⟨W, hW, f0, f1, f2, f3, bW, sW⟩ := dboxes3 w a b c
  have hz := z4_wa
  have n2 := neF2
  have n2n := neF2n
  have n1 := neF1
  have n1n := neF1n
  have n3 := neF3
  have n3n := neF3n
  have hsz := wa_size
  replace sW := Nat.le_of_eq sW.symm
  go_enter Try.func5, Try.ntmps5
  go_upto_region 1 with fail
  try rw [hW]
  clear hW
  go_upto_region 9 with (first | (go_at_call 9; refine (H2.out _).mono ?_; rintro e w1 ⟨rfl, b1⟩; replace f0 := Below.stays b1 f0; replace f1 := Below.stays b1 f1; replace f2 := Below.stays b1 f2; replace f3 := Below.stays b1 f3; replace bW := bW.trans (b1.mono bW.size); replace sW := Nat.le_trans sW b1.size; clear b1) | (go_at_call 10; refine (H1.out _).mono ?_; rintro e w1 ⟨rfl, b1⟩; replace f0 := Below.stays b1 f0; replace f1 := Below.stays b1 f1; replace f2 := Below.stays b1 f2; replace f3 := Below.stays b1 f3; replace bW := bW.trans (b1.mono bW.size); replace sW := Nat.le_trans sW b1.size; clear b1) | (go_at_call 11; refine (H3.out _).mono ?_; rintro e w1 ⟨rfl, b1⟩; replace f0 := Below.stays b1 f0; replace f1 := Below.stays b1 f1; replace f2 := Below.stays b1 f2; replace f3 := Below.stays b1 f3; replace bW := bW.trans (b1.mono bW.size); replace sW := Nat.le_trans sW b1.size; clear b1))
  go_wp2_with (first
    | (refine wpList_load_row rfl 24 _ rfl _ rfl 24 _ (0, 0) _ (by assumption) Try.underlying24 rfl Try.infoWa ?_)
    | (go_at_fn g; refine (H.out _).mono ?_; rintro e w1 ⟨rfl, b1⟩; replace f0 := Below.stays b1 f0; replace f1 := Below.stays b1 f1; replace f2 := Below.stays b1 f2; replace f3 := Below.stays b1 f3; replace bW := bW.trans (b1.mono bW.size); replace sW := Nat.le_trans sW b1.size; clear b1)
    | (refine wpList_store_row rfl 24 (.tmp 8) _ rfl _ _ (wa t) rfl rfl f3 Try.infoWa rfl wa_one ?_))
  have e2 := word_cells (blk_row (c' := wa t) f3)
  exact bodyPost_ret (v := .tuple #[wd t, .bool true]) (by simp [results, Try.results5, go_sem, e2, fold_wa]) rfl ⟨rfl, below_setRow bW (by omega) _⟩
set_option maxHeartbeats 4000000 in
theorem do_none (op : Int) (a b c : Nat) (w : World)
    (H2 : Hid (∀ w, Calls Try.prog 9 #[.int .u8 op] w fun e w' => e = .returned .nilFunc ∧ Below w.heap.size w w'))
    (H1 : Hid (∀ w, Calls Try.prog 10 #[.int .u8 op] w fun e w' => e = .returned .nilFunc ∧ Below w.heap.size w w'))
    (H3 : Hid (∀ w, Calls Try.prog 11 #[.int .u8 op] w fun e w' => e = .returned .nilFunc ∧ Below w.heap.size w w')) :
    Calls Try.prog 5 #[.int .u8 op, wd a, wd b, wd c] w fun e w' => e = .returned (.tuple #[wd 0, .bool false]) ∧ Below w.heap.size w w' := by
  obtain ⟨W, hW, f0, f1, f2, f3, bW, sW⟩ := dboxes3 w a b c
  have hz := z4_wa
  have n2 := neF2
  have n2n := neF2n
  have n1 := neF1
  have n1n := neF1n
  have n3 := neF3
  have n3n := neF3n
  have hsz := wa_size
  replace sW := Nat.le_of_eq sW.symm
  go_enter Try.func5, Try.ntmps5
  go_upto_region 1 with fail
  try rw [hW]
  clear hW
  go_upto_region 10 with (first | (go_at_call 9; refine (H2.out _).mono ?_; rintro e w1 ⟨rfl, b1⟩; replace f3 := Below.stays b1 f3; replace bW := bW.trans (b1.mono bW.size); replace sW := Nat.le_trans sW b1.size; clear b1) | (go_at_call 10; refine (H1.out _).mono ?_; rintro e w1 ⟨rfl, b1⟩; replace f3 := Below.stays b1 f3; replace bW := bW.trans (b1.mono bW.size); replace sW := Nat.le_trans sW b1.size; clear b1) | (go_at_call 11; refine (H3.out _).mono ?_; rintro e w1 ⟨rfl, b1⟩; replace f3 := Below.stays b1 f3; replace bW := bW.trans (b1.mono bW.size); replace sW := Nat.le_trans sW b1.size; clear b1))
  go_wp2_with (refine wpList_store_row rfl 24 (.tmp 8) _ rfl _ _ (wa 0) rfl rfl f3 Try.infoWa rfl wa_one ?_)
  have e2 := word_cells (blk_row (c' := wa 0) f3)
  exact bodyPost_ret (v := .tuple #[wd 0, .bool false]) (by simp [results, Try.results5, go_sem, e2, fold_wa]) rfl ⟨rfl, below_setRow bW (by omega) _⟩
end Go.Proofs.Ytdpbjdecbilaeaa
/- Stage 17: plain words: what an instruction puts of three numbers, and how many it takes. -/
namespace Go.Proofs.Ytdpbjdecbilaeaa
open Go.RowKit SmWord
set_option maxRecDepth 100000

/-- What a byte of the second word is that the first one names. -/
def byN (a b : Nat) : Nat := if smallB a then byteV b (l0 a) else 0
/-- What is put of two words. -/
def two (op a b : Nat) : Option Nat :=
  if op = 1 then some (a + b) else if op = 2 then some (a * b) else if op = 3 then some (a + (M - 1 - b % M + 1))
  else if op = 4 then some (a % M / (b % M)) else if op = 5 then some (sq a b) else if op = 6 then some (rs (a % M) (b % M)) else if op = 7 then some (sr a b)
  else if op = 10 then some (a ^ (b % M)) else if op = 11 then some (exn a b)
  else if op = 16 then some (fl (decide (a % M < b % M))) else if op = 17 then some (fl (decide (b % M < a % M)))
  else if op = 18 then some (fl (sless a b)) else if op = 19 then some (fl (sless b a)) else if op = 20 then some (fl (decide (a % M = b % M)))
  else if op = 22 then some (num (l0 a &&& l0 b) (l1 a &&& l1 b) (l2 a &&& l2 b) (l3 a &&& l3 b))
  else if op = 23 then some (num (l0 a ||| l0 b) (l1 a ||| l1 b) (l2 a ||| l2 b) (l3 a ||| l3 b))
  else if op = 24 then some (num (l0 a ^^^ l0 b) (l1 a ^^^ l1 b) (l2 a ^^^ l2 b) (l3 a ^^^ l3 b))
  else if op = 26 then some (byN a b) else if op = 27 then some (b * 2 ^ sh a) else if op = 28 then some (b % M / 2 ^ sh a) else if op = 29 then some (sar b (sh a)) else none
/-- What is put of one word. -/
def oneN (op a : Nat) : Option Nat := if op = 21 then some (fl (decide (a % M = 0 % M))) else if op = 25 then some (M - 1 - a % M) else none
/-- What is put of three words. -/
def three (op a b c : Nat) : Option Nat := if op = 8 then some (rs (a % M + b % M) (c % M)) else if op = 9 then some (rs (a % M * (b % M)) (c % M)) else none
/-- What is put; none. -/
def aluN (op a b c : Nat) : Option Nat := (two op a b).or ((oneN op a).or (three op a b c))
def takesN (op : Nat) : Nat := if (oneN op 0).isSome then 1 else if (two op 0 0).isSome then 2 else if (three op 0 0 0).isSome then 3 else 0
end Go.Proofs.Ytdpbjdecbilaeaa
/- Stage 17: the code's Do and Takes, of every byte and all words. -/
namespace Go.Proofs.Ytdpbjdecbilaeaa
open Go.RowKit SmWord
set_option maxRecDepth 100000

set_option maxHeartbeats 1000000 in
theorem takes_one (op : Int) (g : FuncId) (w : World) (H0 : Hid (∀ w : World, Calls Try.prog 10 #[.int .u8 op] w fun e w' => e = .returned (.func (.func g) #[] #[]) ∧ Below w.heap.size w w')) : Calls Try.prog 6 #[.int .u8 op] w fun e w' => e = .returned (.int .i64 1) ∧ Below w.heap.size w w' := by
  have bW := Below.refl w.heap.size w
  have n2 := neF2
  have n2n := neF2n
  have n1 := neF1
  have n1n := neF1n
  have n3 := neF3
  have n3n := neF3n
  go_enter Try.func6, Try.ntmps6
  go_wp2_with (first | (go_at_call 10; refine (H0.out _).mono ?_; rintro e w1 ⟨rfl, b1⟩; replace bW := bW.trans (b1.mono bW.size); clear b1))
  go_ret
  exact ⟨rfl, bW⟩
set_option maxHeartbeats 1000000 in
theorem takes_two (op : Int) (g : FuncId) (w : World) (H0 : Hid (∀ w : World, Calls Try.prog 10 #[.int .u8 op] w fun e w' => e = .returned (.nilFunc) ∧ Below w.heap.size w w')) (H1 : Hid (∀ w : World, Calls Try.prog 9 #[.int .u8 op] w fun e w' => e = .returned (.func (.func g) #[] #[]) ∧ Below w.heap.size w w')) : Calls Try.prog 6 #[.int .u8 op] w fun e w' => e = .returned (.int .i64 2) ∧ Below w.heap.size w w' := by
  have bW := Below.refl w.heap.size w
  have n2 := neF2
  have n2n := neF2n
  have n1 := neF1
  have n1n := neF1n
  have n3 := neF3
  have n3n := neF3n
  go_enter Try.func6, Try.ntmps6
  go_wp2_with (first | (go_at_call 10; refine (H0.out _).mono ?_; rintro e w1 ⟨rfl, b1⟩; replace bW := bW.trans (b1.mono bW.size); clear b1) | (go_at_call 9; refine (H1.out _).mono ?_; rintro e w1 ⟨rfl, b1⟩; replace bW := bW.trans (b1.mono bW.size); clear b1))
  go_ret
  exact ⟨rfl, bW⟩
set_option maxHeartbeats 1000000 in
theorem takes_three (op : Int) (g : FuncId) (w : World) (H0 : Hid (∀ w : World, Calls Try.prog 10 #[.int .u8 op] w fun e w' => e = .returned (.nilFunc) ∧ Below w.heap.size w w')) (H1 : Hid (∀ w : World, Calls Try.prog 9 #[.int .u8 op] w fun e w' => e = .returned (.nilFunc) ∧ Below w.heap.size w w')) (H2 : Hid (∀ w : World, Calls Try.prog 11 #[.int .u8 op] w fun e w' => e = .returned (.func (.func g) #[] #[]) ∧ Below w.heap.size w w')) : Calls Try.prog 6 #[.int .u8 op] w fun e w' => e = .returned (.int .i64 3) ∧ Below w.heap.size w w' := by
  have bW := Below.refl w.heap.size w
  have n2 := neF2
  have n2n := neF2n
  have n1 := neF1
  have n1n := neF1n
  have n3 := neF3
  have n3n := neF3n
  go_enter Try.func6, Try.ntmps6
  go_wp2_with (first | (go_at_call 10; refine (H0.out _).mono ?_; rintro e w1 ⟨rfl, b1⟩; replace bW := bW.trans (b1.mono bW.size); clear b1) | (go_at_call 9; refine (H1.out _).mono ?_; rintro e w1 ⟨rfl, b1⟩; replace bW := bW.trans (b1.mono bW.size); clear b1) | (go_at_call 11; refine (H2.out _).mono ?_; rintro e w1 ⟨rfl, b1⟩; replace bW := bW.trans (b1.mono bW.size); clear b1))
  go_ret
  exact ⟨rfl, bW⟩
set_option maxHeartbeats 1000000 in
theorem takes_none (op : Int) (w : World) (H0 : Hid (∀ w : World, Calls Try.prog 10 #[.int .u8 op] w fun e w' => e = .returned (.nilFunc) ∧ Below w.heap.size w w')) (H1 : Hid (∀ w : World, Calls Try.prog 9 #[.int .u8 op] w fun e w' => e = .returned (.nilFunc) ∧ Below w.heap.size w w')) (H2 : Hid (∀ w : World, Calls Try.prog 11 #[.int .u8 op] w fun e w' => e = .returned (.nilFunc) ∧ Below w.heap.size w w')) : Calls Try.prog 6 #[.int .u8 op] w fun e w' => e = .returned (.int .i64 0) ∧ Below w.heap.size w w' := by
  have bW := Below.refl w.heap.size w
  have n2 := neF2
  have n2n := neF2n
  have n1 := neF1
  have n1n := neF1n
  have n3 := neF3
  have n3n := neF3n
  go_enter Try.func6, Try.ntmps6
  go_wp2_with (first | (go_at_call 10; refine (H0.out _).mono ?_; rintro e w1 ⟨rfl, b1⟩; replace bW := bW.trans (b1.mono bW.size); clear b1) | (go_at_call 9; refine (H1.out _).mono ?_; rintro e w1 ⟨rfl, b1⟩; replace bW := bW.trans (b1.mono bW.size); clear b1) | (go_at_call 11; refine (H2.out _).mono ?_; rintro e w1 ⟨rfl, b1⟩; replace bW := bW.trans (b1.mono bW.size); clear b1))
  go_ret
  exact ⟨rfl, bW⟩
theorem hsub (a b : Nat) : (a + (M - 1 - b % M + 1) + b) % M = a % M := by
  have h1 : b % M < M := Nat.mod_lt _ (by decide)
  obtain ⟨q, hq⟩ : ∃ q, b = b % M + M * q := ⟨b / M, (Nat.mod_add_div b M).symm⟩
  have : a + (M - 1 - b % M + 1) + b = a + M * (q + 1) := by
    rw [Nat.mul_add, Nat.mul_one]
    omega
  rw [this, Nat.add_mul_mod_self_left]
theorem sh_lt (a : Nat) : sh a < B := by
  have : sh a ≤ 256 := by
    unfold sh
    split <;> omega
  have : (256 : Nat) < B := by decide
  omega
theorem al_less (a b : Nat) (w : World) : Calls Try.prog 23 #[wd a, wd b] w fun e w' => e = .returned (wd (fl (decide (a % M < b % M)))) ∧ Below w.heap.size w w' := by
  have h := al_less_walk a b _ w (Lib.hid fun w => compare_wd a b w)
  rw [show decide (cmpN (a % M) (b % M) < 0) = decide (a % M < b % M) from cmpN_neg _ _] at h
  exact h
theorem al_more (a b : Nat) (w : World) : Calls Try.prog 24 #[wd a, wd b] w fun e w' => e = .returned (wd (fl (decide (b % M < a % M)))) ∧ Below w.heap.size w w' := al_more_walk a b _ w (Lib.hid fun w => al_less b a w)
theorem al_up (a b : Nat) (w : World) : Calls Try.prog 32 #[wd a, wd b] w fun e w' => e = .returned (wd (b * 2 ^ sh a)) ∧ Below w.heap.size w w' := al_up_walk a b (sh a) _ w (Lib.hid fun w => al_shift a w) (Lib.hid fun w => shl_wd b (sh a) (sh_lt a) w)
theorem al_down (a b : Nat) (w : World) : Calls Try.prog 33 #[wd a, wd b] w fun e w' => e = .returned (wd (b % M / 2 ^ sh a)) ∧ Below w.heap.size w w' := al_down_walk a b (sh a) _ w (Lib.hid fun w => al_shift a w) (Lib.hid fun w => shr_wd b (sh a) (sh_lt a) w)
theorem al_signedDown (a b : Nat) (w : World) : Calls Try.prog 34 #[wd a, wd b] w fun e w' => e = .returned (wd (sar b (sh a))) ∧ Below w.heap.size w w' := al_signedDown_walk a b (sh a) _ w (Lib.hid fun w => al_shift a w) (Lib.hid fun w => sar_wd b (sh a) (sh_lt a) w)
theorem byteV_lt (m n : Nat) : byteV m n < 256 := by
  unfold byteV
  split
  · exact Nat.mod_lt _ (by decide)
  · decide
theorem al_byteOf (a b : Nat) (w : World) : Calls Try.prog 31 #[wd a, wd b] w fun e w' => e = .returned (wd (byN a b)) ∧ Below w.heap.size w w' := by
  have K := small_wd a
  unfold byN
  cases hs : smallB a
  · simp only [hs, Bool.false_eq_true, if_false] at K ⊢
    exact al_byteOf_no a b w (Lib.hid K)
  · simp only [hs, if_true] at K ⊢
    exact al_byteOf_yes a b _ _ w (byteV_lt b (l0 a)) (Lib.hid K) (Lib.hid fun w => byte_wd b (l0 a) w) (Lib.hid fun w => of_wd _ w (Nat.lt_trans (byteV_lt b (l0 a)) (by decide)))
/-- What is put; 0. -/
def aluV (op a b c : Nat) : Nat := (aluN op a b c).getD 0
def aluB (op a b c : Nat) : Bool := (aluN op a b c).isSome

theorem do_1 (a b c : Nat) (w : World) : Calls Try.prog 5 #[.int .u8 1, wd a, wd b, wd c] w fun e w' => e = .returned (.tuple #[wd (a + b), .bool true]) ∧ Below w.heap.size w w' :=
  do_two 1 a b c _ 14 w (enters_of Try.func14 (by kernel_rfl) rfl) (Lib.hid fun w => twoV_walk 1 w) (Lib.hid fun w => al_plus_walk a b _ w (Lib.hid fun w => add_wd a b w))
theorem do_2 (a b c : Nat) (w : World) : Calls Try.prog 5 #[.int .u8 2, wd a, wd b, wd c] w fun e w' => e = .returned (.tuple #[wd (a * b), .bool true]) ∧ Below w.heap.size w w' :=
  do_two 2 a b c _ 15 w (enters_of Try.func15 (by kernel_rfl) rfl) (Lib.hid fun w => twoV_walk 2 w) (Lib.hid fun w => al_times_walk a b _ w (Lib.hid fun w => mul_wd a b w))
theorem do_3 (a b c : Nat) (w : World) : Calls Try.prog 5 #[.int .u8 3, wd a, wd b, wd c] w fun e w' => e = .returned (.tuple #[wd (a + (M - 1 - b % M + 1)), .bool true]) ∧ Below w.heap.size w w' :=
  do_two 3 a b c _ 16 w (enters_of Try.func16 (by kernel_rfl) rfl) (Lib.hid fun w => twoV_walk 3 w) (Lib.hid fun w => al_minus_walk a b _ w (Lib.hid fun w => sub_wd a b _ w (hsub a b)))
theorem do_4 (a b c : Nat) (w : World) : Calls Try.prog 5 #[.int .u8 4, wd a, wd b, wd c] w fun e w' => e = .returned (.tuple #[wd (a % M / (b % M)), .bool true]) ∧ Below w.heap.size w w' :=
  do_two 4 a b c _ 17 w (enters_of Try.func17 (by kernel_rfl) rfl) (Lib.hid fun w => twoV_walk 4 w) (Lib.hid fun w => al_quotient_walk a b _ _ w (Lib.hid fun w => div_wd a b w))
theorem do_5 (a b c : Nat) (w : World) : Calls Try.prog 5 #[.int .u8 5, wd a, wd b, wd c] w fun e w' => e = .returned (.tuple #[wd (sq a b), .bool true]) ∧ Below w.heap.size w w' :=
  do_two 5 a b c _ 18 w (enters_of Try.func18 (by kernel_rfl) rfl) (Lib.hid fun w => twoV_walk 5 w) (Lib.hid fun w => al_signedQuotient_walk a b _ _ w (Lib.hid fun w => sdiv_wd a b w))
theorem do_6 (a b c : Nat) (w : World) : Calls Try.prog 5 #[.int .u8 6, wd a, wd b, wd c] w fun e w' => e = .returned (.tuple #[wd (rs (a % M) (b % M)), .bool true]) ∧ Below w.heap.size w w' :=
  do_two 6 a b c _ 19 w (enters_of Try.func19 (by kernel_rfl) rfl) (Lib.hid fun w => twoV_walk 6 w) (Lib.hid fun w => al_rest_walk a b _ _ w (Lib.hid fun w => div_wd a b w))
theorem do_7 (a b c : Nat) (w : World) : Calls Try.prog 5 #[.int .u8 7, wd a, wd b, wd c] w fun e w' => e = .returned (.tuple #[wd (sr a b), .bool true]) ∧ Below w.heap.size w w' :=
  do_two 7 a b c _ 20 w (enters_of Try.func20 (by kernel_rfl) rfl) (Lib.hid fun w => twoV_walk 7 w) (Lib.hid fun w => al_signedRest_walk a b _ _ w (Lib.hid fun w => sdiv_wd a b w))
theorem do_10 (a b c : Nat) (w : World) : Calls Try.prog 5 #[.int .u8 10, wd a, wd b, wd c] w fun e w' => e = .returned (.tuple #[wd (a ^ (b % M)), .bool true]) ∧ Below w.heap.size w w' :=
  do_two 10 a b c _ 21 w (enters_of Try.func21 (by kernel_rfl) rfl) (Lib.hid fun w => twoV_walk 10 w) (Lib.hid fun w => al_power_walk a b _ w (Lib.hid fun w => exp_wd a b w))
theorem do_11 (a b c : Nat) (w : World) : Calls Try.prog 5 #[.int .u8 11, wd a, wd b, wd c] w fun e w' => e = .returned (.tuple #[wd (exn a b), .bool true]) ∧ Below w.heap.size w w' :=
  do_two 11 a b c _ 22 w (enters_of Try.func22 (by kernel_rfl) rfl) (Lib.hid fun w => twoV_walk 11 w) (Lib.hid fun w => al_extend_walk a b _ w (Lib.hid fun w => extend_wd a b w))
theorem do_16 (a b c : Nat) (w : World) : Calls Try.prog 5 #[.int .u8 16, wd a, wd b, wd c] w fun e w' => e = .returned (.tuple #[wd (fl (decide (a % M < b % M))), .bool true]) ∧ Below w.heap.size w w' :=
  do_two 16 a b c _ 23 w (enters_of Try.func23 (by kernel_rfl) rfl) (Lib.hid fun w => twoV_walk 16 w) (Lib.hid fun w => al_less a b w)
theorem do_17 (a b c : Nat) (w : World) : Calls Try.prog 5 #[.int .u8 17, wd a, wd b, wd c] w fun e w' => e = .returned (.tuple #[wd (fl (decide (b % M < a % M))), .bool true]) ∧ Below w.heap.size w w' :=
  do_two 17 a b c _ 24 w (enters_of Try.func24 (by kernel_rfl) rfl) (Lib.hid fun w => twoV_walk 17 w) (Lib.hid fun w => al_more a b w)
theorem do_18 (a b c : Nat) (w : World) : Calls Try.prog 5 #[.int .u8 18, wd a, wd b, wd c] w fun e w' => e = .returned (.tuple #[wd (fl (sless a b)), .bool true]) ∧ Below w.heap.size w w' :=
  do_two 18 a b c _ 25 w (enters_of Try.func25 (by kernel_rfl) rfl) (Lib.hid fun w => twoV_walk 18 w) (Lib.hid fun w => al_signedLess_walk a b _ w (Lib.hid fun w => sless_wd a b w))
theorem do_19 (a b c : Nat) (w : World) : Calls Try.prog 5 #[.int .u8 19, wd a, wd b, wd c] w fun e w' => e = .returned (.tuple #[wd (fl (sless b a)), .bool true]) ∧ Below w.heap.size w w' :=
  do_two 19 a b c _ 26 w (enters_of Try.func26 (by kernel_rfl) rfl) (Lib.hid fun w => twoV_walk 19 w) (Lib.hid fun w => al_signedMore_walk a b _ w (Lib.hid fun w => al_signedLess_walk b a _ w (Lib.hid fun w => sless_wd b a w)))
theorem do_20 (a b c : Nat) (w : World) : Calls Try.prog 5 #[.int .u8 20, wd a, wd b, wd c] w fun e w' => e = .returned (.tuple #[wd (fl (decide (a % M = b % M))), .bool true]) ∧ Below w.heap.size w w' :=
  do_two 20 a b c _ 27 w (enters_of Try.func27 (by kernel_rfl) rfl) (Lib.hid fun w => twoV_walk 20 w) (Lib.hid fun w => al_same a b w)
theorem do_22 (a b c : Nat) (w : World) : Calls Try.prog 5 #[.int .u8 22, wd a, wd b, wd c] w fun e w' => e = .returned (.tuple #[wd (num (l0 a &&& l0 b) (l1 a &&& l1 b) (l2 a &&& l2 b) (l3 a &&& l3 b)), .bool true]) ∧ Below w.heap.size w w' :=
  do_two 22 a b c _ 28 w (enters_of Try.func28 (by kernel_rfl) rfl) (Lib.hid fun w => twoV_walk 22 w) (Lib.hid fun w => al_and_walk a b _ w (Lib.hid fun w => and_wd a b w))
theorem do_23 (a b c : Nat) (w : World) : Calls Try.prog 5 #[.int .u8 23, wd a, wd b, wd c] w fun e w' => e = .returned (.tuple #[wd (num (l0 a ||| l0 b) (l1 a ||| l1 b) (l2 a ||| l2 b) (l3 a ||| l3 b)), .bool true]) ∧ Below w.heap.size w w' :=
  do_two 23 a b c _ 29 w (enters_of Try.func29 (by kernel_rfl) rfl) (Lib.hid fun w => twoV_walk 23 w) (Lib.hid fun w => al_or_walk a b _ w (Lib.hid fun w => or_wd a b w))
theorem do_24 (a b c : Nat) (w : World) : Calls Try.prog 5 #[.int .u8 24, wd a, wd b, wd c] w fun e w' => e = .returned (.tuple #[wd (num (l0 a ^^^ l0 b) (l1 a ^^^ l1 b) (l2 a ^^^ l2 b) (l3 a ^^^ l3 b)), .bool true]) ∧ Below w.heap.size w w' :=
  do_two 24 a b c _ 30 w (enters_of Try.func30 (by kernel_rfl) rfl) (Lib.hid fun w => twoV_walk 24 w) (Lib.hid fun w => al_xor_walk a b _ w (Lib.hid fun w => xor_wd a b w))
theorem do_26 (a b c : Nat) (w : World) : Calls Try.prog 5 #[.int .u8 26, wd a, wd b, wd c] w fun e w' => e = .returned (.tuple #[wd (byN a b), .bool true]) ∧ Below w.heap.size w w' :=
  do_two 26 a b c _ 31 w (enters_of Try.func31 (by kernel_rfl) rfl) (Lib.hid fun w => twoV_walk 26 w) (Lib.hid fun w => al_byteOf a b w)
theorem do_27 (a b c : Nat) (w : World) : Calls Try.prog 5 #[.int .u8 27, wd a, wd b, wd c] w fun e w' => e = .returned (.tuple #[wd (b * 2 ^ sh a), .bool true]) ∧ Below w.heap.size w w' :=
  do_two 27 a b c _ 32 w (enters_of Try.func32 (by kernel_rfl) rfl) (Lib.hid fun w => twoV_walk 27 w) (Lib.hid fun w => al_up a b w)
theorem do_28 (a b c : Nat) (w : World) : Calls Try.prog 5 #[.int .u8 28, wd a, wd b, wd c] w fun e w' => e = .returned (.tuple #[wd (b % M / 2 ^ sh a), .bool true]) ∧ Below w.heap.size w w' :=
  do_two 28 a b c _ 33 w (enters_of Try.func33 (by kernel_rfl) rfl) (Lib.hid fun w => twoV_walk 28 w) (Lib.hid fun w => al_down a b w)
theorem do_29 (a b c : Nat) (w : World) : Calls Try.prog 5 #[.int .u8 29, wd a, wd b, wd c] w fun e w' => e = .returned (.tuple #[wd (sar b (sh a)), .bool true]) ∧ Below w.heap.size w w' :=
  do_two 29 a b c _ 34 w (enters_of Try.func34 (by kernel_rfl) rfl) (Lib.hid fun w => twoV_walk 29 w) (Lib.hid fun w => al_signedDown a b w)
theorem do_21 (a b c : Nat) (w : World) : Calls Try.prog 5 #[.int .u8 21, wd a, wd b, wd c] w fun e w' => e = .returned (.tuple #[wd (fl (decide (a % M = 0 % M))), .bool true]) ∧ Below w.heap.size w w' :=
  do_one 21 a b c _ 35 w (enters_of Try.func35 (by kernel_rfl) rfl) (Lib.hid fun w => twoV_walk 21 w) (Lib.hid fun w => oneV_walk 21 w) (Lib.hid fun w => al_isZero a w)
theorem do_25 (a b c : Nat) (w : World) : Calls Try.prog 5 #[.int .u8 25, wd a, wd b, wd c] w fun e w' => e = .returned (.tuple #[wd (M - 1 - a % M), .bool true]) ∧ Below w.heap.size w w' :=
  do_one 25 a b c _ 36 w (enters_of Try.func36 (by kernel_rfl) rfl) (Lib.hid fun w => twoV_walk 25 w) (Lib.hid fun w => oneV_walk 25 w) (Lib.hid fun w => al_not_walk a _ w (Lib.hid fun w => not_wd a w))
theorem do_8 (a b c : Nat) (w : World) : Calls Try.prog 5 #[.int .u8 8, wd a, wd b, wd c] w fun e w' => e = .returned (.tuple #[wd (rs (a % M + b % M) (c % M)), .bool true]) ∧ Below w.heap.size w w' :=
  do_three 8 a b c _ 37 w (enters_of Try.func37 (by kernel_rfl) rfl) (Lib.hid fun w => twoV_walk 8 w) (Lib.hid fun w => oneV_walk 8 w) (Lib.hid fun w => threeV_walk 8 w) (Lib.hid fun w => al_plusRest_walk a b c _ w (Lib.hid fun w => addMod_wd a b c w))
theorem do_9 (a b c : Nat) (w : World) : Calls Try.prog 5 #[.int .u8 9, wd a, wd b, wd c] w fun e w' => e = .returned (.tuple #[wd (rs (a % M * (b % M)) (c % M)), .bool true]) ∧ Below w.heap.size w w' :=
  do_three 9 a b c _ 38 w (enters_of Try.func38 (by kernel_rfl) rfl) (Lib.hid fun w => twoV_walk 9 w) (Lib.hid fun w => oneV_walk 9 w) (Lib.hid fun w => threeV_walk 9 w) (Lib.hid fun w => al_timesRest_walk a b c _ w (Lib.hid fun w => mulMod_wd a b c w))

theorem alu_1 (a b c : Nat) : aluN 1 a b c = some (a + b) := by
  have e : two 1 a b = some (a + b) := by
    unfold two
    repeat rw [if_neg (by decide)]
    rw [if_pos rfl]
  rw [aluN, e, Option.some_or]
theorem dov_1 (a b c : Nat) (w : World) : Calls Try.prog 5 #[.int .u8 1, wd a, wd b, wd c] w fun e w' => e = .returned (.tuple #[wd (aluV 1 a b c), .bool (aluB 1 a b c)]) ∧ Below w.heap.size w w' := by
  rw [aluV, aluB, alu_1, Option.getD_some, Option.isSome_some]
  exact do_1 a b c w
theorem alu_2 (a b c : Nat) : aluN 2 a b c = some (a * b) := by
  have e : two 2 a b = some (a * b) := by
    unfold two
    repeat rw [if_neg (by decide)]
    rw [if_pos rfl]
  rw [aluN, e, Option.some_or]
theorem dov_2 (a b c : Nat) (w : World) : Calls Try.prog 5 #[.int .u8 2, wd a, wd b, wd c] w fun e w' => e = .returned (.tuple #[wd (aluV 2 a b c), .bool (aluB 2 a b c)]) ∧ Below w.heap.size w w' := by
  rw [aluV, aluB, alu_2, Option.getD_some, Option.isSome_some]
  exact do_2 a b c w
theorem alu_3 (a b c : Nat) : aluN 3 a b c = some (a + (M - 1 - b % M + 1)) := by
  have e : two 3 a b = some (a + (M - 1 - b % M + 1)) := by
    unfold two
    repeat rw [if_neg (by decide)]
    rw [if_pos rfl]
  rw [aluN, e, Option.some_or]
theorem dov_3 (a b c : Nat) (w : World) : Calls Try.prog 5 #[.int .u8 3, wd a, wd b, wd c] w fun e w' => e = .returned (.tuple #[wd (aluV 3 a b c), .bool (aluB 3 a b c)]) ∧ Below w.heap.size w w' := by
  rw [aluV, aluB, alu_3, Option.getD_some, Option.isSome_some]
  exact do_3 a b c w
theorem alu_4 (a b c : Nat) : aluN 4 a b c = some (a % M / (b % M)) := by
  have e : two 4 a b = some (a % M / (b % M)) := by
    unfold two
    repeat rw [if_neg (by decide)]
    rw [if_pos rfl]
  rw [aluN, e, Option.some_or]
theorem dov_4 (a b c : Nat) (w : World) : Calls Try.prog 5 #[.int .u8 4, wd a, wd b, wd c] w fun e w' => e = .returned (.tuple #[wd (aluV 4 a b c), .bool (aluB 4 a b c)]) ∧ Below w.heap.size w w' := by
  rw [aluV, aluB, alu_4, Option.getD_some, Option.isSome_some]
  exact do_4 a b c w
theorem alu_5 (a b c : Nat) : aluN 5 a b c = some (sq a b) := by
  have e : two 5 a b = some (sq a b) := by
    unfold two
    repeat rw [if_neg (by decide)]
    rw [if_pos rfl]
  rw [aluN, e, Option.some_or]
theorem dov_5 (a b c : Nat) (w : World) : Calls Try.prog 5 #[.int .u8 5, wd a, wd b, wd c] w fun e w' => e = .returned (.tuple #[wd (aluV 5 a b c), .bool (aluB 5 a b c)]) ∧ Below w.heap.size w w' := by
  rw [aluV, aluB, alu_5, Option.getD_some, Option.isSome_some]
  exact do_5 a b c w
theorem alu_6 (a b c : Nat) : aluN 6 a b c = some (rs (a % M) (b % M)) := by
  have e : two 6 a b = some (rs (a % M) (b % M)) := by
    unfold two
    repeat rw [if_neg (by decide)]
    rw [if_pos rfl]
  rw [aluN, e, Option.some_or]
theorem dov_6 (a b c : Nat) (w : World) : Calls Try.prog 5 #[.int .u8 6, wd a, wd b, wd c] w fun e w' => e = .returned (.tuple #[wd (aluV 6 a b c), .bool (aluB 6 a b c)]) ∧ Below w.heap.size w w' := by
  rw [aluV, aluB, alu_6, Option.getD_some, Option.isSome_some]
  exact do_6 a b c w
theorem alu_7 (a b c : Nat) : aluN 7 a b c = some (sr a b) := by
  have e : two 7 a b = some (sr a b) := by
    unfold two
    repeat rw [if_neg (by decide)]
    rw [if_pos rfl]
  rw [aluN, e, Option.some_or]
theorem dov_7 (a b c : Nat) (w : World) : Calls Try.prog 5 #[.int .u8 7, wd a, wd b, wd c] w fun e w' => e = .returned (.tuple #[wd (aluV 7 a b c), .bool (aluB 7 a b c)]) ∧ Below w.heap.size w w' := by
  rw [aluV, aluB, alu_7, Option.getD_some, Option.isSome_some]
  exact do_7 a b c w
theorem alu_8 (a b c : Nat) : aluN 8 a b c = some (rs (a % M + b % M) (c % M)) := by
  have e_two : two 8 a b = none := by
    unfold two
    repeat rw [if_neg (by decide)]
  have e_oneN : oneN 8 a = none := by
    unfold oneN
    repeat rw [if_neg (by decide)]
  have e : three 8 a b c = some (rs (a % M + b % M) (c % M)) := by
    unfold three
    repeat rw [if_neg (by decide)]
    rw [if_pos rfl]
  rw [aluN, e_two, e_oneN, e, Option.none_or, Option.none_or]
theorem dov_8 (a b c : Nat) (w : World) : Calls Try.prog 5 #[.int .u8 8, wd a, wd b, wd c] w fun e w' => e = .returned (.tuple #[wd (aluV 8 a b c), .bool (aluB 8 a b c)]) ∧ Below w.heap.size w w' := by
  rw [aluV, aluB, alu_8, Option.getD_some, Option.isSome_some]
  exact do_8 a b c w
theorem alu_9 (a b c : Nat) : aluN 9 a b c = some (rs (a % M * (b % M)) (c % M)) := by
  have e_two : two 9 a b = none := by
    unfold two
    repeat rw [if_neg (by decide)]
  have e_oneN : oneN 9 a = none := by
    unfold oneN
    repeat rw [if_neg (by decide)]
  have e : three 9 a b c = some (rs (a % M * (b % M)) (c % M)) := by
    unfold three
    repeat rw [if_neg (by decide)]
    rw [if_pos rfl]
  rw [aluN, e_two, e_oneN, e, Option.none_or, Option.none_or]
theorem dov_9 (a b c : Nat) (w : World) : Calls Try.prog 5 #[.int .u8 9, wd a, wd b, wd c] w fun e w' => e = .returned (.tuple #[wd (aluV 9 a b c), .bool (aluB 9 a b c)]) ∧ Below w.heap.size w w' := by
  rw [aluV, aluB, alu_9, Option.getD_some, Option.isSome_some]
  exact do_9 a b c w
theorem alu_10 (a b c : Nat) : aluN 10 a b c = some (a ^ (b % M)) := by
  have e : two 10 a b = some (a ^ (b % M)) := by
    unfold two
    repeat rw [if_neg (by decide)]
    rw [if_pos rfl]
  rw [aluN, e, Option.some_or]
theorem dov_10 (a b c : Nat) (w : World) : Calls Try.prog 5 #[.int .u8 10, wd a, wd b, wd c] w fun e w' => e = .returned (.tuple #[wd (aluV 10 a b c), .bool (aluB 10 a b c)]) ∧ Below w.heap.size w w' := by
  rw [aluV, aluB, alu_10, Option.getD_some, Option.isSome_some]
  exact do_10 a b c w
theorem alu_11 (a b c : Nat) : aluN 11 a b c = some (exn a b) := by
  have e : two 11 a b = some (exn a b) := by
    unfold two
    repeat rw [if_neg (by decide)]
    rw [if_pos rfl]
  rw [aluN, e, Option.some_or]
theorem dov_11 (a b c : Nat) (w : World) : Calls Try.prog 5 #[.int .u8 11, wd a, wd b, wd c] w fun e w' => e = .returned (.tuple #[wd (aluV 11 a b c), .bool (aluB 11 a b c)]) ∧ Below w.heap.size w w' := by
  rw [aluV, aluB, alu_11, Option.getD_some, Option.isSome_some]
  exact do_11 a b c w
theorem alu_16 (a b c : Nat) : aluN 16 a b c = some (fl (decide (a % M < b % M))) := by
  have e : two 16 a b = some (fl (decide (a % M < b % M))) := by
    unfold two
    repeat rw [if_neg (by decide)]
    rw [if_pos rfl]
  rw [aluN, e, Option.some_or]
theorem dov_16 (a b c : Nat) (w : World) : Calls Try.prog 5 #[.int .u8 16, wd a, wd b, wd c] w fun e w' => e = .returned (.tuple #[wd (aluV 16 a b c), .bool (aluB 16 a b c)]) ∧ Below w.heap.size w w' := by
  rw [aluV, aluB, alu_16, Option.getD_some, Option.isSome_some]
  exact do_16 a b c w
theorem alu_17 (a b c : Nat) : aluN 17 a b c = some (fl (decide (b % M < a % M))) := by
  have e : two 17 a b = some (fl (decide (b % M < a % M))) := by
    unfold two
    repeat rw [if_neg (by decide)]
    rw [if_pos rfl]
  rw [aluN, e, Option.some_or]
theorem dov_17 (a b c : Nat) (w : World) : Calls Try.prog 5 #[.int .u8 17, wd a, wd b, wd c] w fun e w' => e = .returned (.tuple #[wd (aluV 17 a b c), .bool (aluB 17 a b c)]) ∧ Below w.heap.size w w' := by
  rw [aluV, aluB, alu_17, Option.getD_some, Option.isSome_some]
  exact do_17 a b c w
theorem alu_18 (a b c : Nat) : aluN 18 a b c = some (fl (sless a b)) := by
  have e : two 18 a b = some (fl (sless a b)) := by
    unfold two
    repeat rw [if_neg (by decide)]
    rw [if_pos rfl]
  rw [aluN, e, Option.some_or]
theorem dov_18 (a b c : Nat) (w : World) : Calls Try.prog 5 #[.int .u8 18, wd a, wd b, wd c] w fun e w' => e = .returned (.tuple #[wd (aluV 18 a b c), .bool (aluB 18 a b c)]) ∧ Below w.heap.size w w' := by
  rw [aluV, aluB, alu_18, Option.getD_some, Option.isSome_some]
  exact do_18 a b c w
theorem alu_19 (a b c : Nat) : aluN 19 a b c = some (fl (sless b a)) := by
  have e : two 19 a b = some (fl (sless b a)) := by
    unfold two
    repeat rw [if_neg (by decide)]
    rw [if_pos rfl]
  rw [aluN, e, Option.some_or]
theorem dov_19 (a b c : Nat) (w : World) : Calls Try.prog 5 #[.int .u8 19, wd a, wd b, wd c] w fun e w' => e = .returned (.tuple #[wd (aluV 19 a b c), .bool (aluB 19 a b c)]) ∧ Below w.heap.size w w' := by
  rw [aluV, aluB, alu_19, Option.getD_some, Option.isSome_some]
  exact do_19 a b c w
theorem alu_20 (a b c : Nat) : aluN 20 a b c = some (fl (decide (a % M = b % M))) := by
  have e : two 20 a b = some (fl (decide (a % M = b % M))) := by
    unfold two
    repeat rw [if_neg (by decide)]
    rw [if_pos rfl]
  rw [aluN, e, Option.some_or]
theorem dov_20 (a b c : Nat) (w : World) : Calls Try.prog 5 #[.int .u8 20, wd a, wd b, wd c] w fun e w' => e = .returned (.tuple #[wd (aluV 20 a b c), .bool (aluB 20 a b c)]) ∧ Below w.heap.size w w' := by
  rw [aluV, aluB, alu_20, Option.getD_some, Option.isSome_some]
  exact do_20 a b c w
theorem alu_21 (a b c : Nat) : aluN 21 a b c = some (fl (decide (a % M = 0 % M))) := by
  have e_two : two 21 a b = none := by
    unfold two
    repeat rw [if_neg (by decide)]
  have e : oneN 21 a = some (fl (decide (a % M = 0 % M))) := by
    unfold oneN
    repeat rw [if_neg (by decide)]
    rw [if_pos rfl]
  rw [aluN, e_two, e, Option.none_or, Option.some_or]
theorem dov_21 (a b c : Nat) (w : World) : Calls Try.prog 5 #[.int .u8 21, wd a, wd b, wd c] w fun e w' => e = .returned (.tuple #[wd (aluV 21 a b c), .bool (aluB 21 a b c)]) ∧ Below w.heap.size w w' := by
  rw [aluV, aluB, alu_21, Option.getD_some, Option.isSome_some]
  exact do_21 a b c w
theorem alu_22 (a b c : Nat) : aluN 22 a b c = some (num (l0 a &&& l0 b) (l1 a &&& l1 b) (l2 a &&& l2 b) (l3 a &&& l3 b)) := by
  have e : two 22 a b = some (num (l0 a &&& l0 b) (l1 a &&& l1 b) (l2 a &&& l2 b) (l3 a &&& l3 b)) := by
    unfold two
    repeat rw [if_neg (by decide)]
    rw [if_pos rfl]
  rw [aluN, e, Option.some_or]
theorem dov_22 (a b c : Nat) (w : World) : Calls Try.prog 5 #[.int .u8 22, wd a, wd b, wd c] w fun e w' => e = .returned (.tuple #[wd (aluV 22 a b c), .bool (aluB 22 a b c)]) ∧ Below w.heap.size w w' := by
  rw [aluV, aluB, alu_22, Option.getD_some, Option.isSome_some]
  exact do_22 a b c w
theorem alu_23 (a b c : Nat) : aluN 23 a b c = some (num (l0 a ||| l0 b) (l1 a ||| l1 b) (l2 a ||| l2 b) (l3 a ||| l3 b)) := by
  have e : two 23 a b = some (num (l0 a ||| l0 b) (l1 a ||| l1 b) (l2 a ||| l2 b) (l3 a ||| l3 b)) := by
    unfold two
    repeat rw [if_neg (by decide)]
    rw [if_pos rfl]
  rw [aluN, e, Option.some_or]
theorem dov_23 (a b c : Nat) (w : World) : Calls Try.prog 5 #[.int .u8 23, wd a, wd b, wd c] w fun e w' => e = .returned (.tuple #[wd (aluV 23 a b c), .bool (aluB 23 a b c)]) ∧ Below w.heap.size w w' := by
  rw [aluV, aluB, alu_23, Option.getD_some, Option.isSome_some]
  exact do_23 a b c w
theorem alu_24 (a b c : Nat) : aluN 24 a b c = some (num (l0 a ^^^ l0 b) (l1 a ^^^ l1 b) (l2 a ^^^ l2 b) (l3 a ^^^ l3 b)) := by
  have e : two 24 a b = some (num (l0 a ^^^ l0 b) (l1 a ^^^ l1 b) (l2 a ^^^ l2 b) (l3 a ^^^ l3 b)) := by
    unfold two
    repeat rw [if_neg (by decide)]
    rw [if_pos rfl]
  rw [aluN, e, Option.some_or]
theorem dov_24 (a b c : Nat) (w : World) : Calls Try.prog 5 #[.int .u8 24, wd a, wd b, wd c] w fun e w' => e = .returned (.tuple #[wd (aluV 24 a b c), .bool (aluB 24 a b c)]) ∧ Below w.heap.size w w' := by
  rw [aluV, aluB, alu_24, Option.getD_some, Option.isSome_some]
  exact do_24 a b c w
theorem alu_25 (a b c : Nat) : aluN 25 a b c = some (M - 1 - a % M) := by
  have e_two : two 25 a b = none := by
    unfold two
    repeat rw [if_neg (by decide)]
  have e : oneN 25 a = some (M - 1 - a % M) := by
    unfold oneN
    repeat rw [if_neg (by decide)]
    rw [if_pos rfl]
  rw [aluN, e_two, e, Option.none_or, Option.some_or]
theorem dov_25 (a b c : Nat) (w : World) : Calls Try.prog 5 #[.int .u8 25, wd a, wd b, wd c] w fun e w' => e = .returned (.tuple #[wd (aluV 25 a b c), .bool (aluB 25 a b c)]) ∧ Below w.heap.size w w' := by
  rw [aluV, aluB, alu_25, Option.getD_some, Option.isSome_some]
  exact do_25 a b c w
theorem alu_26 (a b c : Nat) : aluN 26 a b c = some (byN a b) := by
  have e : two 26 a b = some (byN a b) := by
    unfold two
    repeat rw [if_neg (by decide)]
    rw [if_pos rfl]
  rw [aluN, e, Option.some_or]
theorem dov_26 (a b c : Nat) (w : World) : Calls Try.prog 5 #[.int .u8 26, wd a, wd b, wd c] w fun e w' => e = .returned (.tuple #[wd (aluV 26 a b c), .bool (aluB 26 a b c)]) ∧ Below w.heap.size w w' := by
  rw [aluV, aluB, alu_26, Option.getD_some, Option.isSome_some]
  exact do_26 a b c w
theorem alu_27 (a b c : Nat) : aluN 27 a b c = some (b * 2 ^ sh a) := by
  have e : two 27 a b = some (b * 2 ^ sh a) := by
    unfold two
    repeat rw [if_neg (by decide)]
    rw [if_pos rfl]
  rw [aluN, e, Option.some_or]
theorem dov_27 (a b c : Nat) (w : World) : Calls Try.prog 5 #[.int .u8 27, wd a, wd b, wd c] w fun e w' => e = .returned (.tuple #[wd (aluV 27 a b c), .bool (aluB 27 a b c)]) ∧ Below w.heap.size w w' := by
  rw [aluV, aluB, alu_27, Option.getD_some, Option.isSome_some]
  exact do_27 a b c w
theorem alu_28 (a b c : Nat) : aluN 28 a b c = some (b % M / 2 ^ sh a) := by
  have e : two 28 a b = some (b % M / 2 ^ sh a) := by
    unfold two
    repeat rw [if_neg (by decide)]
    rw [if_pos rfl]
  rw [aluN, e, Option.some_or]
theorem dov_28 (a b c : Nat) (w : World) : Calls Try.prog 5 #[.int .u8 28, wd a, wd b, wd c] w fun e w' => e = .returned (.tuple #[wd (aluV 28 a b c), .bool (aluB 28 a b c)]) ∧ Below w.heap.size w w' := by
  rw [aluV, aluB, alu_28, Option.getD_some, Option.isSome_some]
  exact do_28 a b c w
theorem alu_29 (a b c : Nat) : aluN 29 a b c = some (sar b (sh a)) := by
  have e : two 29 a b = some (sar b (sh a)) := by
    unfold two
    repeat rw [if_neg (by decide)]
    rw [if_pos rfl]
  rw [aluN, e, Option.some_or]
theorem dov_29 (a b c : Nat) (w : World) : Calls Try.prog 5 #[.int .u8 29, wd a, wd b, wd c] w fun e w' => e = .returned (.tuple #[wd (aluV 29 a b c), .bool (aluB 29 a b c)]) ∧ Below w.heap.size w w' := by
  rw [aluV, aluB, alu_29, Option.getD_some, Option.isSome_some]
  exact do_29 a b c w
/-- What the code's Do answers, of every byte and all words. -/
theorem do_walk (op a b c : Nat) (w : World) : Calls Try.prog 5 #[.int .u8 (op : Int), wd a, wd b, wd c] w fun e w' => e = .returned (.tuple #[wd (aluV op a b c), .bool (aluB op a b c)]) ∧ Below w.heap.size w w' := by
  by_cases h1 : op = 1
  · subst h1
    exact dov_1 a b c w
  by_cases h2 : op = 2
  · subst h2
    exact dov_2 a b c w
  by_cases h3 : op = 3
  · subst h3
    exact dov_3 a b c w
  by_cases h4 : op = 4
  · subst h4
    exact dov_4 a b c w
  by_cases h5 : op = 5
  · subst h5
    exact dov_5 a b c w
  by_cases h6 : op = 6
  · subst h6
    exact dov_6 a b c w
  by_cases h7 : op = 7
  · subst h7
    exact dov_7 a b c w
  by_cases h8 : op = 8
  · subst h8
    exact dov_8 a b c w
  by_cases h9 : op = 9
  · subst h9
    exact dov_9 a b c w
  by_cases h10 : op = 10
  · subst h10
    exact dov_10 a b c w
  by_cases h11 : op = 11
  · subst h11
    exact dov_11 a b c w
  by_cases h16 : op = 16
  · subst h16
    exact dov_16 a b c w
  by_cases h17 : op = 17
  · subst h17
    exact dov_17 a b c w
  by_cases h18 : op = 18
  · subst h18
    exact dov_18 a b c w
  by_cases h19 : op = 19
  · subst h19
    exact dov_19 a b c w
  by_cases h20 : op = 20
  · subst h20
    exact dov_20 a b c w
  by_cases h21 : op = 21
  · subst h21
    exact dov_21 a b c w
  by_cases h22 : op = 22
  · subst h22
    exact dov_22 a b c w
  by_cases h23 : op = 23
  · subst h23
    exact dov_23 a b c w
  by_cases h24 : op = 24
  · subst h24
    exact dov_24 a b c w
  by_cases h25 : op = 25
  · subst h25
    exact dov_25 a b c w
  by_cases h26 : op = 26
  · subst h26
    exact dov_26 a b c w
  by_cases h27 : op = 27
  · subst h27
    exact dov_27 a b c w
  by_cases h28 : op = 28
  · subst h28
    exact dov_28 a b c w
  by_cases h29 : op = 29
  · subst h29
    exact dov_29 a b c w
  have e2 : two op a b = none := by simp only [two, *, if_false]
  have e1 : oneN op a = none := by simp only [oneN, *, if_false]
  have e3 : three op a b c = none := by simp only [three, *, if_false]
  have ea : aluN op a b c = none := by rw [aluN, e2, e1, e3]; rfl
  rw [aluV, aluB, ea]
  exact do_none op a b c w (Lib.hid fun w => by have := twoV_walk op w; rwa [show twoV op = .nilFunc by simp only [twoV, *, if_false]] at this) (Lib.hid fun w => by have := oneV_walk op w; rwa [show oneV op = .nilFunc by simp only [oneV, *, if_false]] at this) (Lib.hid fun w => by have := threeV_walk op w; rwa [show threeV op = .nilFunc by simp only [threeV, *, if_false]] at this)
/-- How many words the code says that an instruction takes. -/
theorem takes_walk (op : Nat) (w : World) : Calls Try.prog 6 #[.int .u8 (op : Int)] w fun e w' => e = .returned (.int .i64 ((takesN op : Nat) : Int)) ∧ Below w.heap.size w w' := by
  by_cases h1 : op = 1
  · subst h1
    exact takes_two 1 14 w (Lib.hid fun w => oneV_walk 1 w) (Lib.hid fun w => twoV_walk 1 w)
  by_cases h2 : op = 2
  · subst h2
    exact takes_two 2 15 w (Lib.hid fun w => oneV_walk 2 w) (Lib.hid fun w => twoV_walk 2 w)
  by_cases h3 : op = 3
  · subst h3
    exact takes_two 3 16 w (Lib.hid fun w => oneV_walk 3 w) (Lib.hid fun w => twoV_walk 3 w)
  by_cases h4 : op = 4
  · subst h4
    exact takes_two 4 17 w (Lib.hid fun w => oneV_walk 4 w) (Lib.hid fun w => twoV_walk 4 w)
  by_cases h5 : op = 5
  · subst h5
    exact takes_two 5 18 w (Lib.hid fun w => oneV_walk 5 w) (Lib.hid fun w => twoV_walk 5 w)
  by_cases h6 : op = 6
  · subst h6
    exact takes_two 6 19 w (Lib.hid fun w => oneV_walk 6 w) (Lib.hid fun w => twoV_walk 6 w)
  by_cases h7 : op = 7
  · subst h7
    exact takes_two 7 20 w (Lib.hid fun w => oneV_walk 7 w) (Lib.hid fun w => twoV_walk 7 w)
  by_cases h8 : op = 8
  · subst h8
    exact takes_three 8 37 w (Lib.hid fun w => oneV_walk 8 w) (Lib.hid fun w => twoV_walk 8 w) (Lib.hid fun w => threeV_walk 8 w)
  by_cases h9 : op = 9
  · subst h9
    exact takes_three 9 38 w (Lib.hid fun w => oneV_walk 9 w) (Lib.hid fun w => twoV_walk 9 w) (Lib.hid fun w => threeV_walk 9 w)
  by_cases h10 : op = 10
  · subst h10
    exact takes_two 10 21 w (Lib.hid fun w => oneV_walk 10 w) (Lib.hid fun w => twoV_walk 10 w)
  by_cases h11 : op = 11
  · subst h11
    exact takes_two 11 22 w (Lib.hid fun w => oneV_walk 11 w) (Lib.hid fun w => twoV_walk 11 w)
  by_cases h16 : op = 16
  · subst h16
    exact takes_two 16 23 w (Lib.hid fun w => oneV_walk 16 w) (Lib.hid fun w => twoV_walk 16 w)
  by_cases h17 : op = 17
  · subst h17
    exact takes_two 17 24 w (Lib.hid fun w => oneV_walk 17 w) (Lib.hid fun w => twoV_walk 17 w)
  by_cases h18 : op = 18
  · subst h18
    exact takes_two 18 25 w (Lib.hid fun w => oneV_walk 18 w) (Lib.hid fun w => twoV_walk 18 w)
  by_cases h19 : op = 19
  · subst h19
    exact takes_two 19 26 w (Lib.hid fun w => oneV_walk 19 w) (Lib.hid fun w => twoV_walk 19 w)
  by_cases h20 : op = 20
  · subst h20
    exact takes_two 20 27 w (Lib.hid fun w => oneV_walk 20 w) (Lib.hid fun w => twoV_walk 20 w)
  by_cases h21 : op = 21
  · subst h21
    exact takes_one 21 35 w (Lib.hid fun w => oneV_walk 21 w)
  by_cases h22 : op = 22
  · subst h22
    exact takes_two 22 28 w (Lib.hid fun w => oneV_walk 22 w) (Lib.hid fun w => twoV_walk 22 w)
  by_cases h23 : op = 23
  · subst h23
    exact takes_two 23 29 w (Lib.hid fun w => oneV_walk 23 w) (Lib.hid fun w => twoV_walk 23 w)
  by_cases h24 : op = 24
  · subst h24
    exact takes_two 24 30 w (Lib.hid fun w => oneV_walk 24 w) (Lib.hid fun w => twoV_walk 24 w)
  by_cases h25 : op = 25
  · subst h25
    exact takes_one 25 36 w (Lib.hid fun w => oneV_walk 25 w)
  by_cases h26 : op = 26
  · subst h26
    exact takes_two 26 31 w (Lib.hid fun w => oneV_walk 26 w) (Lib.hid fun w => twoV_walk 26 w)
  by_cases h27 : op = 27
  · subst h27
    exact takes_two 27 32 w (Lib.hid fun w => oneV_walk 27 w) (Lib.hid fun w => twoV_walk 27 w)
  by_cases h28 : op = 28
  · subst h28
    exact takes_two 28 33 w (Lib.hid fun w => oneV_walk 28 w) (Lib.hid fun w => twoV_walk 28 w)
  by_cases h29 : op = 29
  · subst h29
    exact takes_two 29 34 w (Lib.hid fun w => oneV_walk 29 w) (Lib.hid fun w => twoV_walk 29 w)
  have e2 : two op 0 0 = none := by simp only [two, *, if_false]
  have e1 : oneN op 0 = none := by simp only [oneN, *, if_false]
  have e3 : three op 0 0 0 = none := by simp only [three, *, if_false]
  have ea : takesN op = 0 := by rw [takesN, e2, e1, e3]; rfl
  rw [ea]
  exact takes_none op w (Lib.hid fun w => by have := oneV_walk op w; rwa [show oneV op = .nilFunc by simp only [oneV, *, if_false]] at this) (Lib.hid fun w => by have := twoV_walk op w; rwa [show twoV op = .nilFunc by simp only [twoV, *, if_false]] at this) (Lib.hid fun w => by have := threeV_walk op w; rwa [show threeV op = .nilFunc by simp only [threeV, *, if_false]] at this)
end Go.Proofs.Ytdpbjdecbilaeaa
