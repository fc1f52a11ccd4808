/- Stage 17: the document's Do, bytes up to SIGNEXTEND. -/
import Derived.Test.YtdpbjdecbilaeaaGreatG9
import Derived.Test.YtdpbjdecbilaeaaGreatG6
import Derived.Test.YtdpbjdecbilaeaaGreatG7
import Derived.BigQuiet
namespace Go.Proofs.YtdpbjdecbilaeaaGreat
open Go.RowKit SmWord
set_option maxRecDepth 100000

theorem rtk_1 (w : World) : Calls Tryz.prog 8 #[.int .u8 1] w fun e w' => e = .returned (.int .i64 2) ∧ Below w.heap.size w w' := rtakes_walk 1 w
theorem rtk_2 (w : World) : Calls Tryz.prog 8 #[.int .u8 2] w fun e w' => e = .returned (.int .i64 2) ∧ Below w.heap.size w w' := rtakes_walk 2 w
theorem rtk_3 (w : World) : Calls Tryz.prog 8 #[.int .u8 3] w fun e w' => e = .returned (.int .i64 2) ∧ Below w.heap.size w w' := rtakes_walk 3 w
theorem rtk_4 (w : World) : Calls Tryz.prog 8 #[.int .u8 4] w fun e w' => e = .returned (.int .i64 2) ∧ Below w.heap.size w w' := rtakes_walk 4 w
theorem rtk_5 (w : World) : Calls Tryz.prog 8 #[.int .u8 5] w fun e w' => e = .returned (.int .i64 2) ∧ Below w.heap.size w w' := rtakes_walk 5 w
theorem rtk_6 (w : World) : Calls Tryz.prog 8 #[.int .u8 6] w fun e w' => e = .returned (.int .i64 2) ∧ Below w.heap.size w w' := rtakes_walk 6 w
theorem rtk_7 (w : World) : Calls Tryz.prog 8 #[.int .u8 7] w fun e w' => e = .returned (.int .i64 2) ∧ Below w.heap.size w w' := rtakes_walk 7 w
theorem rtk_8 (w : World) : Calls Tryz.prog 8 #[.int .u8 8] w fun e w' => e = .returned (.int .i64 3) ∧ Below w.heap.size w w' := rtakes_walk 8 w
theorem rtk_9 (w : World) : Calls Tryz.prog 8 #[.int .u8 9] w fun e w' => e = .returned (.int .i64 3) ∧ Below w.heap.size w w' := rtakes_walk 9 w
theorem rtk_10 (w : World) : Calls Tryz.prog 8 #[.int .u8 10] w fun e w' => e = .returned (.int .i64 2) ∧ Below w.heap.size w w' := rtakes_walk 10 w
theorem rtk_11 (w : World) : Calls Tryz.prog 8 #[.int .u8 11] w fun e w' => e = .returned (.int .i64 2) ∧ Below w.heap.size w w' := rtakes_walk 11 w
theorem rtk_16 (w : World) : Calls Tryz.prog 8 #[.int .u8 16] w fun e w' => e = .returned (.int .i64 2) ∧ Below w.heap.size w w' := rtakes_walk 16 w
theorem rtk_17 (w : World) : Calls Tryz.prog 8 #[.int .u8 17] w fun e w' => e = .returned (.int .i64 2) ∧ Below w.heap.size w w' := rtakes_walk 17 w
theorem rtk_18 (w : World) : Calls Tryz.prog 8 #[.int .u8 18] w fun e w' => e = .returned (.int .i64 2) ∧ Below w.heap.size w w' := rtakes_walk 18 w
theorem rtk_19 (w : World) : Calls Tryz.prog 8 #[.int .u8 19] w fun e w' => e = .returned (.int .i64 2) ∧ Below w.heap.size w w' := rtakes_walk 19 w
theorem rtk_20 (w : World) : Calls Tryz.prog 8 #[.int .u8 20] w fun e w' => e = .returned (.int .i64 2) ∧ Below w.heap.size w w' := rtakes_walk 20 w
theorem rtk_21 (w : World) : Calls Tryz.prog 8 #[.int .u8 21] w fun e w' => e = .returned (.int .i64 1) ∧ Below w.heap.size w w' := rtakes_walk 21 w
theorem rtk_22 (w : World) : Calls Tryz.prog 8 #[.int .u8 22] w fun e w' => e = .returned (.int .i64 2) ∧ Below w.heap.size w w' := rtakes_walk 22 w
theorem rtk_23 (w : World) : Calls Tryz.prog 8 #[.int .u8 23] w fun e w' => e = .returned (.int .i64 2) ∧ Below w.heap.size w w' := rtakes_walk 23 w
theorem rtk_24 (w : World) : Calls Tryz.prog 8 #[.int .u8 24] w fun e w' => e = .returned (.int .i64 2) ∧ Below w.heap.size w w' := rtakes_walk 24 w
theorem rtk_25 (w : World) : Calls Tryz.prog 8 #[.int .u8 25] w fun e w' => e = .returned (.int .i64 1) ∧ Below w.heap.size w w' := rtakes_walk 25 w
theorem rtk_26 (w : World) : Calls Tryz.prog 8 #[.int .u8 26] w fun e w' => e = .returned (.int .i64 2) ∧ Below w.heap.size w w' := rtakes_walk 26 w
theorem rtk_27 (w : World) : Calls Tryz.prog 8 #[.int .u8 27] w fun e w' => e = .returned (.int .i64 2) ∧ Below w.heap.size w w' := rtakes_walk 27 w
theorem rtk_28 (w : World) : Calls Tryz.prog 8 #[.int .u8 28] w fun e w' => e = .returned (.int .i64 2) ∧ Below w.heap.size w w' := rtakes_walk 28 w
theorem rtk_29 (w : World) : Calls Tryz.prog 8 #[.int .u8 29] w fun e w' => e = .returned (.int .i64 2) ∧ Below w.heap.size w w' := rtakes_walk 29 w
set_option maxHeartbeats 8000000 in
theorem rdo_1 (a b c : Nat) (w : World) : Calls Tryz.prog 5 #[.int .u8 1, wd a, wd b, wd c] w fun e w' => e = .returned (.tuple #[wd (a + b), .bool true]) ∧ Below w.heap.size w w' := by
  obtain ⟨W, hW, f0, f1, f2, f3, bW, sW⟩ := dboxes3 w a b c
  have hz := z4_wa
  have hsz := wa_size
  have hds : ∀ x, (da x).size = 32 := fun x => arr_size _ _ _
  replace sW := Nat.le_of_eq sW.symm
  go_enter Tryz.func5, Tryz.ntmps5
  go_upto_region 1 with fail
  try rw [hW]
  clear hW hz
  go_wp2_with (first | (refine wpList_load_row rfl 24 _ rfl _ rfl 24 _ (0, 0) _ (by assumption) Tryz.underlying24 rfl Tryz.infoWa ?_) | (go_at_call 8; refine (rtk_1 _).mono ?_; rintro e wx ⟨rfl, b1⟩; replace f0 := Below.stays b1 f0; replace f1 := Below.stays b1 f1; replace f2 := Below.stays b1 f2; replace f3 := Below.stays b1 f3; replace bW := bW.trans (b1.mono bW.size); replace sW := Nat.le_trans sW b1.size; clear b1) | (go_at_call 12; refine (low_1 a b c _).mono ?_; rintro e wx ⟨rfl, b1⟩; replace f0 := Below.stays b1 f0; replace f1 := Below.stays b1 f1; replace f2 := Below.stays b1 f2; replace f3 := Below.stays b1 f3; replace bW := bW.trans (b1.mono bW.size); replace sW := Nat.le_trans sW b1.size; clear b1) | (refine wpList_store_row rfl 24 (.tmp 8) _ rfl _ _ (wa (a + b)) rfl rfl f3 Tryz.infoWa rfl wa_one ?_))
  have e2 := word_cells (blk_row (c' := wa (a + b)) f3)
  exact bodyPost_ret (v := .tuple #[wd (a + b), .bool true]) (by simp [results, Tryz.results5, go_sem, e2, fold_wa]) rfl ⟨rfl, below_setRow bW (by omega) _⟩
set_option maxHeartbeats 8000000 in
theorem rdo_2 (a b c : Nat) (w : World) : Calls Tryz.prog 5 #[.int .u8 2, wd a, wd b, wd c] w fun e w' => e = .returned (.tuple #[wd (a * b), .bool true]) ∧ Below w.heap.size w w' := by
  obtain ⟨W, hW, f0, f1, f2, f3, bW, sW⟩ := dboxes3 w a b c
  have hz := z4_wa
  have hsz := wa_size
  have hds : ∀ x, (da x).size = 32 := fun x => arr_size _ _ _
  replace sW := Nat.le_of_eq sW.symm
  go_enter Tryz.func5, Tryz.ntmps5
  go_upto_region 1 with fail
  try rw [hW]
  clear hW hz
  go_wp2_with (first | (refine wpList_load_row rfl 24 _ rfl _ rfl 24 _ (0, 0) _ (by assumption) Tryz.underlying24 rfl Tryz.infoWa ?_) | (go_at_call 8; refine (rtk_2 _).mono ?_; rintro e wx ⟨rfl, b1⟩; replace f0 := Below.stays b1 f0; replace f1 := Below.stays b1 f1; replace f2 := Below.stays b1 f2; replace f3 := Below.stays b1 f3; replace bW := bW.trans (b1.mono bW.size); replace sW := Nat.le_trans sW b1.size; clear b1) | (go_at_call 12; refine (low_2 a b c _).mono ?_; rintro e wx ⟨rfl, b1⟩; replace f0 := Below.stays b1 f0; replace f1 := Below.stays b1 f1; replace f2 := Below.stays b1 f2; replace f3 := Below.stays b1 f3; replace bW := bW.trans (b1.mono bW.size); replace sW := Nat.le_trans sW b1.size; clear b1) | (refine wpList_store_row rfl 24 (.tmp 8) _ rfl _ _ (wa (a * b)) rfl rfl f3 Tryz.infoWa rfl wa_one ?_))
  have e2 := word_cells (blk_row (c' := wa (a * b)) f3)
  exact bodyPost_ret (v := .tuple #[wd (a * b), .bool true]) (by simp [results, Tryz.results5, go_sem, e2, fold_wa]) rfl ⟨rfl, below_setRow bW (by omega) _⟩
set_option maxHeartbeats 8000000 in
theorem rdo_3 (a b c : Nat) (w : World) : Calls Tryz.prog 5 #[.int .u8 3, wd a, wd b, wd c] w fun e w' => e = .returned (.tuple #[wd (a + (M - 1 - b % M + 1)), .bool true]) ∧ Below w.heap.size w w' := by
  obtain ⟨W, hW, f0, f1, f2, f3, bW, sW⟩ := dboxes3 w a b c
  have hz := z4_wa
  have hsz := wa_size
  have hds : ∀ x, (da x).size = 32 := fun x => arr_size _ _ _
  replace sW := Nat.le_of_eq sW.symm
  go_enter Tryz.func5, Tryz.ntmps5
  go_upto_region 1 with fail
  try rw [hW]
  clear hW hz
  go_wp2_with (first | (refine wpList_load_row rfl 24 _ rfl _ rfl 24 _ (0, 0) _ (by assumption) Tryz.underlying24 rfl Tryz.infoWa ?_) | (go_at_call 8; refine (rtk_3 _).mono ?_; rintro e wx ⟨rfl, b1⟩; replace f0 := Below.stays b1 f0; replace f1 := Below.stays b1 f1; replace f2 := Below.stays b1 f2; replace f3 := Below.stays b1 f3; replace bW := bW.trans (b1.mono bW.size); replace sW := Nat.le_trans sW b1.size; clear b1) | (go_at_call 12; refine (low_3 a b c _).mono ?_; rintro e wx ⟨rfl, b1⟩; replace f0 := Below.stays b1 f0; replace f1 := Below.stays b1 f1; replace f2 := Below.stays b1 f2; replace f3 := Below.stays b1 f3; replace bW := bW.trans (b1.mono bW.size); replace sW := Nat.le_trans sW b1.size; clear b1) | (refine wpList_store_row rfl 24 (.tmp 8) _ rfl _ _ (wa (a + (M - 1 - b % M + 1))) rfl rfl f3 Tryz.infoWa rfl wa_one ?_))
  have e2 := word_cells (blk_row (c' := wa (a + (M - 1 - b % M + 1))) f3)
  exact bodyPost_ret (v := .tuple #[wd (a + (M - 1 - b % M + 1)), .bool true]) (by simp [results, Tryz.results5, go_sem, e2, fold_wa]) rfl ⟨rfl, below_setRow bW (by omega) _⟩
set_option maxHeartbeats 8000000 in
theorem rdo_4 (a b c : Nat) (w : World) : Calls Tryz.prog 5 #[.int .u8 4, wd a, wd b, wd c] w fun e w' => e = .returned (.tuple #[wd (a % M / (b % M)), .bool true]) ∧ Below w.heap.size w w' := by
  obtain ⟨W, hW, f0, f1, f2, f3, bW, sW⟩ := dboxes3 w a b c
  have hz := z4_wa
  have hsz := wa_size
  have hds : ∀ x, (da x).size = 32 := fun x => arr_size _ _ _
  replace sW := Nat.le_of_eq sW.symm
  go_enter Tryz.func5, Tryz.ntmps5
  go_upto_region 1 with fail
  try rw [hW]
  clear hW hz
  go_wp2_with (first | (refine wpList_load_row rfl 24 _ rfl _ rfl 24 _ (0, 0) _ (by assumption) Tryz.underlying24 rfl Tryz.infoWa ?_) | (go_at_call 8; refine (rtk_4 _).mono ?_; rintro e wx ⟨rfl, b1⟩; replace f0 := Below.stays b1 f0; replace f1 := Below.stays b1 f1; replace f2 := Below.stays b1 f2; replace f3 := Below.stays b1 f3; replace bW := bW.trans (b1.mono bW.size); replace sW := Nat.le_trans sW b1.size; clear b1) | (go_at_call 12; refine (low_4 a b c _).mono ?_; rintro e wx ⟨rfl, b1⟩; replace f0 := Below.stays b1 f0; replace f1 := Below.stays b1 f1; replace f2 := Below.stays b1 f2; replace f3 := Below.stays b1 f3; replace bW := bW.trans (b1.mono bW.size); replace sW := Nat.le_trans sW b1.size; clear b1) | (refine wpList_store_row rfl 24 (.tmp 8) _ rfl _ _ (wa (a % M / (b % M))) rfl rfl f3 Tryz.infoWa rfl wa_one ?_))
  have e2 := word_cells (blk_row (c' := wa (a % M / (b % M))) f3)
  exact bodyPost_ret (v := .tuple #[wd (a % M / (b % M)), .bool true]) (by simp [results, Tryz.results5, go_sem, e2, fold_wa]) rfl ⟨rfl, below_setRow bW (by omega) _⟩
set_option maxHeartbeats 8000000 in
theorem rdo_5 (a b c : Nat) (w : World) : Calls Tryz.prog 5 #[.int .u8 5, wd a, wd b, wd c] w fun e w' => e = .returned (.tuple #[wd (sq a b), .bool true]) ∧ Below w.heap.size w w' := by
  obtain ⟨W, hW, f0, f1, f2, f3, bW, sW⟩ := dboxes3 w a b c
  have hz := z4_wa
  have hsz := wa_size
  have hds : ∀ x, (da x).size = 32 := fun x => arr_size _ _ _
  replace sW := Nat.le_of_eq sW.symm
  go_enter Tryz.func5, Tryz.ntmps5
  go_upto_region 1 with fail
  try rw [hW]
  clear hW hz
  go_wp2_with (first | (refine wpList_load_row rfl 24 _ rfl _ rfl 24 _ (0, 0) _ (by assumption) Tryz.underlying24 rfl Tryz.infoWa ?_) | (go_at_call 8; refine (rtk_5 _).mono ?_; rintro e wx ⟨rfl, b1⟩; replace f0 := Below.stays b1 f0; replace f1 := Below.stays b1 f1; replace f2 := Below.stays b1 f2; replace f3 := Below.stays b1 f3; replace bW := bW.trans (b1.mono bW.size); replace sW := Nat.le_trans sW b1.size; clear b1) | (go_at_call 12; refine (low_5 a b c _).mono ?_; rintro e wx ⟨rfl, b1⟩; replace f0 := Below.stays b1 f0; replace f1 := Below.stays b1 f1; replace f2 := Below.stays b1 f2; replace f3 := Below.stays b1 f3; replace bW := bW.trans (b1.mono bW.size); replace sW := Nat.le_trans sW b1.size; clear b1) | (refine wpList_store_row rfl 24 (.tmp 8) _ rfl _ _ (wa (sq a b)) rfl rfl f3 Tryz.infoWa rfl wa_one ?_))
  have e2 := word_cells (blk_row (c' := wa (sq a b)) f3)
  exact bodyPost_ret (v := .tuple #[wd (sq a b), .bool true]) (by simp [results, Tryz.results5, go_sem, e2, fold_wa]) rfl ⟨rfl, below_setRow bW (by omega) _⟩
set_option maxHeartbeats 8000000 in
theorem rdo_6 (a b c : Nat) (w : World) : Calls Tryz.prog 5 #[.int .u8 6, wd a, wd b, wd c] w fun e w' => e = .returned (.tuple #[wd (rs (a % M) (b % M)), .bool true]) ∧ Below w.heap.size w w' := by
  obtain ⟨W, hW, f0, f1, f2, f3, bW, sW⟩ := dboxes3 w a b c
  have hz := z4_wa
  have hsz := wa_size
  have hds : ∀ x, (da x).size = 32 := fun x => arr_size _ _ _
  replace sW := Nat.le_of_eq sW.symm
  go_enter Tryz.func5, Tryz.ntmps5
  go_upto_region 1 with fail
  try rw [hW]
  clear hW hz
  go_wp2_with (first | (refine wpList_load_row rfl 24 _ rfl _ rfl 24 _ (0, 0) _ (by assumption) Tryz.underlying24 rfl Tryz.infoWa ?_) | (go_at_call 8; refine (rtk_6 _).mono ?_; rintro e wx ⟨rfl, b1⟩; replace f0 := Below.stays b1 f0; replace f1 := Below.stays b1 f1; replace f2 := Below.stays b1 f2; replace f3 := Below.stays b1 f3; replace bW := bW.trans (b1.mono bW.size); replace sW := Nat.le_trans sW b1.size; clear b1) | (go_at_call 12; refine (low_6 a b c _).mono ?_; rintro e wx ⟨rfl, b1⟩; replace f0 := Below.stays b1 f0; replace f1 := Below.stays b1 f1; replace f2 := Below.stays b1 f2; replace f3 := Below.stays b1 f3; replace bW := bW.trans (b1.mono bW.size); replace sW := Nat.le_trans sW b1.size; clear b1) | (refine wpList_store_row rfl 24 (.tmp 8) _ rfl _ _ (wa (rs (a % M) (b % M))) rfl rfl f3 Tryz.infoWa rfl wa_one ?_))
  have e2 := word_cells (blk_row (c' := wa (rs (a % M) (b % M))) f3)
  exact bodyPost_ret (v := .tuple #[wd (rs (a % M) (b % M)), .bool true]) (by simp [results, Tryz.results5, go_sem, e2, fold_wa]) rfl ⟨rfl, below_setRow bW (by omega) _⟩
set_option maxHeartbeats 8000000 in
theorem rdo_7 (a b c : Nat) (w : World) : Calls Tryz.prog 5 #[.int .u8 7, wd a, wd b, wd c] w fun e w' => e = .returned (.tuple #[wd (sr a b), .bool true]) ∧ Below w.heap.size w w' := by
  obtain ⟨W, hW, f0, f1, f2, f3, bW, sW⟩ := dboxes3 w a b c
  have hz := z4_wa
  have hsz := wa_size
  have hds : ∀ x, (da x).size = 32 := fun x => arr_size _ _ _
  replace sW := Nat.le_of_eq sW.symm
  go_enter Tryz.func5, Tryz.ntmps5
  go_upto_region 1 with fail
  try rw [hW]
  clear hW hz
  go_wp2_with (first | (refine wpList_load_row rfl 24 _ rfl _ rfl 24 _ (0, 0) _ (by assumption) Tryz.underlying24 rfl Tryz.infoWa ?_) | (go_at_call 8; refine (rtk_7 _).mono ?_; rintro e wx ⟨rfl, b1⟩; replace f0 := Below.stays b1 f0; replace f1 := Below.stays b1 f1; replace f2 := Below.stays b1 f2; replace f3 := Below.stays b1 f3; replace bW := bW.trans (b1.mono bW.size); replace sW := Nat.le_trans sW b1.size; clear b1) | (go_at_call 12; refine (low_7 a b c _).mono ?_; rintro e wx ⟨rfl, b1⟩; replace f0 := Below.stays b1 f0; replace f1 := Below.stays b1 f1; replace f2 := Below.stays b1 f2; replace f3 := Below.stays b1 f3; replace bW := bW.trans (b1.mono bW.size); replace sW := Nat.le_trans sW b1.size; clear b1) | (refine wpList_store_row rfl 24 (.tmp 8) _ rfl _ _ (wa (sr a b)) rfl rfl f3 Tryz.infoWa rfl wa_one ?_))
  have e2 := word_cells (blk_row (c' := wa (sr a b)) f3)
  exact bodyPost_ret (v := .tuple #[wd (sr a b), .bool true]) (by simp [results, Tryz.results5, go_sem, e2, fold_wa]) rfl ⟨rfl, below_setRow bW (by omega) _⟩
set_option maxHeartbeats 8000000 in
theorem rdo_8 (a b c : Nat) (w : World) : Calls Tryz.prog 5 #[.int .u8 8, wd a, wd b, wd c] w fun e w' => e = .returned (.tuple #[wd (rs (a % M + b % M) (c % M)), .bool true]) ∧ Below w.heap.size w w' := by
  obtain ⟨W, hW, f0, f1, f2, f3, bW, sW⟩ := dboxes3 w a b c
  have hz := z4_wa
  have hsz := wa_size
  have hds : ∀ x, (da x).size = 32 := fun x => arr_size _ _ _
  replace sW := Nat.le_of_eq sW.symm
  go_enter Tryz.func5, Tryz.ntmps5
  go_upto_region 1 with fail
  try rw [hW]
  clear hW hz
  go_wp2_with (first | (refine wpList_load_row rfl 24 _ rfl _ rfl 24 _ (0, 0) _ (by assumption) Tryz.underlying24 rfl Tryz.infoWa ?_) | (go_at_call 8; refine (rtk_8 _).mono ?_; rintro e wx ⟨rfl, b1⟩; replace f0 := Below.stays b1 f0; replace f1 := Below.stays b1 f1; replace f2 := Below.stays b1 f2; replace f3 := Below.stays b1 f3; replace bW := bW.trans (b1.mono bW.size); replace sW := Nat.le_trans sW b1.size; clear b1) | (go_at_call 12; refine (low_8 a b c _).mono ?_; rintro e wx ⟨rfl, b1⟩; replace f0 := Below.stays b1 f0; replace f1 := Below.stays b1 f1; replace f2 := Below.stays b1 f2; replace f3 := Below.stays b1 f3; replace bW := bW.trans (b1.mono bW.size); replace sW := Nat.le_trans sW b1.size; clear b1) | (refine wpList_store_row rfl 24 (.tmp 8) _ rfl _ _ (wa (rs (a % M + b % M) (c % M))) rfl rfl f3 Tryz.infoWa rfl wa_one ?_))
  have e2 := word_cells (blk_row (c' := wa (rs (a % M + b % M) (c % M))) f3)
  exact bodyPost_ret (v := .tuple #[wd (rs (a % M + b % M) (c % M)), .bool true]) (by simp [results, Tryz.results5, go_sem, e2, fold_wa]) rfl ⟨rfl, below_setRow bW (by omega) _⟩
set_option maxHeartbeats 8000000 in
theorem rdo_9 (a b c : Nat) (w : World) : Calls Tryz.prog 5 #[.int .u8 9, wd a, wd b, wd c] w fun e w' => e = .returned (.tuple #[wd (rs (a % M * (b % M)) (c % M)), .bool true]) ∧ Below w.heap.size w w' := by
  obtain ⟨W, hW, f0, f1, f2, f3, bW, sW⟩ := dboxes3 w a b c
  have hz := z4_wa
  have hsz := wa_size
  have hds : ∀ x, (da x).size = 32 := fun x => arr_size _ _ _
  replace sW := Nat.le_of_eq sW.symm
  go_enter Tryz.func5, Tryz.ntmps5
  go_upto_region 1 with fail
  try rw [hW]
  clear hW hz
  go_wp2_with (first | (refine wpList_load_row rfl 24 _ rfl _ rfl 24 _ (0, 0) _ (by assumption) Tryz.underlying24 rfl Tryz.infoWa ?_) | (go_at_call 8; refine (rtk_9 _).mono ?_; rintro e wx ⟨rfl, b1⟩; replace f0 := Below.stays b1 f0; replace f1 := Below.stays b1 f1; replace f2 := Below.stays b1 f2; replace f3 := Below.stays b1 f3; replace bW := bW.trans (b1.mono bW.size); replace sW := Nat.le_trans sW b1.size; clear b1) | (go_at_call 12; refine (low_9 a b c _).mono ?_; rintro e wx ⟨rfl, b1⟩; replace f0 := Below.stays b1 f0; replace f1 := Below.stays b1 f1; replace f2 := Below.stays b1 f2; replace f3 := Below.stays b1 f3; replace bW := bW.trans (b1.mono bW.size); replace sW := Nat.le_trans sW b1.size; clear b1) | (refine wpList_store_row rfl 24 (.tmp 8) _ rfl _ _ (wa (rs (a % M * (b % M)) (c % M))) rfl rfl f3 Tryz.infoWa rfl wa_one ?_))
  have e2 := word_cells (blk_row (c' := wa (rs (a % M * (b % M)) (c % M))) f3)
  exact bodyPost_ret (v := .tuple #[wd (rs (a % M * (b % M)) (c % M)), .bool true]) (by simp [results, Tryz.results5, go_sem, e2, fold_wa]) rfl ⟨rfl, below_setRow bW (by omega) _⟩
set_option maxHeartbeats 8000000 in
theorem rdo_10 (a b c : Nat) (w : World) : Calls Tryz.prog 5 #[.int .u8 10, wd a, wd b, wd c] w fun e w' => e = .returned (.tuple #[wd (a ^ (b % M)), .bool true]) ∧ Below w.heap.size w w' := by
  obtain ⟨W, hW, f0, f1, f2, f3, bW, sW⟩ := dboxes3 w a b c
  have hz := z4_wa
  have hsz := wa_size
  have hds : ∀ x, (da x).size = 32 := fun x => arr_size _ _ _
  replace sW := Nat.le_of_eq sW.symm
  go_enter Tryz.func5, Tryz.ntmps5
  go_upto_region 1 with fail
  try rw [hW]
  clear hW hz
  go_wp2_with (first | (refine wpList_load_row rfl 24 _ rfl _ rfl 24 _ (0, 0) _ (by assumption) Tryz.underlying24 rfl Tryz.infoWa ?_) | (go_at_call 8; refine (rtk_10 _).mono ?_; rintro e wx ⟨rfl, b1⟩; replace f0 := Below.stays b1 f0; replace f1 := Below.stays b1 f1; replace f2 := Below.stays b1 f2; replace f3 := Below.stays b1 f3; replace bW := bW.trans (b1.mono bW.size); replace sW := Nat.le_trans sW b1.size; clear b1) | (go_at_call 12; refine (low_10 a b c _).mono ?_; rintro e wx ⟨rfl, b1⟩; replace f0 := Below.stays b1 f0; replace f1 := Below.stays b1 f1; replace f2 := Below.stays b1 f2; replace f3 := Below.stays b1 f3; replace bW := bW.trans (b1.mono bW.size); replace sW := Nat.le_trans sW b1.size; clear b1) | (refine wpList_store_row rfl 24 (.tmp 8) _ rfl _ _ (wa (a ^ (b % M))) rfl rfl f3 Tryz.infoWa rfl wa_one ?_))
  have e2 := word_cells (blk_row (c' := wa (a ^ (b % M))) f3)
  exact bodyPost_ret (v := .tuple #[wd (a ^ (b % M)), .bool true]) (by simp [results, Tryz.results5, go_sem, e2, fold_wa]) rfl ⟨rfl, below_setRow bW (by omega) _⟩
set_option maxHeartbeats 8000000 in
theorem rdo_11 (a b c : Nat) (w : World) : Calls Tryz.prog 5 #[.int .u8 11, wd a, wd b, wd c] w fun e w' => e = .returned (.tuple #[wd (exn a b), .bool true]) ∧ Below w.heap.size w w' := by
  obtain ⟨W, hW, f0, f1, f2, f3, bW, sW⟩ := dboxes3 w a b c
  have hz := z4_wa
  have hsz := wa_size
  have hds : ∀ x, (da x).size = 32 := fun x => arr_size _ _ _
  replace sW := Nat.le_of_eq sW.symm
  go_enter Tryz.func5, Tryz.ntmps5
  go_upto_region 1 with fail
  try rw [hW]
  clear hW hz
  go_wp2_with (first | (refine wpList_load_row rfl 24 _ rfl _ rfl 24 _ (0, 0) _ (by assumption) Tryz.underlying24 rfl Tryz.infoWa ?_) | (go_at_call 8; refine (rtk_11 _).mono ?_; rintro e wx ⟨rfl, b1⟩; replace f0 := Below.stays b1 f0; replace f1 := Below.stays b1 f1; replace f2 := Below.stays b1 f2; replace f3 := Below.stays b1 f3; replace bW := bW.trans (b1.mono bW.size); replace sW := Nat.le_trans sW b1.size; clear b1) | (go_at_call 12; refine (low_11 a b c _).mono ?_; rintro e wx ⟨rfl, b1⟩; replace f0 := Below.stays b1 f0; replace f1 := Below.stays b1 f1; replace f2 := Below.stays b1 f2; replace f3 := Below.stays b1 f3; replace bW := bW.trans (b1.mono bW.size); replace sW := Nat.le_trans sW b1.size; clear b1) | (refine wpList_store_row rfl 24 (.tmp 8) _ rfl _ _ (wa (exn a b)) rfl rfl f3 Tryz.infoWa rfl wa_one ?_))
  have e2 := word_cells (blk_row (c' := wa (exn a b)) f3)
  exact bodyPost_ret (v := .tuple #[wd (exn a b), .bool true]) (by simp [results, Tryz.results5, go_sem, e2, fold_wa]) rfl ⟨rfl, below_setRow bW (by omega) _⟩
end Go.Proofs.YtdpbjdecbilaeaaGreat
/- Stage 17: the document's Do, the bytes from LT on. -/
namespace Go.Proofs.YtdpbjdecbilaeaaGreat
open Go.RowKit SmWord
set_option maxRecDepth 100000

theorem bitN_toNat (x i : Nat) : bitN x i = (x.testBit i).toNat := (Nat.toNat_testBit x i).symm
theorem l_mod (m : Nat) : l0 (m % M) = l0 m ∧ l1 (m % M) = l1 m ∧ l2 (m % M) = l2 m ∧ l3 (m % M) = l3 m := parts_congr (Nat.mod_mod m M)
theorem and_parts (x y : Nat) : l0 (x &&& y) = l0 x &&& l0 y ∧ l1 (x &&& y) = l1 x &&& l1 y ∧ l2 (x &&& y) = l2 x &&& l2 y ∧ l3 (x &&& y) = l3 x &&& l3 y := by
  have hB : B = 2 ^ 64 := rfl
  unfold l0 l1 l2 l3
  simp only [hB, Nat.and_div_two_pow, Nat.and_mod_two_pow]
  exact ⟨trivial, trivial, trivial, trivial⟩
theorem or_parts (x y : Nat) : l0 (x ||| y) = l0 x ||| l0 y ∧ l1 (x ||| y) = l1 x ||| l1 y ∧ l2 (x ||| y) = l2 x ||| l2 y ∧ l3 (x ||| y) = l3 x ||| l3 y := by
  have hB : B = 2 ^ 64 := rfl
  unfold l0 l1 l2 l3
  simp only [hB, Nat.or_div_two_pow, Nat.or_mod_two_pow]
  exact ⟨trivial, trivial, trivial, trivial⟩
theorem xor_parts (x y : Nat) : l0 (x ^^^ y) = l0 x ^^^ l0 y ∧ l1 (x ^^^ y) = l1 x ^^^ l1 y ∧ l2 (x ^^^ y) = l2 x ^^^ l2 y ∧ l3 (x ^^^ y) = l3 x ^^^ l3 y := by
  have hB : B = 2 ^ 64 := rfl
  unfold l0 l1 l2 l3
  simp only [hB, Nat.xor_div_two_pow, Nat.xor_mod_two_pow]
  exact ⟨trivial, trivial, trivial, trivial⟩
theorem and_num (m n : Nat) : num (l0 m &&& l0 n) (l1 m &&& l1 n) (l2 m &&& l2 n) (l3 m &&& l3 n) % M = (m % M &&& n % M) % M := by
  obtain ⟨h0, h1, h2, h3⟩ := and_parts (m % M) (n % M)
  obtain ⟨m0, m1, m2, m3⟩ := l_mod m
  obtain ⟨n0, n1, n2, n3⟩ := l_mod n
  rw [← num_parts (m % M &&& n % M), h0, h1, h2, h3, m0, m1, m2, m3, n0, n1, n2, n3]
  exact Nat.mod_eq_of_lt (num_lt (Nat.and_lt_two_pow _ (n := 64) (l_lt n).1) (Nat.and_lt_two_pow _ (n := 64) (l_lt n).2.1) (Nat.and_lt_two_pow _ (n := 64) (l_lt n).2.2.1) (Nat.and_lt_two_pow _ (n := 64) (l_lt n).2.2.2))
theorem or_num (m n : Nat) : num (l0 m ||| l0 n) (l1 m ||| l1 n) (l2 m ||| l2 n) (l3 m ||| l3 n) % M = (m % M ||| n % M) % M := by
  obtain ⟨h0, h1, h2, h3⟩ := or_parts (m % M) (n % M)
  obtain ⟨m0, m1, m2, m3⟩ := l_mod m
  obtain ⟨n0, n1, n2, n3⟩ := l_mod n
  rw [← num_parts (m % M ||| n % M), h0, h1, h2, h3, m0, m1, m2, m3, n0, n1, n2, n3]
  exact Nat.mod_eq_of_lt (num_lt (Nat.or_lt_two_pow (n := 64) (l_lt m).1 (l_lt n).1) (Nat.or_lt_two_pow (n := 64) (l_lt m).2.1 (l_lt n).2.1) (Nat.or_lt_two_pow (n := 64) (l_lt m).2.2.1 (l_lt n).2.2.1) (Nat.or_lt_two_pow (n := 64) (l_lt m).2.2.2 (l_lt n).2.2.2))
theorem xor_num (m n : Nat) : num (l0 m ^^^ l0 n) (l1 m ^^^ l1 n) (l2 m ^^^ l2 n) (l3 m ^^^ l3 n) % M = (m % M ^^^ n % M) % M := by
  obtain ⟨h0, h1, h2, h3⟩ := xor_parts (m % M) (n % M)
  obtain ⟨m0, m1, m2, m3⟩ := l_mod m
  obtain ⟨n0, n1, n2, n3⟩ := l_mod n
  rw [← num_parts (m % M ^^^ n % M), h0, h1, h2, h3, m0, m1, m2, m3, n0, n1, n2, n3]
  exact Nat.mod_eq_of_lt (num_lt (Nat.xor_lt_two_pow (n := 64) (l_lt m).1 (l_lt n).1) (Nat.xor_lt_two_pow (n := 64) (l_lt m).2.1 (l_lt n).2.1) (Nat.xor_lt_two_pow (n := 64) (l_lt m).2.2.1 (l_lt n).2.2.1) (Nat.xor_lt_two_pow (n := 64) (l_lt m).2.2.2 (l_lt n).2.2.2))
theorem and_bits (m n : Nat) : ∀ i : Nat, i < 256 → bitN (m % M &&& n % M) i = if bitN m i + bitN n i = 2 then 1 else 0 := fun i hi => by
  rw [← bit_congr (Nat.mod_mod m M) hi, ← bit_congr (Nat.mod_mod n M) hi, bitN_toNat, bitN_toNat, bitN_toNat, Nat.testBit_and]
  cases (m % M).testBit i <;> cases (n % M).testBit i <;> rfl
theorem or_bits (m n : Nat) : ∀ i : Nat, i < 256 → bitN (m % M ||| n % M) i = if 0 < bitN m i + bitN n i then 1 else 0 := fun i hi => by
  rw [← bit_congr (Nat.mod_mod m M) hi, ← bit_congr (Nat.mod_mod n M) hi, bitN_toNat, bitN_toNat, bitN_toNat, Nat.testBit_or]
  cases (m % M).testBit i <;> cases (n % M).testBit i <;> rfl
theorem xor_bits (m n : Nat) : ∀ i : Nat, i < 256 → bitN (m % M ^^^ n % M) i = if bitN m i + bitN n i = 1 then 1 else 0 := fun i hi => by
  rw [← bit_congr (Nat.mod_mod m M) hi, ← bit_congr (Nat.mod_mod n M) hi, bitN_toNat, bitN_toNat, bitN_toNat, Nat.testBit_xor]
  cases (m % M).testBit i <;> cases (n % M).testBit i <;> rfl
theorem not_bits (m : Nat) : ∀ i : Nat, i < 256 → bitN (M - 1 - m % M) i = if bitN m i + bitN kAll i = 1 then 1 else 0 := fun i hi => by
  have hlt : m % M < 2 ^ 256 := by rw [← M_2]; exact Nat.mod_lt _ (by decide)
  have h1 : (M - 1 - m % M).testBit i = (decide (i < 256) && !(m % M).testBit i) := by
    rw [← Nat.testBit_two_pow_sub_succ hlt i, ← M_2]; congr 1; omega
  have h2 : kAll.testBit i = decide (i < 256) := by
    have := Nat.testBit_two_pow_sub_one 256 i
    rw [← M_2] at this
    exact this
  rw [← bit_congr (Nat.mod_mod m M) hi, bitN_toNat, bitN_toNat, bitN_toNat, h1, h2]
  simp only [hi, decide_true, Bool.true_and]
  cases (m % M).testBit i <;> rfl
theorem up_bits (a k : Nat) : ∀ i : Nat, i < 256 → bitI a ((i : Int) - (k : Int)) = ((bitN (a % M * 2 ^ k) i : Nat) : Int) := fun i hi => by
  unfold bitI
  by_cases h : i < k
  · rw [if_pos (.inl (by omega)), bit_up_low _ _ _ h]; rfl
  · rw [if_neg (by omega), bit_up _ _ _ (by omega), show ((i : Int) - (k : Int)).toNat = i - k by omega, bit_congr (Nat.mod_mod a M) (by omega)]
theorem down_bits (a k : Nat) : ∀ i : Nat, i < 256 → bitI a ((i : Int) - -(k : Int)) = ((bitN (a % M / 2 ^ k) i : Nat) : Int) := fun i hi => by
  unfold bitI
  rw [bit_down]
  by_cases h : i + k < 256
  · rw [if_neg (by omega), show ((i : Int) - -(k : Int)).toNat = i + k by omega, bit_congr (Nat.mod_mod a M) h]
  · rw [if_pos (.inr (by omega)), bitN_high (Nat.mod_lt _ (by decide)) (by omega)]; rfl
theorem wd_small {n : Nat} (hn : n < B) : wa n = #[.int .u64 (n : Int), .int .u64 0, .int .u64 0, .int .u64 0] := by
  have := wd_num (a := n) (b := 0) (c := 0) (d := 0) hn (by decide) (by decide) (by decide)
  have h2 : wd n = .agg #[.int .u64 (n : Int), .int .u64 0, .int .u64 0, .int .u64 0] := by simpa [num] using this
  unfold wd at h2
  injection h2

set_option maxHeartbeats 8000000 in
theorem rdo_16_walk (a b c : Nat) (z : Int) (w : World) (H : Hid (∀ w : World, Calls Tryz.prog 16 #[.agg (da a), .agg (da b)] w fun e w' => e = .returned (.int .i64 z) ∧ Below w.heap.size w w')) : Calls Tryz.prog 5 #[.int .u8 16, wd a, wd b, wd c] w fun e w' => e = .returned (.tuple #[wd (fl (decide (z < 0))), .bool true]) ∧ Below w.heap.size w w' := by
  obtain ⟨W, hW, f0, f1, f2, f3, bW, sW⟩ := dboxes3 w a b c
  have hz := z4_wa
  have hsz := wa_size
  have hds : ∀ x, (da x).size = 32 := fun x => arr_size _ _ _
  replace sW := Nat.le_of_eq sW.symm
  go_enter Tryz.func5, Tryz.ntmps5
  go_upto_region 1 with fail
  try rw [hW]
  clear hW hz
  go_upto_region 5 with (go_at_call 8; refine (rtk_16 _).mono ?_; rintro e wx ⟨rfl, b1⟩; replace f0 := Below.stays b1 f0; replace f1 := Below.stays b1 f1; replace f2 := Below.stays b1 f2; replace f3 := Below.stays b1 f3; replace bW := bW.trans (b1.mono bW.size); replace sW := Nat.le_trans sW b1.size; clear b1)
  go_upto_region 6 with (first | (refine wpList_load_row rfl 24 _ rfl _ rfl 24 _ (0, 0) _ (by assumption) Tryz.underlying24 rfl Tryz.infoWa ?_) | (go_at_call 13; refine (of_ref a _).mono ?_; rintro e w1 ⟨rfl, b1⟩; replace f0 := Below.stays b1 f0; replace f1 := Below.stays b1 f1; replace f2 := Below.stays b1 f2; replace f3 := Below.stays b1 f3; replace bW := bW.trans (b1.mono bW.size); replace sW := Nat.le_trans sW b1.size; clear b1) | (refine wpList_alloc_row rfl 39 rfl zD zD_run ?_) | (refine wpList_store_row rfl 39 (.tmp 10) _ rfl _ zD (da a) rfl rfl (heap_alloc_new _ _) (infoArr _) rfl (arr_one _ _ _) ?_))
  simp only [Act.put, List.setIfInBounds_toArray, List.set_cons_succ, List.set_cons_zero]
  rw [World.setRow_alloc_new]
  replace f0 := blk_alloc (o' := .cells (da a) 39) f0
  replace f1 := blk_alloc (o' := .cells (da a) 39) f1
  replace f2 := blk_alloc (o' := .cells (da a) 39) f2
  replace f3 := blk_alloc (o' := .cells (da a) 39) f3
  have f10 : (w1.alloc (.cells (da a) 39)).heap[w1.heap.size]? = some (.cells (da a) 39) := heap_alloc_new _ _
  replace bW : Below w.heap.size w (w1.alloc (.cells (da a) 39)) := bW.alloc (by omega) _
  replace sW : w.heap.size + 4 ≤ (w1.alloc (.cells (da a) 39)).heap.size := by simp; omega
  generalize (w1.alloc (.cells (da a) 39)) = w2 at *
  generalize w1.heap.size = p10 at *
  go_upto_region 7 with (first | (refine wpList_load_row rfl 24 _ rfl _ rfl 24 _ (0, 0) _ (by assumption) Tryz.underlying24 rfl Tryz.infoWa ?_) | (go_at_call 13; refine (of_ref b _).mono ?_; rintro e w3 ⟨rfl, b1⟩; replace f0 := Below.stays b1 f0; replace f1 := Below.stays b1 f1; replace f2 := Below.stays b1 f2; replace f3 := Below.stays b1 f3; replace f10 := Below.stays b1 f10; replace bW := bW.trans (b1.mono bW.size); replace sW := Nat.le_trans sW b1.size; clear b1) | (refine wpList_alloc_row rfl 39 rfl zD zD_run ?_) | (refine wpList_store_row rfl 39 (.tmp 11) _ rfl _ zD (da b) rfl rfl (heap_alloc_new _ _) (infoArr _) rfl (arr_one _ _ _) ?_))
  simp only [Act.put, List.setIfInBounds_toArray, List.set_cons_succ, List.set_cons_zero]
  rw [World.setRow_alloc_new]
  replace f0 := blk_alloc (o' := .cells (da b) 39) f0
  replace f1 := blk_alloc (o' := .cells (da b) 39) f1
  replace f2 := blk_alloc (o' := .cells (da b) 39) f2
  replace f3 := blk_alloc (o' := .cells (da b) 39) f3
  replace f10 := blk_alloc (o' := .cells (da b) 39) f10
  have f11 : (w3.alloc (.cells (da b) 39)).heap[w3.heap.size]? = some (.cells (da b) 39) := heap_alloc_new _ _
  replace bW : Below w.heap.size w (w3.alloc (.cells (da b) 39)) := bW.alloc (by omega) _
  replace sW : w.heap.size + 4 ≤ (w3.alloc (.cells (da b) 39)).heap.size := by simp; omega
  generalize (w3.alloc (.cells (da b) 39)) = w4 at *
  generalize w3.heap.size = p11 at *
  go_upto_region 8 with (first | (refine wpList_build_one rfl rfl ?_) | (go_at_call 14; refine (neg_ref 1 _).mono ?_; rintro e w5 ⟨rfl, b1⟩; replace f0 := Below.stays b1 f0; replace f1 := Below.stays b1 f1; replace f2 := Below.stays b1 f2; replace f3 := Below.stays b1 f3; replace f10 := Below.stays b1 f10; replace f11 := Below.stays b1 f11; replace bW := bW.trans (b1.mono bW.size); replace sW := Nat.le_trans sW b1.size; clear b1) | (refine wpList_alloc_row rfl 39 rfl zD zD_run ?_) | (refine wpList_store_row rfl 39 (.tmp 12) _ rfl _ zD (da (M - 1 - 1 % M + 1)) rfl rfl (heap_alloc_new _ _) (infoArr _) rfl (arr_one _ _ _) ?_))
  simp only [Act.put, List.setIfInBounds_toArray, List.set_cons_succ, List.set_cons_zero]
  rw [World.setRow_alloc_new]
  replace f0 := blk_alloc (o' := .cells (da (M - 1 - 1 % M + 1)) 39) f0
  replace f1 := blk_alloc (o' := .cells (da (M - 1 - 1 % M + 1)) 39) f1
  replace f2 := blk_alloc (o' := .cells (da (M - 1 - 1 % M + 1)) 39) f2
  replace f3 := blk_alloc (o' := .cells (da (M - 1 - 1 % M + 1)) 39) f3
  replace f10 := blk_alloc (o' := .cells (da (M - 1 - 1 % M + 1)) 39) f10
  replace f11 := blk_alloc (o' := .cells (da (M - 1 - 1 % M + 1)) 39) f11
  have f12 : (w5.alloc (.cells (da (M - 1 - 1 % M + 1)) 39)).heap[w5.heap.size]? = some (.cells (da (M - 1 - 1 % M + 1)) 39) := heap_alloc_new _ _
  replace bW : Below w.heap.size w (w5.alloc (.cells (da (M - 1 - 1 % M + 1)) 39)) := bW.alloc (by omega) _
  replace sW : w.heap.size + 4 ≤ (w5.alloc (.cells (da (M - 1 - 1 % M + 1)) 39)).heap.size := by simp; omega
  generalize (w5.alloc (.cells (da (M - 1 - 1 % M + 1)) 39)) = w6 at *
  generalize w5.heap.size = p12 at *
  go_wp2_with (first | (refine wpList_load_row rfl 39 _ rfl _ rfl 39 (da a) (0, 0) _ f10 Tryz.underlying39 rfl (infoArr _) ?_) | (refine wpList_load_row rfl 39 _ rfl _ rfl 39 (da b) (0, 0) _ f11 Tryz.underlying39 rfl (infoArr _) ?_) | (refine wpList_load_row rfl 39 _ rfl _ rfl 39 (da (M - 1 - 1 % M + 1)) (0, 0) _ f12 Tryz.underlying39 rfl (infoArr _) ?_) | (go_at_call 16; refine (H.out _).mono ?_; rintro e wx ⟨rfl, b1⟩; replace f0 := Below.stays b1 f0; replace f1 := Below.stays b1 f1; replace f2 := Below.stays b1 f2; replace f3 := Below.stays b1 f3; replace f10 := Below.stays b1 f10; replace f11 := Below.stays b1 f11; replace f12 := Below.stays b1 f12; replace bW := bW.trans (b1.mono bW.size); replace sW := Nat.le_trans sW b1.size; clear b1) | (go_at_call 15; refine (rtruth _ _).mono ?_; rintro e wx ⟨rfl, b1⟩; replace f0 := Below.stays b1 f0; replace f1 := Below.stays b1 f1; replace f2 := Below.stays b1 f2; replace f3 := Below.stays b1 f3; replace f10 := Below.stays b1 f10; replace f11 := Below.stays b1 f11; replace f12 := Below.stays b1 f12; replace bW := bW.trans (b1.mono bW.size); replace sW := Nat.le_trans sW b1.size; clear b1) | (refine wpList_store_row rfl 24 (.tmp 8) _ rfl _ _ (wa (fl (decide (z < 0)))) rfl rfl f3 Tryz.infoWa rfl wa_one ?_))
  have e2 := word_cells (blk_row (c' := wa (fl (decide (z < 0)))) f3)
  exact bodyPost_ret (v := .tuple #[wd (fl (decide (z < 0))), .bool true]) (by simp [results, Tryz.results5, go_sem, e2, fold_wa]) rfl ⟨rfl, below_setRow bW (by omega) _⟩
set_option maxHeartbeats 8000000 in
theorem rdo_17_walk (a b c : Nat) (z : Int) (w : World) (H : Hid (∀ w : World, Calls Tryz.prog 16 #[.agg (da a), .agg (da b)] w fun e w' => e = .returned (.int .i64 z) ∧ Below w.heap.size w w')) : Calls Tryz.prog 5 #[.int .u8 17, wd a, wd b, wd c] w fun e w' => e = .returned (.tuple #[wd (fl (decide (0 < z))), .bool true]) ∧ Below w.heap.size w w' := by
  obtain ⟨W, hW, f0, f1, f2, f3, bW, sW⟩ := dboxes3 w a b c
  have hz := z4_wa
  have hsz := wa_size
  have hds : ∀ x, (da x).size = 32 := fun x => arr_size _ _ _
  replace sW := Nat.le_of_eq sW.symm
  go_enter Tryz.func5, Tryz.ntmps5
  go_upto_region 1 with fail
  try rw [hW]
  clear hW hz
  go_upto_region 5 with (go_at_call 8; refine (rtk_17 _).mono ?_; rintro e wx ⟨rfl, b1⟩; replace f0 := Below.stays b1 f0; replace f1 := Below.stays b1 f1; replace f2 := Below.stays b1 f2; replace f3 := Below.stays b1 f3; replace bW := bW.trans (b1.mono bW.size); replace sW := Nat.le_trans sW b1.size; clear b1)
  go_upto_region 6 with (first | (refine wpList_load_row rfl 24 _ rfl _ rfl 24 _ (0, 0) _ (by assumption) Tryz.underlying24 rfl Tryz.infoWa ?_) | (go_at_call 13; refine (of_ref a _).mono ?_; rintro e w1 ⟨rfl, b1⟩; replace f0 := Below.stays b1 f0; replace f1 := Below.stays b1 f1; replace f2 := Below.stays b1 f2; replace f3 := Below.stays b1 f3; replace bW := bW.trans (b1.mono bW.size); replace sW := Nat.le_trans sW b1.size; clear b1) | (refine wpList_alloc_row rfl 39 rfl zD zD_run ?_) | (refine wpList_store_row rfl 39 (.tmp 10) _ rfl _ zD (da a) rfl rfl (heap_alloc_new _ _) (infoArr _) rfl (arr_one _ _ _) ?_))
  simp only [Act.put, List.setIfInBounds_toArray, List.set_cons_succ, List.set_cons_zero]
  rw [World.setRow_alloc_new]
  replace f0 := blk_alloc (o' := .cells (da a) 39) f0
  replace f1 := blk_alloc (o' := .cells (da a) 39) f1
  replace f2 := blk_alloc (o' := .cells (da a) 39) f2
  replace f3 := blk_alloc (o' := .cells (da a) 39) f3
  have f10 : (w1.alloc (.cells (da a) 39)).heap[w1.heap.size]? = some (.cells (da a) 39) := heap_alloc_new _ _
  replace bW : Below w.heap.size w (w1.alloc (.cells (da a) 39)) := bW.alloc (by omega) _
  replace sW : w.heap.size + 4 ≤ (w1.alloc (.cells (da a) 39)).heap.size := by simp; omega
  generalize (w1.alloc (.cells (da a) 39)) = w2 at *
  generalize w1.heap.size = p10 at *
  go_upto_region 7 with (first | (refine wpList_load_row rfl 24 _ rfl _ rfl 24 _ (0, 0) _ (by assumption) Tryz.underlying24 rfl Tryz.infoWa ?_) | (go_at_call 13; refine (of_ref b _).mono ?_; rintro e w3 ⟨rfl, b1⟩; replace f0 := Below.stays b1 f0; replace f1 := Below.stays b1 f1; replace f2 := Below.stays b1 f2; replace f3 := Below.stays b1 f3; replace f10 := Below.stays b1 f10; replace bW := bW.trans (b1.mono bW.size); replace sW := Nat.le_trans sW b1.size; clear b1) | (refine wpList_alloc_row rfl 39 rfl zD zD_run ?_) | (refine wpList_store_row rfl 39 (.tmp 11) _ rfl _ zD (da b) rfl rfl (heap_alloc_new _ _) (infoArr _) rfl (arr_one _ _ _) ?_))
  simp only [Act.put, List.setIfInBounds_toArray, List.set_cons_succ, List.set_cons_zero]
  rw [World.setRow_alloc_new]
  replace f0 := blk_alloc (o' := .cells (da b) 39) f0
  replace f1 := blk_alloc (o' := .cells (da b) 39) f1
  replace f2 := blk_alloc (o' := .cells (da b) 39) f2
  replace f3 := blk_alloc (o' := .cells (da b) 39) f3
  replace f10 := blk_alloc (o' := .cells (da b) 39) f10
  have f11 : (w3.alloc (.cells (da b) 39)).heap[w3.heap.size]? = some (.cells (da b) 39) := heap_alloc_new _ _
  replace bW : Below w.heap.size w (w3.alloc (.cells (da b) 39)) := bW.alloc (by omega) _
  replace sW : w.heap.size + 4 ≤ (w3.alloc (.cells (da b) 39)).heap.size := by simp; omega
  generalize (w3.alloc (.cells (da b) 39)) = w4 at *
  generalize w3.heap.size = p11 at *
  go_upto_region 8 with (first | (refine wpList_build_one rfl rfl ?_) | (go_at_call 14; refine (neg_ref 1 _).mono ?_; rintro e w5 ⟨rfl, b1⟩; replace f0 := Below.stays b1 f0; replace f1 := Below.stays b1 f1; replace f2 := Below.stays b1 f2; replace f3 := Below.stays b1 f3; replace f10 := Below.stays b1 f10; replace f11 := Below.stays b1 f11; replace bW := bW.trans (b1.mono bW.size); replace sW := Nat.le_trans sW b1.size; clear b1) | (refine wpList_alloc_row rfl 39 rfl zD zD_run ?_) | (refine wpList_store_row rfl 39 (.tmp 12) _ rfl _ zD (da (M - 1 - 1 % M + 1)) rfl rfl (heap_alloc_new _ _) (infoArr _) rfl (arr_one _ _ _) ?_))
  simp only [Act.put, List.setIfInBounds_toArray, List.set_cons_succ, List.set_cons_zero]
  rw [World.setRow_alloc_new]
  replace f0 := blk_alloc (o' := .cells (da (M - 1 - 1 % M + 1)) 39) f0
  replace f1 := blk_alloc (o' := .cells (da (M - 1 - 1 % M + 1)) 39) f1
  replace f2 := blk_alloc (o' := .cells (da (M - 1 - 1 % M + 1)) 39) f2
  replace f3 := blk_alloc (o' := .cells (da (M - 1 - 1 % M + 1)) 39) f3
  replace f10 := blk_alloc (o' := .cells (da (M - 1 - 1 % M + 1)) 39) f10
  replace f11 := blk_alloc (o' := .cells (da (M - 1 - 1 % M + 1)) 39) f11
  have f12 : (w5.alloc (.cells (da (M - 1 - 1 % M + 1)) 39)).heap[w5.heap.size]? = some (.cells (da (M - 1 - 1 % M + 1)) 39) := heap_alloc_new _ _
  replace bW : Below w.heap.size w (w5.alloc (.cells (da (M - 1 - 1 % M + 1)) 39)) := bW.alloc (by omega) _
  replace sW : w.heap.size + 4 ≤ (w5.alloc (.cells (da (M - 1 - 1 % M + 1)) 39)).heap.size := by simp; omega
  generalize (w5.alloc (.cells (da (M - 1 - 1 % M + 1)) 39)) = w6 at *
  generalize w5.heap.size = p12 at *
  go_wp2_with (first | (refine wpList_load_row rfl 39 _ rfl _ rfl 39 (da a) (0, 0) _ f10 Tryz.underlying39 rfl (infoArr _) ?_) | (refine wpList_load_row rfl 39 _ rfl _ rfl 39 (da b) (0, 0) _ f11 Tryz.underlying39 rfl (infoArr _) ?_) | (refine wpList_load_row rfl 39 _ rfl _ rfl 39 (da (M - 1 - 1 % M + 1)) (0, 0) _ f12 Tryz.underlying39 rfl (infoArr _) ?_) | (go_at_call 16; refine (H.out _).mono ?_; rintro e wx ⟨rfl, b1⟩; replace f0 := Below.stays b1 f0; replace f1 := Below.stays b1 f1; replace f2 := Below.stays b1 f2; replace f3 := Below.stays b1 f3; replace f10 := Below.stays b1 f10; replace f11 := Below.stays b1 f11; replace f12 := Below.stays b1 f12; replace bW := bW.trans (b1.mono bW.size); replace sW := Nat.le_trans sW b1.size; clear b1) | (go_at_call 15; refine (rtruth _ _).mono ?_; rintro e wx ⟨rfl, b1⟩; replace f0 := Below.stays b1 f0; replace f1 := Below.stays b1 f1; replace f2 := Below.stays b1 f2; replace f3 := Below.stays b1 f3; replace f10 := Below.stays b1 f10; replace f11 := Below.stays b1 f11; replace f12 := Below.stays b1 f12; replace bW := bW.trans (b1.mono bW.size); replace sW := Nat.le_trans sW b1.size; clear b1) | (refine wpList_store_row rfl 24 (.tmp 8) _ rfl _ _ (wa (fl (decide (0 < z)))) rfl rfl f3 Tryz.infoWa rfl wa_one ?_))
  have e2 := word_cells (blk_row (c' := wa (fl (decide (0 < z)))) f3)
  exact bodyPost_ret (v := .tuple #[wd (fl (decide (0 < z))), .bool true]) (by simp [results, Tryz.results5, go_sem, e2, fold_wa]) rfl ⟨rfl, below_setRow bW (by omega) _⟩
set_option maxHeartbeats 8000000 in
theorem rdo_18_walk (a b c : Nat) (q : Bool) (w : World) (H : Hid (∀ w : World, Calls Tryz.prog 17 #[wd a, wd b] w fun e w' => e = .returned (.bool q) ∧ Below w.heap.size w w')) : Calls Tryz.prog 5 #[.int .u8 18, wd a, wd b, wd c] w fun e w' => e = .returned (.tuple #[wd (fl q), .bool true]) ∧ Below w.heap.size w w' := by
  obtain ⟨W, hW, f0, f1, f2, f3, bW, sW⟩ := dboxes3 w a b c
  have hz := z4_wa
  have hsz := wa_size
  have hds : ∀ x, (da x).size = 32 := fun x => arr_size _ _ _
  replace sW := Nat.le_of_eq sW.symm
  go_enter Tryz.func5, Tryz.ntmps5
  go_upto_region 1 with fail
  try rw [hW]
  clear hW hz
  go_upto_region 5 with (go_at_call 8; refine (rtk_18 _).mono ?_; rintro e wx ⟨rfl, b1⟩; replace f0 := Below.stays b1 f0; replace f1 := Below.stays b1 f1; replace f2 := Below.stays b1 f2; replace f3 := Below.stays b1 f3; replace bW := bW.trans (b1.mono bW.size); replace sW := Nat.le_trans sW b1.size; clear b1)
  go_upto_region 6 with (first | (refine wpList_load_row rfl 24 _ rfl _ rfl 24 _ (0, 0) _ (by assumption) Tryz.underlying24 rfl Tryz.infoWa ?_) | (go_at_call 13; refine (of_ref a _).mono ?_; rintro e w1 ⟨rfl, b1⟩; replace f0 := Below.stays b1 f0; replace f1 := Below.stays b1 f1; replace f2 := Below.stays b1 f2; replace f3 := Below.stays b1 f3; replace bW := bW.trans (b1.mono bW.size); replace sW := Nat.le_trans sW b1.size; clear b1) | (refine wpList_alloc_row rfl 39 rfl zD zD_run ?_) | (refine wpList_store_row rfl 39 (.tmp 10) _ rfl _ zD (da a) rfl rfl (heap_alloc_new _ _) (infoArr _) rfl (arr_one _ _ _) ?_))
  simp only [Act.put, List.setIfInBounds_toArray, List.set_cons_succ, List.set_cons_zero]
  rw [World.setRow_alloc_new]
  replace f0 := blk_alloc (o' := .cells (da a) 39) f0
  replace f1 := blk_alloc (o' := .cells (da a) 39) f1
  replace f2 := blk_alloc (o' := .cells (da a) 39) f2
  replace f3 := blk_alloc (o' := .cells (da a) 39) f3
  have f10 : (w1.alloc (.cells (da a) 39)).heap[w1.heap.size]? = some (.cells (da a) 39) := heap_alloc_new _ _
  replace bW : Below w.heap.size w (w1.alloc (.cells (da a) 39)) := bW.alloc (by omega) _
  replace sW : w.heap.size + 4 ≤ (w1.alloc (.cells (da a) 39)).heap.size := by simp; omega
  generalize (w1.alloc (.cells (da a) 39)) = w2 at *
  generalize w1.heap.size = p10 at *
  go_upto_region 7 with (first | (refine wpList_load_row rfl 24 _ rfl _ rfl 24 _ (0, 0) _ (by assumption) Tryz.underlying24 rfl Tryz.infoWa ?_) | (go_at_call 13; refine (of_ref b _).mono ?_; rintro e w3 ⟨rfl, b1⟩; replace f0 := Below.stays b1 f0; replace f1 := Below.stays b1 f1; replace f2 := Below.stays b1 f2; replace f3 := Below.stays b1 f3; replace f10 := Below.stays b1 f10; replace bW := bW.trans (b1.mono bW.size); replace sW := Nat.le_trans sW b1.size; clear b1) | (refine wpList_alloc_row rfl 39 rfl zD zD_run ?_) | (refine wpList_store_row rfl 39 (.tmp 11) _ rfl _ zD (da b) rfl rfl (heap_alloc_new _ _) (infoArr _) rfl (arr_one _ _ _) ?_))
  simp only [Act.put, List.setIfInBounds_toArray, List.set_cons_succ, List.set_cons_zero]
  rw [World.setRow_alloc_new]
  replace f0 := blk_alloc (o' := .cells (da b) 39) f0
  replace f1 := blk_alloc (o' := .cells (da b) 39) f1
  replace f2 := blk_alloc (o' := .cells (da b) 39) f2
  replace f3 := blk_alloc (o' := .cells (da b) 39) f3
  replace f10 := blk_alloc (o' := .cells (da b) 39) f10
  have f11 : (w3.alloc (.cells (da b) 39)).heap[w3.heap.size]? = some (.cells (da b) 39) := heap_alloc_new _ _
  replace bW : Below w.heap.size w (w3.alloc (.cells (da b) 39)) := bW.alloc (by omega) _
  replace sW : w.heap.size + 4 ≤ (w3.alloc (.cells (da b) 39)).heap.size := by simp; omega
  generalize (w3.alloc (.cells (da b) 39)) = w4 at *
  generalize w3.heap.size = p11 at *
  go_upto_region 8 with (first | (refine wpList_build_one rfl rfl ?_) | (go_at_call 14; refine (neg_ref 1 _).mono ?_; rintro e w5 ⟨rfl, b1⟩; replace f0 := Below.stays b1 f0; replace f1 := Below.stays b1 f1; replace f2 := Below.stays b1 f2; replace f3 := Below.stays b1 f3; replace f10 := Below.stays b1 f10; replace f11 := Below.stays b1 f11; replace bW := bW.trans (b1.mono bW.size); replace sW := Nat.le_trans sW b1.size; clear b1) | (refine wpList_alloc_row rfl 39 rfl zD zD_run ?_) | (refine wpList_store_row rfl 39 (.tmp 12) _ rfl _ zD (da (M - 1 - 1 % M + 1)) rfl rfl (heap_alloc_new _ _) (infoArr _) rfl (arr_one _ _ _) ?_))
  simp only [Act.put, List.setIfInBounds_toArray, List.set_cons_succ, List.set_cons_zero]
  rw [World.setRow_alloc_new]
  replace f0 := blk_alloc (o' := .cells (da (M - 1 - 1 % M + 1)) 39) f0
  replace f1 := blk_alloc (o' := .cells (da (M - 1 - 1 % M + 1)) 39) f1
  replace f2 := blk_alloc (o' := .cells (da (M - 1 - 1 % M + 1)) 39) f2
  replace f3 := blk_alloc (o' := .cells (da (M - 1 - 1 % M + 1)) 39) f3
  replace f10 := blk_alloc (o' := .cells (da (M - 1 - 1 % M + 1)) 39) f10
  replace f11 := blk_alloc (o' := .cells (da (M - 1 - 1 % M + 1)) 39) f11
  have f12 : (w5.alloc (.cells (da (M - 1 - 1 % M + 1)) 39)).heap[w5.heap.size]? = some (.cells (da (M - 1 - 1 % M + 1)) 39) := heap_alloc_new _ _
  replace bW : Below w.heap.size w (w5.alloc (.cells (da (M - 1 - 1 % M + 1)) 39)) := bW.alloc (by omega) _
  replace sW : w.heap.size + 4 ≤ (w5.alloc (.cells (da (M - 1 - 1 % M + 1)) 39)).heap.size := by simp; omega
  generalize (w5.alloc (.cells (da (M - 1 - 1 % M + 1)) 39)) = w6 at *
  generalize w5.heap.size = p12 at *
  go_wp2_with (first | (refine wpList_load_row rfl 24 _ rfl _ rfl 24 _ (0, 0) _ (by assumption) Tryz.underlying24 rfl Tryz.infoWa ?_) | (go_at_call 17; refine (H.out _).mono ?_; rintro e wx ⟨rfl, b1⟩; replace f0 := Below.stays b1 f0; replace f1 := Below.stays b1 f1; replace f2 := Below.stays b1 f2; replace f3 := Below.stays b1 f3; replace f10 := Below.stays b1 f10; replace f11 := Below.stays b1 f11; replace f12 := Below.stays b1 f12; replace bW := bW.trans (b1.mono bW.size); replace sW := Nat.le_trans sW b1.size; clear b1) | (go_at_call 15; refine (rtruth _ _).mono ?_; rintro e wx ⟨rfl, b1⟩; replace f0 := Below.stays b1 f0; replace f1 := Below.stays b1 f1; replace f2 := Below.stays b1 f2; replace f3 := Below.stays b1 f3; replace f10 := Below.stays b1 f10; replace f11 := Below.stays b1 f11; replace f12 := Below.stays b1 f12; replace bW := bW.trans (b1.mono bW.size); replace sW := Nat.le_trans sW b1.size; clear b1) | (refine wpList_store_row rfl 24 (.tmp 8) _ rfl _ _ (wa (fl q)) rfl rfl f3 Tryz.infoWa rfl wa_one ?_))
  have e2 := word_cells (blk_row (c' := wa (fl q)) f3)
  exact bodyPost_ret (v := .tuple #[wd (fl q), .bool true]) (by simp [results, Tryz.results5, go_sem, e2, fold_wa]) rfl ⟨rfl, below_setRow bW (by omega) _⟩
set_option maxHeartbeats 8000000 in
theorem rdo_19_walk (a b c : Nat) (q : Bool) (w : World) (H : Hid (∀ w : World, Calls Tryz.prog 17 #[wd b, wd a] w fun e w' => e = .returned (.bool q) ∧ Below w.heap.size w w')) : Calls Tryz.prog 5 #[.int .u8 19, wd a, wd b, wd c] w fun e w' => e = .returned (.tuple #[wd (fl q), .bool true]) ∧ Below w.heap.size w w' := by
  obtain ⟨W, hW, f0, f1, f2, f3, bW, sW⟩ := dboxes3 w a b c
  have hz := z4_wa
  have hsz := wa_size
  have hds : ∀ x, (da x).size = 32 := fun x => arr_size _ _ _
  replace sW := Nat.le_of_eq sW.symm
  go_enter Tryz.func5, Tryz.ntmps5
  go_upto_region 1 with fail
  try rw [hW]
  clear hW hz
  go_upto_region 5 with (go_at_call 8; refine (rtk_19 _).mono ?_; rintro e wx ⟨rfl, b1⟩; replace f0 := Below.stays b1 f0; replace f1 := Below.stays b1 f1; replace f2 := Below.stays b1 f2; replace f3 := Below.stays b1 f3; replace bW := bW.trans (b1.mono bW.size); replace sW := Nat.le_trans sW b1.size; clear b1)
  go_upto_region 6 with (first | (refine wpList_load_row rfl 24 _ rfl _ rfl 24 _ (0, 0) _ (by assumption) Tryz.underlying24 rfl Tryz.infoWa ?_) | (go_at_call 13; refine (of_ref a _).mono ?_; rintro e w1 ⟨rfl, b1⟩; replace f0 := Below.stays b1 f0; replace f1 := Below.stays b1 f1; replace f2 := Below.stays b1 f2; replace f3 := Below.stays b1 f3; replace bW := bW.trans (b1.mono bW.size); replace sW := Nat.le_trans sW b1.size; clear b1) | (refine wpList_alloc_row rfl 39 rfl zD zD_run ?_) | (refine wpList_store_row rfl 39 (.tmp 10) _ rfl _ zD (da a) rfl rfl (heap_alloc_new _ _) (infoArr _) rfl (arr_one _ _ _) ?_))
  simp only [Act.put, List.setIfInBounds_toArray, List.set_cons_succ, List.set_cons_zero]
  rw [World.setRow_alloc_new]
  replace f0 := blk_alloc (o' := .cells (da a) 39) f0
  replace f1 := blk_alloc (o' := .cells (da a) 39) f1
  replace f2 := blk_alloc (o' := .cells (da a) 39) f2
  replace f3 := blk_alloc (o' := .cells (da a) 39) f3
  have f10 : (w1.alloc (.cells (da a) 39)).heap[w1.heap.size]? = some (.cells (da a) 39) := heap_alloc_new _ _
  replace bW : Below w.heap.size w (w1.alloc (.cells (da a) 39)) := bW.alloc (by omega) _
  replace sW : w.heap.size + 4 ≤ (w1.alloc (.cells (da a) 39)).heap.size := by simp; omega
  generalize (w1.alloc (.cells (da a) 39)) = w2 at *
  generalize w1.heap.size = p10 at *
  go_upto_region 7 with (first | (refine wpList_load_row rfl 24 _ rfl _ rfl 24 _ (0, 0) _ (by assumption) Tryz.underlying24 rfl Tryz.infoWa ?_) | (go_at_call 13; refine (of_ref b _).mono ?_; rintro e w3 ⟨rfl, b1⟩; replace f0 := Below.stays b1 f0; replace f1 := Below.stays b1 f1; replace f2 := Below.stays b1 f2; replace f3 := Below.stays b1 f3; replace f10 := Below.stays b1 f10; replace bW := bW.trans (b1.mono bW.size); replace sW := Nat.le_trans sW b1.size; clear b1) | (refine wpList_alloc_row rfl 39 rfl zD zD_run ?_) | (refine wpList_store_row rfl 39 (.tmp 11) _ rfl _ zD (da b) rfl rfl (heap_alloc_new _ _) (infoArr _) rfl (arr_one _ _ _) ?_))
  simp only [Act.put, List.setIfInBounds_toArray, List.set_cons_succ, List.set_cons_zero]
  rw [World.setRow_alloc_new]
  replace f0 := blk_alloc (o' := .cells (da b) 39) f0
  replace f1 := blk_alloc (o' := .cells (da b) 39) f1
  replace f2 := blk_alloc (o' := .cells (da b) 39) f2
  replace f3 := blk_alloc (o' := .cells (da b) 39) f3
  replace f10 := blk_alloc (o' := .cells (da b) 39) f10
  have f11 : (w3.alloc (.cells (da b) 39)).heap[w3.heap.size]? = some (.cells (da b) 39) := heap_alloc_new _ _
  replace bW : Below w.heap.size w (w3.alloc (.cells (da b) 39)) := bW.alloc (by omega) _
  replace sW : w.heap.size + 4 ≤ (w3.alloc (.cells (da b) 39)).heap.size := by simp; omega
  generalize (w3.alloc (.cells (da b) 39)) = w4 at *
  generalize w3.heap.size = p11 at *
  go_upto_region 8 with (first | (refine wpList_build_one rfl rfl ?_) | (go_at_call 14; refine (neg_ref 1 _).mono ?_; rintro e w5 ⟨rfl, b1⟩; replace f0 := Below.stays b1 f0; replace f1 := Below.stays b1 f1; replace f2 := Below.stays b1 f2; replace f3 := Below.stays b1 f3; replace f10 := Below.stays b1 f10; replace f11 := Below.stays b1 f11; replace bW := bW.trans (b1.mono bW.size); replace sW := Nat.le_trans sW b1.size; clear b1) | (refine wpList_alloc_row rfl 39 rfl zD zD_run ?_) | (refine wpList_store_row rfl 39 (.tmp 12) _ rfl _ zD (da (M - 1 - 1 % M + 1)) rfl rfl (heap_alloc_new _ _) (infoArr _) rfl (arr_one _ _ _) ?_))
  simp only [Act.put, List.setIfInBounds_toArray, List.set_cons_succ, List.set_cons_zero]
  rw [World.setRow_alloc_new]
  replace f0 := blk_alloc (o' := .cells (da (M - 1 - 1 % M + 1)) 39) f0
  replace f1 := blk_alloc (o' := .cells (da (M - 1 - 1 % M + 1)) 39) f1
  replace f2 := blk_alloc (o' := .cells (da (M - 1 - 1 % M + 1)) 39) f2
  replace f3 := blk_alloc (o' := .cells (da (M - 1 - 1 % M + 1)) 39) f3
  replace f10 := blk_alloc (o' := .cells (da (M - 1 - 1 % M + 1)) 39) f10
  replace f11 := blk_alloc (o' := .cells (da (M - 1 - 1 % M + 1)) 39) f11
  have f12 : (w5.alloc (.cells (da (M - 1 - 1 % M + 1)) 39)).heap[w5.heap.size]? = some (.cells (da (M - 1 - 1 % M + 1)) 39) := heap_alloc_new _ _
  replace bW : Below w.heap.size w (w5.alloc (.cells (da (M - 1 - 1 % M + 1)) 39)) := bW.alloc (by omega) _
  replace sW : w.heap.size + 4 ≤ (w5.alloc (.cells (da (M - 1 - 1 % M + 1)) 39)).heap.size := by simp; omega
  generalize (w5.alloc (.cells (da (M - 1 - 1 % M + 1)) 39)) = w6 at *
  generalize w5.heap.size = p12 at *
  go_wp2_with (first | (refine wpList_load_row rfl 24 _ rfl _ rfl 24 _ (0, 0) _ (by assumption) Tryz.underlying24 rfl Tryz.infoWa ?_) | (go_at_call 17; refine (H.out _).mono ?_; rintro e wx ⟨rfl, b1⟩; replace f0 := Below.stays b1 f0; replace f1 := Below.stays b1 f1; replace f2 := Below.stays b1 f2; replace f3 := Below.stays b1 f3; replace f10 := Below.stays b1 f10; replace f11 := Below.stays b1 f11; replace f12 := Below.stays b1 f12; replace bW := bW.trans (b1.mono bW.size); replace sW := Nat.le_trans sW b1.size; clear b1) | (go_at_call 15; refine (rtruth _ _).mono ?_; rintro e wx ⟨rfl, b1⟩; replace f0 := Below.stays b1 f0; replace f1 := Below.stays b1 f1; replace f2 := Below.stays b1 f2; replace f3 := Below.stays b1 f3; replace f10 := Below.stays b1 f10; replace f11 := Below.stays b1 f11; replace f12 := Below.stays b1 f12; replace bW := bW.trans (b1.mono bW.size); replace sW := Nat.le_trans sW b1.size; clear b1) | (refine wpList_store_row rfl 24 (.tmp 8) _ rfl _ _ (wa (fl q)) rfl rfl f3 Tryz.infoWa rfl wa_one ?_))
  have e2 := word_cells (blk_row (c' := wa (fl q)) f3)
  exact bodyPost_ret (v := .tuple #[wd (fl q), .bool true]) (by simp [results, Tryz.results5, go_sem, e2, fold_wa]) rfl ⟨rfl, below_setRow bW (by omega) _⟩
set_option maxHeartbeats 8000000 in
theorem rdo_20_walk (a b c : Nat) (q : Bool) (w : World) (hE : ∀ w : World, (Op.equalIn 10000 24 (.agg (wa a)) (.agg (wa b))).run Tryz.prog w = .ok q w) : Calls Tryz.prog 5 #[.int .u8 20, wd a, wd b, wd c] w fun e w' => e = .returned (.tuple #[wd (fl q), .bool true]) ∧ Below w.heap.size w w' := by
  obtain ⟨W, hW, f0, f1, f2, f3, bW, sW⟩ := dboxes3 w a b c
  have hz := z4_wa
  have hsz := wa_size
  have hds : ∀ x, (da x).size = 32 := fun x => arr_size _ _ _
  replace sW := Nat.le_of_eq sW.symm
  go_enter Tryz.func5, Tryz.ntmps5
  go_upto_region 1 with fail
  try rw [hW]
  clear hW hz
  go_upto_region 5 with (go_at_call 8; refine (rtk_20 _).mono ?_; rintro e wx ⟨rfl, b1⟩; replace f0 := Below.stays b1 f0; replace f1 := Below.stays b1 f1; replace f2 := Below.stays b1 f2; replace f3 := Below.stays b1 f3; replace bW := bW.trans (b1.mono bW.size); replace sW := Nat.le_trans sW b1.size; clear b1)
  go_upto_region 6 with (first | (refine wpList_load_row rfl 24 _ rfl _ rfl 24 _ (0, 0) _ (by assumption) Tryz.underlying24 rfl Tryz.infoWa ?_) | (go_at_call 13; refine (of_ref a _).mono ?_; rintro e w1 ⟨rfl, b1⟩; replace f0 := Below.stays b1 f0; replace f1 := Below.stays b1 f1; replace f2 := Below.stays b1 f2; replace f3 := Below.stays b1 f3; replace bW := bW.trans (b1.mono bW.size); replace sW := Nat.le_trans sW b1.size; clear b1) | (refine wpList_alloc_row rfl 39 rfl zD zD_run ?_) | (refine wpList_store_row rfl 39 (.tmp 10) _ rfl _ zD (da a) rfl rfl (heap_alloc_new _ _) (infoArr _) rfl (arr_one _ _ _) ?_))
  simp only [Act.put, List.setIfInBounds_toArray, List.set_cons_succ, List.set_cons_zero]
  rw [World.setRow_alloc_new]
  replace f0 := blk_alloc (o' := .cells (da a) 39) f0
  replace f1 := blk_alloc (o' := .cells (da a) 39) f1
  replace f2 := blk_alloc (o' := .cells (da a) 39) f2
  replace f3 := blk_alloc (o' := .cells (da a) 39) f3
  have f10 : (w1.alloc (.cells (da a) 39)).heap[w1.heap.size]? = some (.cells (da a) 39) := heap_alloc_new _ _
  replace bW : Below w.heap.size w (w1.alloc (.cells (da a) 39)) := bW.alloc (by omega) _
  replace sW : w.heap.size + 4 ≤ (w1.alloc (.cells (da a) 39)).heap.size := by simp; omega
  generalize (w1.alloc (.cells (da a) 39)) = w2 at *
  generalize w1.heap.size = p10 at *
  go_upto_region 7 with (first | (refine wpList_load_row rfl 24 _ rfl _ rfl 24 _ (0, 0) _ (by assumption) Tryz.underlying24 rfl Tryz.infoWa ?_) | (go_at_call 13; refine (of_ref b _).mono ?_; rintro e w3 ⟨rfl, b1⟩; replace f0 := Below.stays b1 f0; replace f1 := Below.stays b1 f1; replace f2 := Below.stays b1 f2; replace f3 := Below.stays b1 f3; replace f10 := Below.stays b1 f10; replace bW := bW.trans (b1.mono bW.size); replace sW := Nat.le_trans sW b1.size; clear b1) | (refine wpList_alloc_row rfl 39 rfl zD zD_run ?_) | (refine wpList_store_row rfl 39 (.tmp 11) _ rfl _ zD (da b) rfl rfl (heap_alloc_new _ _) (infoArr _) rfl (arr_one _ _ _) ?_))
  simp only [Act.put, List.setIfInBounds_toArray, List.set_cons_succ, List.set_cons_zero]
  rw [World.setRow_alloc_new]
  replace f0 := blk_alloc (o' := .cells (da b) 39) f0
  replace f1 := blk_alloc (o' := .cells (da b) 39) f1
  replace f2 := blk_alloc (o' := .cells (da b) 39) f2
  replace f3 := blk_alloc (o' := .cells (da b) 39) f3
  replace f10 := blk_alloc (o' := .cells (da b) 39) f10
  have f11 : (w3.alloc (.cells (da b) 39)).heap[w3.heap.size]? = some (.cells (da b) 39) := heap_alloc_new _ _
  replace bW : Below w.heap.size w (w3.alloc (.cells (da b) 39)) := bW.alloc (by omega) _
  replace sW : w.heap.size + 4 ≤ (w3.alloc (.cells (da b) 39)).heap.size := by simp; omega
  generalize (w3.alloc (.cells (da b) 39)) = w4 at *
  generalize w3.heap.size = p11 at *
  go_upto_region 8 with (first | (refine wpList_build_one rfl rfl ?_) | (go_at_call 14; refine (neg_ref 1 _).mono ?_; rintro e w5 ⟨rfl, b1⟩; replace f0 := Below.stays b1 f0; replace f1 := Below.stays b1 f1; replace f2 := Below.stays b1 f2; replace f3 := Below.stays b1 f3; replace f10 := Below.stays b1 f10; replace f11 := Below.stays b1 f11; replace bW := bW.trans (b1.mono bW.size); replace sW := Nat.le_trans sW b1.size; clear b1) | (refine wpList_alloc_row rfl 39 rfl zD zD_run ?_) | (refine wpList_store_row rfl 39 (.tmp 12) _ rfl _ zD (da (M - 1 - 1 % M + 1)) rfl rfl (heap_alloc_new _ _) (infoArr _) rfl (arr_one _ _ _) ?_))
  simp only [Act.put, List.setIfInBounds_toArray, List.set_cons_succ, List.set_cons_zero]
  rw [World.setRow_alloc_new]
  replace f0 := blk_alloc (o' := .cells (da (M - 1 - 1 % M + 1)) 39) f0
  replace f1 := blk_alloc (o' := .cells (da (M - 1 - 1 % M + 1)) 39) f1
  replace f2 := blk_alloc (o' := .cells (da (M - 1 - 1 % M + 1)) 39) f2
  replace f3 := blk_alloc (o' := .cells (da (M - 1 - 1 % M + 1)) 39) f3
  replace f10 := blk_alloc (o' := .cells (da (M - 1 - 1 % M + 1)) 39) f10
  replace f11 := blk_alloc (o' := .cells (da (M - 1 - 1 % M + 1)) 39) f11
  have f12 : (w5.alloc (.cells (da (M - 1 - 1 % M + 1)) 39)).heap[w5.heap.size]? = some (.cells (da (M - 1 - 1 % M + 1)) 39) := heap_alloc_new _ _
  replace bW : Below w.heap.size w (w5.alloc (.cells (da (M - 1 - 1 % M + 1)) 39)) := bW.alloc (by omega) _
  replace sW : w.heap.size + 4 ≤ (w5.alloc (.cells (da (M - 1 - 1 % M + 1)) 39)).heap.size := by simp; omega
  generalize (w5.alloc (.cells (da (M - 1 - 1 % M + 1)) 39)) = w6 at *
  generalize w5.heap.size = p12 at *
  have eg := Tryz.guardW
  go_wp2_with (first | (refine wpList_load_row rfl 24 _ rfl _ rfl 24 _ (0, 0) _ (by assumption) Tryz.underlying24 rfl Tryz.infoWa ?_) | (go_at_call 15; refine (rtruth _ _).mono ?_; rintro e wx ⟨rfl, b1⟩; replace f0 := Below.stays b1 f0; replace f1 := Below.stays b1 f1; replace f2 := Below.stays b1 f2; replace f3 := Below.stays b1 f3; replace f10 := Below.stays b1 f10; replace f11 := Below.stays b1 f11; replace f12 := Below.stays b1 f12; replace bW := bW.trans (b1.mono bW.size); replace sW := Nat.le_trans sW b1.size; clear b1) | (refine wpList_store_row rfl 24 (.tmp 8) _ rfl _ _ (wa (fl q)) rfl rfl f3 Tryz.infoWa rfl wa_one ?_))
  have e2 := word_cells (blk_row (c' := wa (fl q)) f3)
  exact bodyPost_ret (v := .tuple #[wd (fl q), .bool true]) (by simp [results, Tryz.results5, go_sem, e2, fold_wa]) rfl ⟨rfl, below_setRow bW (by omega) _⟩
set_option maxHeartbeats 8000000 in
theorem rdo_21_walk (a b c : Nat) (q : Bool) (w : World) (H : Hid (∀ w : World, Calls Tryz.prog 18 #[.agg (da a)] w fun e w' => e = .returned (.bool q) ∧ Below w.heap.size w w')) : Calls Tryz.prog 5 #[.int .u8 21, wd a, wd b, wd c] w fun e w' => e = .returned (.tuple #[wd (fl q), .bool true]) ∧ Below w.heap.size w w' := by
  obtain ⟨W, hW, f0, f1, f2, f3, bW, sW⟩ := dboxes3 w a b c
  have hz := z4_wa
  have hsz := wa_size
  have hds : ∀ x, (da x).size = 32 := fun x => arr_size _ _ _
  replace sW := Nat.le_of_eq sW.symm
  go_enter Tryz.func5, Tryz.ntmps5
  go_upto_region 1 with fail
  try rw [hW]
  clear hW hz
  go_upto_region 5 with (go_at_call 8; refine (rtk_21 _).mono ?_; rintro e wx ⟨rfl, b1⟩; replace f0 := Below.stays b1 f0; replace f1 := Below.stays b1 f1; replace f2 := Below.stays b1 f2; replace f3 := Below.stays b1 f3; replace bW := bW.trans (b1.mono bW.size); replace sW := Nat.le_trans sW b1.size; clear b1)
  go_upto_region 6 with (first | (refine wpList_load_row rfl 24 _ rfl _ rfl 24 _ (0, 0) _ (by assumption) Tryz.underlying24 rfl Tryz.infoWa ?_) | (go_at_call 13; refine (of_ref a _).mono ?_; rintro e w1 ⟨rfl, b1⟩; replace f0 := Below.stays b1 f0; replace f1 := Below.stays b1 f1; replace f2 := Below.stays b1 f2; replace f3 := Below.stays b1 f3; replace bW := bW.trans (b1.mono bW.size); replace sW := Nat.le_trans sW b1.size; clear b1) | (refine wpList_alloc_row rfl 39 rfl zD zD_run ?_) | (refine wpList_store_row rfl 39 (.tmp 10) _ rfl _ zD (da a) rfl rfl (heap_alloc_new _ _) (infoArr _) rfl (arr_one _ _ _) ?_))
  simp only [Act.put, List.setIfInBounds_toArray, List.set_cons_succ, List.set_cons_zero]
  rw [World.setRow_alloc_new]
  replace f0 := blk_alloc (o' := .cells (da a) 39) f0
  replace f1 := blk_alloc (o' := .cells (da a) 39) f1
  replace f2 := blk_alloc (o' := .cells (da a) 39) f2
  replace f3 := blk_alloc (o' := .cells (da a) 39) f3
  have f10 : (w1.alloc (.cells (da a) 39)).heap[w1.heap.size]? = some (.cells (da a) 39) := heap_alloc_new _ _
  replace bW : Below w.heap.size w (w1.alloc (.cells (da a) 39)) := bW.alloc (by omega) _
  replace sW : w.heap.size + 4 ≤ (w1.alloc (.cells (da a) 39)).heap.size := by simp; omega
  generalize (w1.alloc (.cells (da a) 39)) = w2 at *
  generalize w1.heap.size = p10 at *
  go_upto_region 7 with (first | (refine wpList_load_row rfl 24 _ rfl _ rfl 24 _ (0, 0) _ (by assumption) Tryz.underlying24 rfl Tryz.infoWa ?_) | (go_at_call 13; refine (of_ref b _).mono ?_; rintro e w3 ⟨rfl, b1⟩; replace f0 := Below.stays b1 f0; replace f1 := Below.stays b1 f1; replace f2 := Below.stays b1 f2; replace f3 := Below.stays b1 f3; replace f10 := Below.stays b1 f10; replace bW := bW.trans (b1.mono bW.size); replace sW := Nat.le_trans sW b1.size; clear b1) | (refine wpList_alloc_row rfl 39 rfl zD zD_run ?_) | (refine wpList_store_row rfl 39 (.tmp 11) _ rfl _ zD (da b) rfl rfl (heap_alloc_new _ _) (infoArr _) rfl (arr_one _ _ _) ?_))
  simp only [Act.put, List.setIfInBounds_toArray, List.set_cons_succ, List.set_cons_zero]
  rw [World.setRow_alloc_new]
  replace f0 := blk_alloc (o' := .cells (da b) 39) f0
  replace f1 := blk_alloc (o' := .cells (da b) 39) f1
  replace f2 := blk_alloc (o' := .cells (da b) 39) f2
  replace f3 := blk_alloc (o' := .cells (da b) 39) f3
  replace f10 := blk_alloc (o' := .cells (da b) 39) f10
  have f11 : (w3.alloc (.cells (da b) 39)).heap[w3.heap.size]? = some (.cells (da b) 39) := heap_alloc_new _ _
  replace bW : Below w.heap.size w (w3.alloc (.cells (da b) 39)) := bW.alloc (by omega) _
  replace sW : w.heap.size + 4 ≤ (w3.alloc (.cells (da b) 39)).heap.size := by simp; omega
  generalize (w3.alloc (.cells (da b) 39)) = w4 at *
  generalize w3.heap.size = p11 at *
  go_upto_region 8 with (first | (refine wpList_build_one rfl rfl ?_) | (go_at_call 14; refine (neg_ref 1 _).mono ?_; rintro e w5 ⟨rfl, b1⟩; replace f0 := Below.stays b1 f0; replace f1 := Below.stays b1 f1; replace f2 := Below.stays b1 f2; replace f3 := Below.stays b1 f3; replace f10 := Below.stays b1 f10; replace f11 := Below.stays b1 f11; replace bW := bW.trans (b1.mono bW.size); replace sW := Nat.le_trans sW b1.size; clear b1) | (refine wpList_alloc_row rfl 39 rfl zD zD_run ?_) | (refine wpList_store_row rfl 39 (.tmp 12) _ rfl _ zD (da (M - 1 - 1 % M + 1)) rfl rfl (heap_alloc_new _ _) (infoArr _) rfl (arr_one _ _ _) ?_))
  simp only [Act.put, List.setIfInBounds_toArray, List.set_cons_succ, List.set_cons_zero]
  rw [World.setRow_alloc_new]
  replace f0 := blk_alloc (o' := .cells (da (M - 1 - 1 % M + 1)) 39) f0
  replace f1 := blk_alloc (o' := .cells (da (M - 1 - 1 % M + 1)) 39) f1
  replace f2 := blk_alloc (o' := .cells (da (M - 1 - 1 % M + 1)) 39) f2
  replace f3 := blk_alloc (o' := .cells (da (M - 1 - 1 % M + 1)) 39) f3
  replace f10 := blk_alloc (o' := .cells (da (M - 1 - 1 % M + 1)) 39) f10
  replace f11 := blk_alloc (o' := .cells (da (M - 1 - 1 % M + 1)) 39) f11
  have f12 : (w5.alloc (.cells (da (M - 1 - 1 % M + 1)) 39)).heap[w5.heap.size]? = some (.cells (da (M - 1 - 1 % M + 1)) 39) := heap_alloc_new _ _
  replace bW : Below w.heap.size w (w5.alloc (.cells (da (M - 1 - 1 % M + 1)) 39)) := bW.alloc (by omega) _
  replace sW : w.heap.size + 4 ≤ (w5.alloc (.cells (da (M - 1 - 1 % M + 1)) 39)).heap.size := by simp; omega
  generalize (w5.alloc (.cells (da (M - 1 - 1 % M + 1)) 39)) = w6 at *
  generalize w5.heap.size = p12 at *
  go_wp2_with (first | (refine wpList_load_row rfl 39 _ rfl _ rfl 39 (da a) (0, 0) _ f10 Tryz.underlying39 rfl (infoArr _) ?_) | (refine wpList_load_row rfl 39 _ rfl _ rfl 39 (da b) (0, 0) _ f11 Tryz.underlying39 rfl (infoArr _) ?_) | (refine wpList_load_row rfl 39 _ rfl _ rfl 39 (da (M - 1 - 1 % M + 1)) (0, 0) _ f12 Tryz.underlying39 rfl (infoArr _) ?_) | (go_at_call 18; refine (H.out _).mono ?_; rintro e wx ⟨rfl, b1⟩; replace f0 := Below.stays b1 f0; replace f1 := Below.stays b1 f1; replace f2 := Below.stays b1 f2; replace f3 := Below.stays b1 f3; replace f10 := Below.stays b1 f10; replace f11 := Below.stays b1 f11; replace f12 := Below.stays b1 f12; replace bW := bW.trans (b1.mono bW.size); replace sW := Nat.le_trans sW b1.size; clear b1) | (go_at_call 15; refine (rtruth _ _).mono ?_; rintro e wx ⟨rfl, b1⟩; replace f0 := Below.stays b1 f0; replace f1 := Below.stays b1 f1; replace f2 := Below.stays b1 f2; replace f3 := Below.stays b1 f3; replace f10 := Below.stays b1 f10; replace f11 := Below.stays b1 f11; replace f12 := Below.stays b1 f12; replace bW := bW.trans (b1.mono bW.size); replace sW := Nat.le_trans sW b1.size; clear b1) | (refine wpList_store_row rfl 24 (.tmp 8) _ rfl _ _ (wa (fl q)) rfl rfl f3 Tryz.infoWa rfl wa_one ?_))
  have e2 := word_cells (blk_row (c' := wa (fl q)) f3)
  exact bodyPost_ret (v := .tuple #[wd (fl q), .bool true]) (by simp [results, Tryz.results5, go_sem, e2, fold_wa]) rfl ⟨rfl, below_setRow bW (by omega) _⟩
set_option maxHeartbeats 8000000 in
theorem rdo_22_walk (a b c t : Nat) (w : World) (H : Hid (∀ w : World, Calls Tryz.prog 19 #[.agg (da a), .agg (da b), .int .i64 0] w fun e w' => e = .returned (.agg (da t)) ∧ Below w.heap.size w w')) : Calls Tryz.prog 5 #[.int .u8 22, wd a, wd b, wd c] w fun e w' => e = .returned (.tuple #[wd (t), .bool true]) ∧ Below w.heap.size w w' := by
  obtain ⟨W, hW, f0, f1, f2, f3, bW, sW⟩ := dboxes3 w a b c
  have hz := z4_wa
  have hsz := wa_size
  have hds : ∀ x, (da x).size = 32 := fun x => arr_size _ _ _
  replace sW := Nat.le_of_eq sW.symm
  go_enter Tryz.func5, Tryz.ntmps5
  go_upto_region 1 with fail
  try rw [hW]
  clear hW hz
  go_upto_region 5 with (go_at_call 8; refine (rtk_22 _).mono ?_; rintro e wx ⟨rfl, b1⟩; replace f0 := Below.stays b1 f0; replace f1 := Below.stays b1 f1; replace f2 := Below.stays b1 f2; replace f3 := Below.stays b1 f3; replace bW := bW.trans (b1.mono bW.size); replace sW := Nat.le_trans sW b1.size; clear b1)
  go_upto_region 6 with (first | (refine wpList_load_row rfl 24 _ rfl _ rfl 24 _ (0, 0) _ (by assumption) Tryz.underlying24 rfl Tryz.infoWa ?_) | (go_at_call 13; refine (of_ref a _).mono ?_; rintro e w1 ⟨rfl, b1⟩; replace f0 := Below.stays b1 f0; replace f1 := Below.stays b1 f1; replace f2 := Below.stays b1 f2; replace f3 := Below.stays b1 f3; replace bW := bW.trans (b1.mono bW.size); replace sW := Nat.le_trans sW b1.size; clear b1) | (refine wpList_alloc_row rfl 39 rfl zD zD_run ?_) | (refine wpList_store_row rfl 39 (.tmp 10) _ rfl _ zD (da a) rfl rfl (heap_alloc_new _ _) (infoArr _) rfl (arr_one _ _ _) ?_))
  simp only [Act.put, List.setIfInBounds_toArray, List.set_cons_succ, List.set_cons_zero]
  rw [World.setRow_alloc_new]
  replace f0 := blk_alloc (o' := .cells (da a) 39) f0
  replace f1 := blk_alloc (o' := .cells (da a) 39) f1
  replace f2 := blk_alloc (o' := .cells (da a) 39) f2
  replace f3 := blk_alloc (o' := .cells (da a) 39) f3
  have f10 : (w1.alloc (.cells (da a) 39)).heap[w1.heap.size]? = some (.cells (da a) 39) := heap_alloc_new _ _
  replace bW : Below w.heap.size w (w1.alloc (.cells (da a) 39)) := bW.alloc (by omega) _
  replace sW : w.heap.size + 4 ≤ (w1.alloc (.cells (da a) 39)).heap.size := by simp; omega
  generalize (w1.alloc (.cells (da a) 39)) = w2 at *
  generalize w1.heap.size = p10 at *
  go_upto_region 7 with (first | (refine wpList_load_row rfl 24 _ rfl _ rfl 24 _ (0, 0) _ (by assumption) Tryz.underlying24 rfl Tryz.infoWa ?_) | (go_at_call 13; refine (of_ref b _).mono ?_; rintro e w3 ⟨rfl, b1⟩; replace f0 := Below.stays b1 f0; replace f1 := Below.stays b1 f1; replace f2 := Below.stays b1 f2; replace f3 := Below.stays b1 f3; replace f10 := Below.stays b1 f10; replace bW := bW.trans (b1.mono bW.size); replace sW := Nat.le_trans sW b1.size; clear b1) | (refine wpList_alloc_row rfl 39 rfl zD zD_run ?_) | (refine wpList_store_row rfl 39 (.tmp 11) _ rfl _ zD (da b) rfl rfl (heap_alloc_new _ _) (infoArr _) rfl (arr_one _ _ _) ?_))
  simp only [Act.put, List.setIfInBounds_toArray, List.set_cons_succ, List.set_cons_zero]
  rw [World.setRow_alloc_new]
  replace f0 := blk_alloc (o' := .cells (da b) 39) f0
  replace f1 := blk_alloc (o' := .cells (da b) 39) f1
  replace f2 := blk_alloc (o' := .cells (da b) 39) f2
  replace f3 := blk_alloc (o' := .cells (da b) 39) f3
  replace f10 := blk_alloc (o' := .cells (da b) 39) f10
  have f11 : (w3.alloc (.cells (da b) 39)).heap[w3.heap.size]? = some (.cells (da b) 39) := heap_alloc_new _ _
  replace bW : Below w.heap.size w (w3.alloc (.cells (da b) 39)) := bW.alloc (by omega) _
  replace sW : w.heap.size + 4 ≤ (w3.alloc (.cells (da b) 39)).heap.size := by simp; omega
  generalize (w3.alloc (.cells (da b) 39)) = w4 at *
  generalize w3.heap.size = p11 at *
  go_upto_region 8 with (first | (refine wpList_build_one rfl rfl ?_) | (go_at_call 14; refine (neg_ref 1 _).mono ?_; rintro e w5 ⟨rfl, b1⟩; replace f0 := Below.stays b1 f0; replace f1 := Below.stays b1 f1; replace f2 := Below.stays b1 f2; replace f3 := Below.stays b1 f3; replace f10 := Below.stays b1 f10; replace f11 := Below.stays b1 f11; replace bW := bW.trans (b1.mono bW.size); replace sW := Nat.le_trans sW b1.size; clear b1) | (refine wpList_alloc_row rfl 39 rfl zD zD_run ?_) | (refine wpList_store_row rfl 39 (.tmp 12) _ rfl _ zD (da (M - 1 - 1 % M + 1)) rfl rfl (heap_alloc_new _ _) (infoArr _) rfl (arr_one _ _ _) ?_))
  simp only [Act.put, List.setIfInBounds_toArray, List.set_cons_succ, List.set_cons_zero]
  rw [World.setRow_alloc_new]
  replace f0 := blk_alloc (o' := .cells (da (M - 1 - 1 % M + 1)) 39) f0
  replace f1 := blk_alloc (o' := .cells (da (M - 1 - 1 % M + 1)) 39) f1
  replace f2 := blk_alloc (o' := .cells (da (M - 1 - 1 % M + 1)) 39) f2
  replace f3 := blk_alloc (o' := .cells (da (M - 1 - 1 % M + 1)) 39) f3
  replace f10 := blk_alloc (o' := .cells (da (M - 1 - 1 % M + 1)) 39) f10
  replace f11 := blk_alloc (o' := .cells (da (M - 1 - 1 % M + 1)) 39) f11
  have f12 : (w5.alloc (.cells (da (M - 1 - 1 % M + 1)) 39)).heap[w5.heap.size]? = some (.cells (da (M - 1 - 1 % M + 1)) 39) := heap_alloc_new _ _
  replace bW : Below w.heap.size w (w5.alloc (.cells (da (M - 1 - 1 % M + 1)) 39)) := bW.alloc (by omega) _
  replace sW : w.heap.size + 4 ≤ (w5.alloc (.cells (da (M - 1 - 1 % M + 1)) 39)).heap.size := by simp; omega
  generalize (w5.alloc (.cells (da (M - 1 - 1 % M + 1)) 39)) = w6 at *
  generalize w5.heap.size = p12 at *
  go_wp2_with (first | (refine wpList_load_row rfl 39 _ rfl _ rfl 39 (da a) (0, 0) _ f10 Tryz.underlying39 rfl (infoArr _) ?_) | (refine wpList_load_row rfl 39 _ rfl _ rfl 39 (da b) (0, 0) _ f11 Tryz.underlying39 rfl (infoArr _) ?_) | (refine wpList_load_row rfl 39 _ rfl _ rfl 39 (da (M - 1 - 1 % M + 1)) (0, 0) _ f12 Tryz.underlying39 rfl (infoArr _) ?_) | (go_at_call 19; refine (H.out _).mono ?_; rintro e wx ⟨rfl, b1⟩; replace f0 := Below.stays b1 f0; replace f1 := Below.stays b1 f1; replace f2 := Below.stays b1 f2; replace f3 := Below.stays b1 f3; replace f10 := Below.stays b1 f10; replace f11 := Below.stays b1 f11; replace f12 := Below.stays b1 f12; replace bW := bW.trans (b1.mono bW.size); replace sW := Nat.le_trans sW b1.size; clear b1) | (go_at_call 20; refine (word_ref _ _).mono ?_; rintro e wx ⟨rfl, b1⟩; replace f0 := Below.stays b1 f0; replace f1 := Below.stays b1 f1; replace f2 := Below.stays b1 f2; replace f3 := Below.stays b1 f3; replace f10 := Below.stays b1 f10; replace f11 := Below.stays b1 f11; replace f12 := Below.stays b1 f12; replace bW := bW.trans (b1.mono bW.size); replace sW := Nat.le_trans sW b1.size; clear b1) | (refine wpList_store_row rfl 24 (.tmp 8) _ rfl _ _ (wa (t)) rfl rfl f3 Tryz.infoWa rfl wa_one ?_))
  have e2 := word_cells (blk_row (c' := wa (t)) f3)
  exact bodyPost_ret (v := .tuple #[wd (t), .bool true]) (by simp [results, Tryz.results5, go_sem, e2, fold_wa]) rfl ⟨rfl, below_setRow bW (by omega) _⟩
set_option maxHeartbeats 8000000 in
theorem rdo_23_walk (a b c t : Nat) (w : World) (H : Hid (∀ w : World, Calls Tryz.prog 19 #[.agg (da a), .agg (da b), .int .i64 1] w fun e w' => e = .returned (.agg (da t)) ∧ Below w.heap.size w w')) : Calls Tryz.prog 5 #[.int .u8 23, wd a, wd b, wd c] w fun e w' => e = .returned (.tuple #[wd (t), .bool true]) ∧ Below w.heap.size w w' := by
  obtain ⟨W, hW, f0, f1, f2, f3, bW, sW⟩ := dboxes3 w a b c
  have hz := z4_wa
  have hsz := wa_size
  have hds : ∀ x, (da x).size = 32 := fun x => arr_size _ _ _
  replace sW := Nat.le_of_eq sW.symm
  go_enter Tryz.func5, Tryz.ntmps5
  go_upto_region 1 with fail
  try rw [hW]
  clear hW hz
  go_upto_region 5 with (go_at_call 8; refine (rtk_23 _).mono ?_; rintro e wx ⟨rfl, b1⟩; replace f0 := Below.stays b1 f0; replace f1 := Below.stays b1 f1; replace f2 := Below.stays b1 f2; replace f3 := Below.stays b1 f3; replace bW := bW.trans (b1.mono bW.size); replace sW := Nat.le_trans sW b1.size; clear b1)
  go_upto_region 6 with (first | (refine wpList_load_row rfl 24 _ rfl _ rfl 24 _ (0, 0) _ (by assumption) Tryz.underlying24 rfl Tryz.infoWa ?_) | (go_at_call 13; refine (of_ref a _).mono ?_; rintro e w1 ⟨rfl, b1⟩; replace f0 := Below.stays b1 f0; replace f1 := Below.stays b1 f1; replace f2 := Below.stays b1 f2; replace f3 := Below.stays b1 f3; replace bW := bW.trans (b1.mono bW.size); replace sW := Nat.le_trans sW b1.size; clear b1) | (refine wpList_alloc_row rfl 39 rfl zD zD_run ?_) | (refine wpList_store_row rfl 39 (.tmp 10) _ rfl _ zD (da a) rfl rfl (heap_alloc_new _ _) (infoArr _) rfl (arr_one _ _ _) ?_))
  simp only [Act.put, List.setIfInBounds_toArray, List.set_cons_succ, List.set_cons_zero]
  rw [World.setRow_alloc_new]
  replace f0 := blk_alloc (o' := .cells (da a) 39) f0
  replace f1 := blk_alloc (o' := .cells (da a) 39) f1
  replace f2 := blk_alloc (o' := .cells (da a) 39) f2
  replace f3 := blk_alloc (o' := .cells (da a) 39) f3
  have f10 : (w1.alloc (.cells (da a) 39)).heap[w1.heap.size]? = some (.cells (da a) 39) := heap_alloc_new _ _
  replace bW : Below w.heap.size w (w1.alloc (.cells (da a) 39)) := bW.alloc (by omega) _
  replace sW : w.heap.size + 4 ≤ (w1.alloc (.cells (da a) 39)).heap.size := by simp; omega
  generalize (w1.alloc (.cells (da a) 39)) = w2 at *
  generalize w1.heap.size = p10 at *
  go_upto_region 7 with (first | (refine wpList_load_row rfl 24 _ rfl _ rfl 24 _ (0, 0) _ (by assumption) Tryz.underlying24 rfl Tryz.infoWa ?_) | (go_at_call 13; refine (of_ref b _).mono ?_; rintro e w3 ⟨rfl, b1⟩; replace f0 := Below.stays b1 f0; replace f1 := Below.stays b1 f1; replace f2 := Below.stays b1 f2; replace f3 := Below.stays b1 f3; replace f10 := Below.stays b1 f10; replace bW := bW.trans (b1.mono bW.size); replace sW := Nat.le_trans sW b1.size; clear b1) | (refine wpList_alloc_row rfl 39 rfl zD zD_run ?_) | (refine wpList_store_row rfl 39 (.tmp 11) _ rfl _ zD (da b) rfl rfl (heap_alloc_new _ _) (infoArr _) rfl (arr_one _ _ _) ?_))
  simp only [Act.put, List.setIfInBounds_toArray, List.set_cons_succ, List.set_cons_zero]
  rw [World.setRow_alloc_new]
  replace f0 := blk_alloc (o' := .cells (da b) 39) f0
  replace f1 := blk_alloc (o' := .cells (da b) 39) f1
  replace f2 := blk_alloc (o' := .cells (da b) 39) f2
  replace f3 := blk_alloc (o' := .cells (da b) 39) f3
  replace f10 := blk_alloc (o' := .cells (da b) 39) f10
  have f11 : (w3.alloc (.cells (da b) 39)).heap[w3.heap.size]? = some (.cells (da b) 39) := heap_alloc_new _ _
  replace bW : Below w.heap.size w (w3.alloc (.cells (da b) 39)) := bW.alloc (by omega) _
  replace sW : w.heap.size + 4 ≤ (w3.alloc (.cells (da b) 39)).heap.size := by simp; omega
  generalize (w3.alloc (.cells (da b) 39)) = w4 at *
  generalize w3.heap.size = p11 at *
  go_upto_region 8 with (first | (refine wpList_build_one rfl rfl ?_) | (go_at_call 14; refine (neg_ref 1 _).mono ?_; rintro e w5 ⟨rfl, b1⟩; replace f0 := Below.stays b1 f0; replace f1 := Below.stays b1 f1; replace f2 := Below.stays b1 f2; replace f3 := Below.stays b1 f3; replace f10 := Below.stays b1 f10; replace f11 := Below.stays b1 f11; replace bW := bW.trans (b1.mono bW.size); replace sW := Nat.le_trans sW b1.size; clear b1) | (refine wpList_alloc_row rfl 39 rfl zD zD_run ?_) | (refine wpList_store_row rfl 39 (.tmp 12) _ rfl _ zD (da (M - 1 - 1 % M + 1)) rfl rfl (heap_alloc_new _ _) (infoArr _) rfl (arr_one _ _ _) ?_))
  simp only [Act.put, List.setIfInBounds_toArray, List.set_cons_succ, List.set_cons_zero]
  rw [World.setRow_alloc_new]
  replace f0 := blk_alloc (o' := .cells (da (M - 1 - 1 % M + 1)) 39) f0
  replace f1 := blk_alloc (o' := .cells (da (M - 1 - 1 % M + 1)) 39) f1
  replace f2 := blk_alloc (o' := .cells (da (M - 1 - 1 % M + 1)) 39) f2
  replace f3 := blk_alloc (o' := .cells (da (M - 1 - 1 % M + 1)) 39) f3
  replace f10 := blk_alloc (o' := .cells (da (M - 1 - 1 % M + 1)) 39) f10
  replace f11 := blk_alloc (o' := .cells (da (M - 1 - 1 % M + 1)) 39) f11
  have f12 : (w5.alloc (.cells (da (M - 1 - 1 % M + 1)) 39)).heap[w5.heap.size]? = some (.cells (da (M - 1 - 1 % M + 1)) 39) := heap_alloc_new _ _
  replace bW : Below w.heap.size w (w5.alloc (.cells (da (M - 1 - 1 % M + 1)) 39)) := bW.alloc (by omega) _
  replace sW : w.heap.size + 4 ≤ (w5.alloc (.cells (da (M - 1 - 1 % M + 1)) 39)).heap.size := by simp; omega
  generalize (w5.alloc (.cells (da (M - 1 - 1 % M + 1)) 39)) = w6 at *
  generalize w5.heap.size = p12 at *
  go_wp2_with (first | (refine wpList_load_row rfl 39 _ rfl _ rfl 39 (da a) (0, 0) _ f10 Tryz.underlying39 rfl (infoArr _) ?_) | (refine wpList_load_row rfl 39 _ rfl _ rfl 39 (da b) (0, 0) _ f11 Tryz.underlying39 rfl (infoArr _) ?_) | (refine wpList_load_row rfl 39 _ rfl _ rfl 39 (da (M - 1 - 1 % M + 1)) (0, 0) _ f12 Tryz.underlying39 rfl (infoArr _) ?_) | (go_at_call 19; refine (H.out _).mono ?_; rintro e wx ⟨rfl, b1⟩; replace f0 := Below.stays b1 f0; replace f1 := Below.stays b1 f1; replace f2 := Below.stays b1 f2; replace f3 := Below.stays b1 f3; replace f10 := Below.stays b1 f10; replace f11 := Below.stays b1 f11; replace f12 := Below.stays b1 f12; replace bW := bW.trans (b1.mono bW.size); replace sW := Nat.le_trans sW b1.size; clear b1) | (go_at_call 20; refine (word_ref _ _).mono ?_; rintro e wx ⟨rfl, b1⟩; replace f0 := Below.stays b1 f0; replace f1 := Below.stays b1 f1; replace f2 := Below.stays b1 f2; replace f3 := Below.stays b1 f3; replace f10 := Below.stays b1 f10; replace f11 := Below.stays b1 f11; replace f12 := Below.stays b1 f12; replace bW := bW.trans (b1.mono bW.size); replace sW := Nat.le_trans sW b1.size; clear b1) | (refine wpList_store_row rfl 24 (.tmp 8) _ rfl _ _ (wa (t)) rfl rfl f3 Tryz.infoWa rfl wa_one ?_))
  have e2 := word_cells (blk_row (c' := wa (t)) f3)
  exact bodyPost_ret (v := .tuple #[wd (t), .bool true]) (by simp [results, Tryz.results5, go_sem, e2, fold_wa]) rfl ⟨rfl, below_setRow bW (by omega) _⟩
set_option maxHeartbeats 8000000 in
theorem rdo_24_walk (a b c t : Nat) (w : World) (H : Hid (∀ w : World, Calls Tryz.prog 19 #[.agg (da a), .agg (da b), .int .i64 2] w fun e w' => e = .returned (.agg (da t)) ∧ Below w.heap.size w w')) : Calls Tryz.prog 5 #[.int .u8 24, wd a, wd b, wd c] w fun e w' => e = .returned (.tuple #[wd (t), .bool true]) ∧ Below w.heap.size w w' := by
  obtain ⟨W, hW, f0, f1, f2, f3, bW, sW⟩ := dboxes3 w a b c
  have hz := z4_wa
  have hsz := wa_size
  have hds : ∀ x, (da x).size = 32 := fun x => arr_size _ _ _
  replace sW := Nat.le_of_eq sW.symm
  go_enter Tryz.func5, Tryz.ntmps5
  go_upto_region 1 with fail
  try rw [hW]
  clear hW hz
  go_upto_region 5 with (go_at_call 8; refine (rtk_24 _).mono ?_; rintro e wx ⟨rfl, b1⟩; replace f0 := Below.stays b1 f0; replace f1 := Below.stays b1 f1; replace f2 := Below.stays b1 f2; replace f3 := Below.stays b1 f3; replace bW := bW.trans (b1.mono bW.size); replace sW := Nat.le_trans sW b1.size; clear b1)
  go_upto_region 6 with (first | (refine wpList_load_row rfl 24 _ rfl _ rfl 24 _ (0, 0) _ (by assumption) Tryz.underlying24 rfl Tryz.infoWa ?_) | (go_at_call 13; refine (of_ref a _).mono ?_; rintro e w1 ⟨rfl, b1⟩; replace f0 := Below.stays b1 f0; replace f1 := Below.stays b1 f1; replace f2 := Below.stays b1 f2; replace f3 := Below.stays b1 f3; replace bW := bW.trans (b1.mono bW.size); replace sW := Nat.le_trans sW b1.size; clear b1) | (refine wpList_alloc_row rfl 39 rfl zD zD_run ?_) | (refine wpList_store_row rfl 39 (.tmp 10) _ rfl _ zD (da a) rfl rfl (heap_alloc_new _ _) (infoArr _) rfl (arr_one _ _ _) ?_))
  simp only [Act.put, List.setIfInBounds_toArray, List.set_cons_succ, List.set_cons_zero]
  rw [World.setRow_alloc_new]
  replace f0 := blk_alloc (o' := .cells (da a) 39) f0
  replace f1 := blk_alloc (o' := .cells (da a) 39) f1
  replace f2 := blk_alloc (o' := .cells (da a) 39) f2
  replace f3 := blk_alloc (o' := .cells (da a) 39) f3
  have f10 : (w1.alloc (.cells (da a) 39)).heap[w1.heap.size]? = some (.cells (da a) 39) := heap_alloc_new _ _
  replace bW : Below w.heap.size w (w1.alloc (.cells (da a) 39)) := bW.alloc (by omega) _
  replace sW : w.heap.size + 4 ≤ (w1.alloc (.cells (da a) 39)).heap.size := by simp; omega
  generalize (w1.alloc (.cells (da a) 39)) = w2 at *
  generalize w1.heap.size = p10 at *
  go_upto_region 7 with (first | (refine wpList_load_row rfl 24 _ rfl _ rfl 24 _ (0, 0) _ (by assumption) Tryz.underlying24 rfl Tryz.infoWa ?_) | (go_at_call 13; refine (of_ref b _).mono ?_; rintro e w3 ⟨rfl, b1⟩; replace f0 := Below.stays b1 f0; replace f1 := Below.stays b1 f1; replace f2 := Below.stays b1 f2; replace f3 := Below.stays b1 f3; replace f10 := Below.stays b1 f10; replace bW := bW.trans (b1.mono bW.size); replace sW := Nat.le_trans sW b1.size; clear b1) | (refine wpList_alloc_row rfl 39 rfl zD zD_run ?_) | (refine wpList_store_row rfl 39 (.tmp 11) _ rfl _ zD (da b) rfl rfl (heap_alloc_new _ _) (infoArr _) rfl (arr_one _ _ _) ?_))
  simp only [Act.put, List.setIfInBounds_toArray, List.set_cons_succ, List.set_cons_zero]
  rw [World.setRow_alloc_new]
  replace f0 := blk_alloc (o' := .cells (da b) 39) f0
  replace f1 := blk_alloc (o' := .cells (da b) 39) f1
  replace f2 := blk_alloc (o' := .cells (da b) 39) f2
  replace f3 := blk_alloc (o' := .cells (da b) 39) f3
  replace f10 := blk_alloc (o' := .cells (da b) 39) f10
  have f11 : (w3.alloc (.cells (da b) 39)).heap[w3.heap.size]? = some (.cells (da b) 39) := heap_alloc_new _ _
  replace bW : Below w.heap.size w (w3.alloc (.cells (da b) 39)) := bW.alloc (by omega) _
  replace sW : w.heap.size + 4 ≤ (w3.alloc (.cells (da b) 39)).heap.size := by simp; omega
  generalize (w3.alloc (.cells (da b) 39)) = w4 at *
  generalize w3.heap.size = p11 at *
  go_upto_region 8 with (first | (refine wpList_build_one rfl rfl ?_) | (go_at_call 14; refine (neg_ref 1 _).mono ?_; rintro e w5 ⟨rfl, b1⟩; replace f0 := Below.stays b1 f0; replace f1 := Below.stays b1 f1; replace f2 := Below.stays b1 f2; replace f3 := Below.stays b1 f3; replace f10 := Below.stays b1 f10; replace f11 := Below.stays b1 f11; replace bW := bW.trans (b1.mono bW.size); replace sW := Nat.le_trans sW b1.size; clear b1) | (refine wpList_alloc_row rfl 39 rfl zD zD_run ?_) | (refine wpList_store_row rfl 39 (.tmp 12) _ rfl _ zD (da (M - 1 - 1 % M + 1)) rfl rfl (heap_alloc_new _ _) (infoArr _) rfl (arr_one _ _ _) ?_))
  simp only [Act.put, List.setIfInBounds_toArray, List.set_cons_succ, List.set_cons_zero]
  rw [World.setRow_alloc_new]
  replace f0 := blk_alloc (o' := .cells (da (M - 1 - 1 % M + 1)) 39) f0
  replace f1 := blk_alloc (o' := .cells (da (M - 1 - 1 % M + 1)) 39) f1
  replace f2 := blk_alloc (o' := .cells (da (M - 1 - 1 % M + 1)) 39) f2
  replace f3 := blk_alloc (o' := .cells (da (M - 1 - 1 % M + 1)) 39) f3
  replace f10 := blk_alloc (o' := .cells (da (M - 1 - 1 % M + 1)) 39) f10
  replace f11 := blk_alloc (o' := .cells (da (M - 1 - 1 % M + 1)) 39) f11
  have f12 : (w5.alloc (.cells (da (M - 1 - 1 % M + 1)) 39)).heap[w5.heap.size]? = some (.cells (da (M - 1 - 1 % M + 1)) 39) := heap_alloc_new _ _
  replace bW : Below w.heap.size w (w5.alloc (.cells (da (M - 1 - 1 % M + 1)) 39)) := bW.alloc (by omega) _
  replace sW : w.heap.size + 4 ≤ (w5.alloc (.cells (da (M - 1 - 1 % M + 1)) 39)).heap.size := by simp; omega
  generalize (w5.alloc (.cells (da (M - 1 - 1 % M + 1)) 39)) = w6 at *
  generalize w5.heap.size = p12 at *
  go_wp2_with (first | (refine wpList_load_row rfl 39 _ rfl _ rfl 39 (da a) (0, 0) _ f10 Tryz.underlying39 rfl (infoArr _) ?_) | (refine wpList_load_row rfl 39 _ rfl _ rfl 39 (da b) (0, 0) _ f11 Tryz.underlying39 rfl (infoArr _) ?_) | (refine wpList_load_row rfl 39 _ rfl _ rfl 39 (da (M - 1 - 1 % M + 1)) (0, 0) _ f12 Tryz.underlying39 rfl (infoArr _) ?_) | (go_at_call 19; refine (H.out _).mono ?_; rintro e wx ⟨rfl, b1⟩; replace f0 := Below.stays b1 f0; replace f1 := Below.stays b1 f1; replace f2 := Below.stays b1 f2; replace f3 := Below.stays b1 f3; replace f10 := Below.stays b1 f10; replace f11 := Below.stays b1 f11; replace f12 := Below.stays b1 f12; replace bW := bW.trans (b1.mono bW.size); replace sW := Nat.le_trans sW b1.size; clear b1) | (go_at_call 20; refine (word_ref _ _).mono ?_; rintro e wx ⟨rfl, b1⟩; replace f0 := Below.stays b1 f0; replace f1 := Below.stays b1 f1; replace f2 := Below.stays b1 f2; replace f3 := Below.stays b1 f3; replace f10 := Below.stays b1 f10; replace f11 := Below.stays b1 f11; replace f12 := Below.stays b1 f12; replace bW := bW.trans (b1.mono bW.size); replace sW := Nat.le_trans sW b1.size; clear b1) | (refine wpList_store_row rfl 24 (.tmp 8) _ rfl _ _ (wa (t)) rfl rfl f3 Tryz.infoWa rfl wa_one ?_))
  have e2 := word_cells (blk_row (c' := wa (t)) f3)
  exact bodyPost_ret (v := .tuple #[wd (t), .bool true]) (by simp [results, Tryz.results5, go_sem, e2, fold_wa]) rfl ⟨rfl, below_setRow bW (by omega) _⟩
set_option maxHeartbeats 8000000 in
theorem rdo_25_walk (a b c t : Nat) (w : World) (H : Hid (∀ w : World, Calls Tryz.prog 19 #[.agg (da a), .agg (da (M - 1 - 1 % M + 1)), .int .i64 2] w fun e w' => e = .returned (.agg (da t)) ∧ Below w.heap.size w w')) : Calls Tryz.prog 5 #[.int .u8 25, wd a, wd b, wd c] w fun e w' => e = .returned (.tuple #[wd (t), .bool true]) ∧ Below w.heap.size w w' := by
  obtain ⟨W, hW, f0, f1, f2, f3, bW, sW⟩ := dboxes3 w a b c
  have hz := z4_wa
  have hsz := wa_size
  have hds : ∀ x, (da x).size = 32 := fun x => arr_size _ _ _
  replace sW := Nat.le_of_eq sW.symm
  go_enter Tryz.func5, Tryz.ntmps5
  go_upto_region 1 with fail
  try rw [hW]
  clear hW hz
  go_upto_region 5 with (go_at_call 8; refine (rtk_25 _).mono ?_; rintro e wx ⟨rfl, b1⟩; replace f0 := Below.stays b1 f0; replace f1 := Below.stays b1 f1; replace f2 := Below.stays b1 f2; replace f3 := Below.stays b1 f3; replace bW := bW.trans (b1.mono bW.size); replace sW := Nat.le_trans sW b1.size; clear b1)
  go_upto_region 6 with (first | (refine wpList_load_row rfl 24 _ rfl _ rfl 24 _ (0, 0) _ (by assumption) Tryz.underlying24 rfl Tryz.infoWa ?_) | (go_at_call 13; refine (of_ref a _).mono ?_; rintro e w1 ⟨rfl, b1⟩; replace f0 := Below.stays b1 f0; replace f1 := Below.stays b1 f1; replace f2 := Below.stays b1 f2; replace f3 := Below.stays b1 f3; replace bW := bW.trans (b1.mono bW.size); replace sW := Nat.le_trans sW b1.size; clear b1) | (refine wpList_alloc_row rfl 39 rfl zD zD_run ?_) | (refine wpList_store_row rfl 39 (.tmp 10) _ rfl _ zD (da a) rfl rfl (heap_alloc_new _ _) (infoArr _) rfl (arr_one _ _ _) ?_))
  simp only [Act.put, List.setIfInBounds_toArray, List.set_cons_succ, List.set_cons_zero]
  rw [World.setRow_alloc_new]
  replace f0 := blk_alloc (o' := .cells (da a) 39) f0
  replace f1 := blk_alloc (o' := .cells (da a) 39) f1
  replace f2 := blk_alloc (o' := .cells (da a) 39) f2
  replace f3 := blk_alloc (o' := .cells (da a) 39) f3
  have f10 : (w1.alloc (.cells (da a) 39)).heap[w1.heap.size]? = some (.cells (da a) 39) := heap_alloc_new _ _
  replace bW : Below w.heap.size w (w1.alloc (.cells (da a) 39)) := bW.alloc (by omega) _
  replace sW : w.heap.size + 4 ≤ (w1.alloc (.cells (da a) 39)).heap.size := by simp; omega
  generalize (w1.alloc (.cells (da a) 39)) = w2 at *
  generalize w1.heap.size = p10 at *
  go_upto_region 7 with (first | (refine wpList_load_row rfl 24 _ rfl _ rfl 24 _ (0, 0) _ (by assumption) Tryz.underlying24 rfl Tryz.infoWa ?_) | (go_at_call 13; refine (of_ref b _).mono ?_; rintro e w3 ⟨rfl, b1⟩; replace f0 := Below.stays b1 f0; replace f1 := Below.stays b1 f1; replace f2 := Below.stays b1 f2; replace f3 := Below.stays b1 f3; replace f10 := Below.stays b1 f10; replace bW := bW.trans (b1.mono bW.size); replace sW := Nat.le_trans sW b1.size; clear b1) | (refine wpList_alloc_row rfl 39 rfl zD zD_run ?_) | (refine wpList_store_row rfl 39 (.tmp 11) _ rfl _ zD (da b) rfl rfl (heap_alloc_new _ _) (infoArr _) rfl (arr_one _ _ _) ?_))
  simp only [Act.put, List.setIfInBounds_toArray, List.set_cons_succ, List.set_cons_zero]
  rw [World.setRow_alloc_new]
  replace f0 := blk_alloc (o' := .cells (da b) 39) f0
  replace f1 := blk_alloc (o' := .cells (da b) 39) f1
  replace f2 := blk_alloc (o' := .cells (da b) 39) f2
  replace f3 := blk_alloc (o' := .cells (da b) 39) f3
  replace f10 := blk_alloc (o' := .cells (da b) 39) f10
  have f11 : (w3.alloc (.cells (da b) 39)).heap[w3.heap.size]? = some (.cells (da b) 39) := heap_alloc_new _ _
  replace bW : Below w.heap.size w (w3.alloc (.cells (da b) 39)) := bW.alloc (by omega) _
  replace sW : w.heap.size + 4 ≤ (w3.alloc (.cells (da b) 39)).heap.size := by simp; omega
  generalize (w3.alloc (.cells (da b) 39)) = w4 at *
  generalize w3.heap.size = p11 at *
  go_upto_region 8 with (first | (refine wpList_build_one rfl rfl ?_) | (go_at_call 14; refine (neg_ref 1 _).mono ?_; rintro e w5 ⟨rfl, b1⟩; replace f0 := Below.stays b1 f0; replace f1 := Below.stays b1 f1; replace f2 := Below.stays b1 f2; replace f3 := Below.stays b1 f3; replace f10 := Below.stays b1 f10; replace f11 := Below.stays b1 f11; replace bW := bW.trans (b1.mono bW.size); replace sW := Nat.le_trans sW b1.size; clear b1) | (refine wpList_alloc_row rfl 39 rfl zD zD_run ?_) | (refine wpList_store_row rfl 39 (.tmp 12) _ rfl _ zD (da (M - 1 - 1 % M + 1)) rfl rfl (heap_alloc_new _ _) (infoArr _) rfl (arr_one _ _ _) ?_))
  simp only [Act.put, List.setIfInBounds_toArray, List.set_cons_succ, List.set_cons_zero]
  rw [World.setRow_alloc_new]
  replace f0 := blk_alloc (o' := .cells (da (M - 1 - 1 % M + 1)) 39) f0
  replace f1 := blk_alloc (o' := .cells (da (M - 1 - 1 % M + 1)) 39) f1
  replace f2 := blk_alloc (o' := .cells (da (M - 1 - 1 % M + 1)) 39) f2
  replace f3 := blk_alloc (o' := .cells (da (M - 1 - 1 % M + 1)) 39) f3
  replace f10 := blk_alloc (o' := .cells (da (M - 1 - 1 % M + 1)) 39) f10
  replace f11 := blk_alloc (o' := .cells (da (M - 1 - 1 % M + 1)) 39) f11
  have f12 : (w5.alloc (.cells (da (M - 1 - 1 % M + 1)) 39)).heap[w5.heap.size]? = some (.cells (da (M - 1 - 1 % M + 1)) 39) := heap_alloc_new _ _
  replace bW : Below w.heap.size w (w5.alloc (.cells (da (M - 1 - 1 % M + 1)) 39)) := bW.alloc (by omega) _
  replace sW : w.heap.size + 4 ≤ (w5.alloc (.cells (da (M - 1 - 1 % M + 1)) 39)).heap.size := by simp; omega
  generalize (w5.alloc (.cells (da (M - 1 - 1 % M + 1)) 39)) = w6 at *
  generalize w5.heap.size = p12 at *
  go_wp2_with (first | (refine wpList_load_row rfl 39 _ rfl _ rfl 39 (da a) (0, 0) _ f10 Tryz.underlying39 rfl (infoArr _) ?_) | (refine wpList_load_row rfl 39 _ rfl _ rfl 39 (da b) (0, 0) _ f11 Tryz.underlying39 rfl (infoArr _) ?_) | (refine wpList_load_row rfl 39 _ rfl _ rfl 39 (da (M - 1 - 1 % M + 1)) (0, 0) _ f12 Tryz.underlying39 rfl (infoArr _) ?_) | (go_at_call 19; refine (H.out _).mono ?_; rintro e wx ⟨rfl, b1⟩; replace f0 := Below.stays b1 f0; replace f1 := Below.stays b1 f1; replace f2 := Below.stays b1 f2; replace f3 := Below.stays b1 f3; replace f10 := Below.stays b1 f10; replace f11 := Below.stays b1 f11; replace f12 := Below.stays b1 f12; replace bW := bW.trans (b1.mono bW.size); replace sW := Nat.le_trans sW b1.size; clear b1) | (go_at_call 20; refine (word_ref _ _).mono ?_; rintro e wx ⟨rfl, b1⟩; replace f0 := Below.stays b1 f0; replace f1 := Below.stays b1 f1; replace f2 := Below.stays b1 f2; replace f3 := Below.stays b1 f3; replace f10 := Below.stays b1 f10; replace f11 := Below.stays b1 f11; replace f12 := Below.stays b1 f12; replace bW := bW.trans (b1.mono bW.size); replace sW := Nat.le_trans sW b1.size; clear b1) | (refine wpList_store_row rfl 24 (.tmp 8) _ rfl _ _ (wa (t)) rfl rfl f3 Tryz.infoWa rfl wa_one ?_))
  have e2 := word_cells (blk_row (c' := wa (t)) f3)
  exact bodyPost_ret (v := .tuple #[wd (t), .bool true]) (by simp [results, Tryz.results5, go_sem, e2, fold_wa]) rfl ⟨rfl, below_setRow bW (by omega) _⟩
set_option maxHeartbeats 8000000 in
theorem rdo_26_no (a b c n : Nat) (w : World) (hn : 31 < n) (hn2 : n ≤ 256) (H : Hid (∀ w : World, Calls Tryz.prog 21 #[wd a] w fun e w' => e = .returned (.int .i64 (n : Int)) ∧ Below w.heap.size w w')) : Calls Tryz.prog 5 #[.int .u8 26, wd a, wd b, wd c] w fun e w' => e = .returned (.tuple #[wd (0), .bool true]) ∧ Below w.heap.size w w' := by
  obtain ⟨W, hW, f0, f1, f2, f3, bW, sW⟩ := dboxes3 w a b c
  have hz := z4_wa
  have hsz := wa_size
  have hds : ∀ x, (da x).size = 32 := fun x => arr_size _ _ _
  replace sW := Nat.le_of_eq sW.symm
  go_enter Tryz.func5, Tryz.ntmps5
  go_upto_region 1 with fail
  try rw [hW]
  clear hW hz
  go_upto_region 5 with (go_at_call 8; refine (rtk_26 _).mono ?_; rintro e wx ⟨rfl, b1⟩; replace f0 := Below.stays b1 f0; replace f1 := Below.stays b1 f1; replace f2 := Below.stays b1 f2; replace f3 := Below.stays b1 f3; replace bW := bW.trans (b1.mono bW.size); replace sW := Nat.le_trans sW b1.size; clear b1)
  go_upto_region 6 with (first | (refine wpList_load_row rfl 24 _ rfl _ rfl 24 _ (0, 0) _ (by assumption) Tryz.underlying24 rfl Tryz.infoWa ?_) | (go_at_call 13; refine (of_ref a _).mono ?_; rintro e w1 ⟨rfl, b1⟩; replace f0 := Below.stays b1 f0; replace f1 := Below.stays b1 f1; replace f2 := Below.stays b1 f2; replace f3 := Below.stays b1 f3; replace bW := bW.trans (b1.mono bW.size); replace sW := Nat.le_trans sW b1.size; clear b1) | (refine wpList_alloc_row rfl 39 rfl zD zD_run ?_) | (refine wpList_store_row rfl 39 (.tmp 10) _ rfl _ zD (da a) rfl rfl (heap_alloc_new _ _) (infoArr _) rfl (arr_one _ _ _) ?_))
  simp only [Act.put, List.setIfInBounds_toArray, List.set_cons_succ, List.set_cons_zero]
  rw [World.setRow_alloc_new]
  replace f0 := blk_alloc (o' := .cells (da a) 39) f0
  replace f1 := blk_alloc (o' := .cells (da a) 39) f1
  replace f2 := blk_alloc (o' := .cells (da a) 39) f2
  replace f3 := blk_alloc (o' := .cells (da a) 39) f3
  have f10 : (w1.alloc (.cells (da a) 39)).heap[w1.heap.size]? = some (.cells (da a) 39) := heap_alloc_new _ _
  replace bW : Below w.heap.size w (w1.alloc (.cells (da a) 39)) := bW.alloc (by omega) _
  replace sW : w.heap.size + 4 ≤ (w1.alloc (.cells (da a) 39)).heap.size := by simp; omega
  generalize (w1.alloc (.cells (da a) 39)) = w2 at *
  generalize w1.heap.size = p10 at *
  go_upto_region 7 with (first | (refine wpList_load_row rfl 24 _ rfl _ rfl 24 _ (0, 0) _ (by assumption) Tryz.underlying24 rfl Tryz.infoWa ?_) | (go_at_call 13; refine (of_ref b _).mono ?_; rintro e w3 ⟨rfl, b1⟩; replace f0 := Below.stays b1 f0; replace f1 := Below.stays b1 f1; replace f2 := Below.stays b1 f2; replace f3 := Below.stays b1 f3; replace f10 := Below.stays b1 f10; replace bW := bW.trans (b1.mono bW.size); replace sW := Nat.le_trans sW b1.size; clear b1) | (refine wpList_alloc_row rfl 39 rfl zD zD_run ?_) | (refine wpList_store_row rfl 39 (.tmp 11) _ rfl _ zD (da b) rfl rfl (heap_alloc_new _ _) (infoArr _) rfl (arr_one _ _ _) ?_))
  simp only [Act.put, List.setIfInBounds_toArray, List.set_cons_succ, List.set_cons_zero]
  rw [World.setRow_alloc_new]
  replace f0 := blk_alloc (o' := .cells (da b) 39) f0
  replace f1 := blk_alloc (o' := .cells (da b) 39) f1
  replace f2 := blk_alloc (o' := .cells (da b) 39) f2
  replace f3 := blk_alloc (o' := .cells (da b) 39) f3
  replace f10 := blk_alloc (o' := .cells (da b) 39) f10
  have f11 : (w3.alloc (.cells (da b) 39)).heap[w3.heap.size]? = some (.cells (da b) 39) := heap_alloc_new _ _
  replace bW : Below w.heap.size w (w3.alloc (.cells (da b) 39)) := bW.alloc (by omega) _
  replace sW : w.heap.size + 4 ≤ (w3.alloc (.cells (da b) 39)).heap.size := by simp; omega
  generalize (w3.alloc (.cells (da b) 39)) = w4 at *
  generalize w3.heap.size = p11 at *
  go_upto_region 8 with (first | (refine wpList_build_one rfl rfl ?_) | (go_at_call 14; refine (neg_ref 1 _).mono ?_; rintro e w5 ⟨rfl, b1⟩; replace f0 := Below.stays b1 f0; replace f1 := Below.stays b1 f1; replace f2 := Below.stays b1 f2; replace f3 := Below.stays b1 f3; replace f10 := Below.stays b1 f10; replace f11 := Below.stays b1 f11; replace bW := bW.trans (b1.mono bW.size); replace sW := Nat.le_trans sW b1.size; clear b1) | (refine wpList_alloc_row rfl 39 rfl zD zD_run ?_) | (refine wpList_store_row rfl 39 (.tmp 12) _ rfl _ zD (da (M - 1 - 1 % M + 1)) rfl rfl (heap_alloc_new _ _) (infoArr _) rfl (arr_one _ _ _) ?_))
  simp only [Act.put, List.setIfInBounds_toArray, List.set_cons_succ, List.set_cons_zero]
  rw [World.setRow_alloc_new]
  replace f0 := blk_alloc (o' := .cells (da (M - 1 - 1 % M + 1)) 39) f0
  replace f1 := blk_alloc (o' := .cells (da (M - 1 - 1 % M + 1)) 39) f1
  replace f2 := blk_alloc (o' := .cells (da (M - 1 - 1 % M + 1)) 39) f2
  replace f3 := blk_alloc (o' := .cells (da (M - 1 - 1 % M + 1)) 39) f3
  replace f10 := blk_alloc (o' := .cells (da (M - 1 - 1 % M + 1)) 39) f10
  replace f11 := blk_alloc (o' := .cells (da (M - 1 - 1 % M + 1)) 39) f11
  have f12 : (w5.alloc (.cells (da (M - 1 - 1 % M + 1)) 39)).heap[w5.heap.size]? = some (.cells (da (M - 1 - 1 % M + 1)) 39) := heap_alloc_new _ _
  replace bW : Below w.heap.size w (w5.alloc (.cells (da (M - 1 - 1 % M + 1)) 39)) := bW.alloc (by omega) _
  replace sW : w.heap.size + 4 ≤ (w5.alloc (.cells (da (M - 1 - 1 % M + 1)) 39)).heap.size := by simp; omega
  generalize (w5.alloc (.cells (da (M - 1 - 1 % M + 1)) 39)) = w6 at *
  generalize w5.heap.size = p12 at *
  have hgt : decide (31 < (n : Int)) = true := by simp; omega
  go_wp2_with (first | (refine wpList_load_row rfl 24 _ rfl _ rfl 24 _ (0, 0) _ (by assumption) Tryz.underlying24 rfl Tryz.infoWa ?_) | (go_at_call 21; refine (H.out _).mono ?_; rintro e wx ⟨rfl, b1⟩; replace f0 := Below.stays b1 f0; replace f1 := Below.stays b1 f1; replace f2 := Below.stays b1 f2; replace f3 := Below.stays b1 f3; replace f10 := Below.stays b1 f10; replace f11 := Below.stays b1 f11; replace f12 := Below.stays b1 f12; replace bW := bW.trans (b1.mono bW.size); replace sW := Nat.le_trans sW b1.size; clear b1) | (refine wpList_store_row rfl 24 (.tmp 8) _ rfl _ _ (wa (0)) rfl rfl f3 Tryz.infoWa rfl wa_one ?_))
  have e2 := word_cells (blk_row (c' := wa (0)) f3)
  exact bodyPost_ret (v := .tuple #[wd (0), .bool true]) (by simp [results, Tryz.results5, go_sem, e2, fold_wa]) rfl ⟨rfl, below_setRow bW (by omega) _⟩
set_option maxHeartbeats 8000000 in
theorem rdo_26_yes (a b c n j v : Nat) (w : World) (hj : j + n = 31) (hv : dig b j = v) (H : Hid (∀ w : World, Calls Tryz.prog 21 #[wd a] w fun e w' => e = .returned (.int .i64 (n : Int)) ∧ Below w.heap.size w w')) : Calls Tryz.prog 5 #[.int .u8 26, wd a, wd b, wd c] w fun e w' => e = .returned (.tuple #[wd (v), .bool true]) ∧ Below w.heap.size w w' := by
  obtain ⟨W, hW, f0, f1, f2, f3, bW, sW⟩ := dboxes3 w a b c
  have hz := z4_wa
  have hsz := wa_size
  have hds : ∀ x, (da x).size = 32 := fun x => arr_size _ _ _
  replace sW := Nat.le_of_eq sW.symm
  go_enter Tryz.func5, Tryz.ntmps5
  go_upto_region 1 with fail
  try rw [hW]
  clear hW hz
  go_upto_region 5 with (go_at_call 8; refine (rtk_26 _).mono ?_; rintro e wx ⟨rfl, b1⟩; replace f0 := Below.stays b1 f0; replace f1 := Below.stays b1 f1; replace f2 := Below.stays b1 f2; replace f3 := Below.stays b1 f3; replace bW := bW.trans (b1.mono bW.size); replace sW := Nat.le_trans sW b1.size; clear b1)
  go_upto_region 6 with (first | (refine wpList_load_row rfl 24 _ rfl _ rfl 24 _ (0, 0) _ (by assumption) Tryz.underlying24 rfl Tryz.infoWa ?_) | (go_at_call 13; refine (of_ref a _).mono ?_; rintro e w1 ⟨rfl, b1⟩; replace f0 := Below.stays b1 f0; replace f1 := Below.stays b1 f1; replace f2 := Below.stays b1 f2; replace f3 := Below.stays b1 f3; replace bW := bW.trans (b1.mono bW.size); replace sW := Nat.le_trans sW b1.size; clear b1) | (refine wpList_alloc_row rfl 39 rfl zD zD_run ?_) | (refine wpList_store_row rfl 39 (.tmp 10) _ rfl _ zD (da a) rfl rfl (heap_alloc_new _ _) (infoArr _) rfl (arr_one _ _ _) ?_))
  simp only [Act.put, List.setIfInBounds_toArray, List.set_cons_succ, List.set_cons_zero]
  rw [World.setRow_alloc_new]
  replace f0 := blk_alloc (o' := .cells (da a) 39) f0
  replace f1 := blk_alloc (o' := .cells (da a) 39) f1
  replace f2 := blk_alloc (o' := .cells (da a) 39) f2
  replace f3 := blk_alloc (o' := .cells (da a) 39) f3
  have f10 : (w1.alloc (.cells (da a) 39)).heap[w1.heap.size]? = some (.cells (da a) 39) := heap_alloc_new _ _
  replace bW : Below w.heap.size w (w1.alloc (.cells (da a) 39)) := bW.alloc (by omega) _
  replace sW : w.heap.size + 4 ≤ (w1.alloc (.cells (da a) 39)).heap.size := by simp; omega
  generalize (w1.alloc (.cells (da a) 39)) = w2 at *
  generalize w1.heap.size = p10 at *
  go_upto_region 7 with (first | (refine wpList_load_row rfl 24 _ rfl _ rfl 24 _ (0, 0) _ (by assumption) Tryz.underlying24 rfl Tryz.infoWa ?_) | (go_at_call 13; refine (of_ref b _).mono ?_; rintro e w3 ⟨rfl, b1⟩; replace f0 := Below.stays b1 f0; replace f1 := Below.stays b1 f1; replace f2 := Below.stays b1 f2; replace f3 := Below.stays b1 f3; replace f10 := Below.stays b1 f10; replace bW := bW.trans (b1.mono bW.size); replace sW := Nat.le_trans sW b1.size; clear b1) | (refine wpList_alloc_row rfl 39 rfl zD zD_run ?_) | (refine wpList_store_row rfl 39 (.tmp 11) _ rfl _ zD (da b) rfl rfl (heap_alloc_new _ _) (infoArr _) rfl (arr_one _ _ _) ?_))
  simp only [Act.put, List.setIfInBounds_toArray, List.set_cons_succ, List.set_cons_zero]
  rw [World.setRow_alloc_new]
  replace f0 := blk_alloc (o' := .cells (da b) 39) f0
  replace f1 := blk_alloc (o' := .cells (da b) 39) f1
  replace f2 := blk_alloc (o' := .cells (da b) 39) f2
  replace f3 := blk_alloc (o' := .cells (da b) 39) f3
  replace f10 := blk_alloc (o' := .cells (da b) 39) f10
  have f11 : (w3.alloc (.cells (da b) 39)).heap[w3.heap.size]? = some (.cells (da b) 39) := heap_alloc_new _ _
  replace bW : Below w.heap.size w (w3.alloc (.cells (da b) 39)) := bW.alloc (by omega) _
  replace sW : w.heap.size + 4 ≤ (w3.alloc (.cells (da b) 39)).heap.size := by simp; omega
  generalize (w3.alloc (.cells (da b) 39)) = w4 at *
  generalize w3.heap.size = p11 at *
  go_upto_region 8 with (first | (refine wpList_build_one rfl rfl ?_) | (go_at_call 14; refine (neg_ref 1 _).mono ?_; rintro e w5 ⟨rfl, b1⟩; replace f0 := Below.stays b1 f0; replace f1 := Below.stays b1 f1; replace f2 := Below.stays b1 f2; replace f3 := Below.stays b1 f3; replace f10 := Below.stays b1 f10; replace f11 := Below.stays b1 f11; replace bW := bW.trans (b1.mono bW.size); replace sW := Nat.le_trans sW b1.size; clear b1) | (refine wpList_alloc_row rfl 39 rfl zD zD_run ?_) | (refine wpList_store_row rfl 39 (.tmp 12) _ rfl _ zD (da (M - 1 - 1 % M + 1)) rfl rfl (heap_alloc_new _ _) (infoArr _) rfl (arr_one _ _ _) ?_))
  simp only [Act.put, List.setIfInBounds_toArray, List.set_cons_succ, List.set_cons_zero]
  rw [World.setRow_alloc_new]
  replace f0 := blk_alloc (o' := .cells (da (M - 1 - 1 % M + 1)) 39) f0
  replace f1 := blk_alloc (o' := .cells (da (M - 1 - 1 % M + 1)) 39) f1
  replace f2 := blk_alloc (o' := .cells (da (M - 1 - 1 % M + 1)) 39) f2
  replace f3 := blk_alloc (o' := .cells (da (M - 1 - 1 % M + 1)) 39) f3
  replace f10 := blk_alloc (o' := .cells (da (M - 1 - 1 % M + 1)) 39) f10
  replace f11 := blk_alloc (o' := .cells (da (M - 1 - 1 % M + 1)) 39) f11
  have f12 : (w5.alloc (.cells (da (M - 1 - 1 % M + 1)) 39)).heap[w5.heap.size]? = some (.cells (da (M - 1 - 1 % M + 1)) 39) := heap_alloc_new _ _
  replace bW : Below w.heap.size w (w5.alloc (.cells (da (M - 1 - 1 % M + 1)) 39)) := bW.alloc (by omega) _
  replace sW : w.heap.size + 4 ≤ (w5.alloc (.cells (da (M - 1 - 1 % M + 1)) 39)).heap.size := by simp; omega
  generalize (w5.alloc (.cells (da (M - 1 - 1 % M + 1)) 39)) = w6 at *
  generalize w5.heap.size = p12 at *
  have hgt : decide (31 < (n : Int)) = false := by simp; omega
  have hs31 : (31 : Int) - (n : Int) = (j : Int) := by omega
  have hj32 : j < 32 := by omega
  have hV := Lib.hid (wd_small (n := v) (by have := dig_lt b j; have h256 : (256 : Nat) < B := (by decide); omega))
  have hv8 : v < 256 := by have := dig_lt b j; omega
  go_upto_region 31 with (first | (refine wpList_load_row rfl 24 _ rfl _ rfl 24 _ (0, 0) _ (by assumption) Tryz.underlying24 rfl Tryz.infoWa ?_) | (go_at_call 21; refine (H.out _).mono ?_; rintro e wx ⟨rfl, b1⟩; replace f0 := Below.stays b1 f0; replace f1 := Below.stays b1 f1; replace f2 := Below.stays b1 f2; replace f3 := Below.stays b1 f3; replace f10 := Below.stays b1 f10; replace f11 := Below.stays b1 f11; replace f12 := Below.stays b1 f12; replace bW := bW.trans (b1.mono bW.size); replace sW := Nat.le_trans sW b1.size; clear b1))
  have cj := blk_cell f11 (arr_get .i64 (fun j => ((dig b j : Nat) : Int)) hj32)
  simp only [hv] at cj
  have fo := hV.out.symm
  clear f0 f1 f2 f10 f11 f12 hV
  go_wp2_with (refine wpList_store_row rfl 24 (.tmp 8) _ rfl _ _ (wa (v)) rfl rfl f3 Tryz.infoWa rfl wa_one ?_)
  have e2 := word_cells (blk_row (c' := wa (v)) f3)
  exact bodyPost_ret (v := .tuple #[wd (v), .bool true]) (by simp [results, Tryz.results5, go_sem, e2, fold_wa]) rfl ⟨rfl, below_setRow bW (by omega) _⟩
end Go.Proofs.YtdpbjdecbilaeaaGreat
/- Stage 17: the document's Do, the shifts. -/
namespace Go.Proofs.YtdpbjdecbilaeaaGreat
open Go.RowKit SmWord
set_option maxRecDepth 100000

set_option maxHeartbeats 8000000 in
theorem rdo_27_walk (a b c n t : Nat) (w : World) (H : Hid (∀ w : World, Calls Tryz.prog 21 #[wd a] w fun e w' => e = .returned (.int .i64 (n : Int)) ∧ Below w.heap.size w w')) (H2 : Hid (∀ w : World, Calls Tryz.prog 22 #[.agg (da b), .int .i64 (n : Int)] w fun e w' => e = .returned (.agg (da t)) ∧ Below w.heap.size w w')) : Calls Tryz.prog 5 #[.int .u8 27, wd a, wd b, wd c] w fun e w' => e = .returned (.tuple #[wd (t), .bool true]) ∧ Below w.heap.size w w' := by
  obtain ⟨W, hW, f0, f1, f2, f3, bW, sW⟩ := dboxes3 w a b c
  have hz := z4_wa
  have hsz := wa_size
  have hds : ∀ x, (da x).size = 32 := fun x => arr_size _ _ _
  replace sW := Nat.le_of_eq sW.symm
  go_enter Tryz.func5, Tryz.ntmps5
  go_upto_region 1 with fail
  try rw [hW]
  clear hW hz
  go_upto_region 5 with (go_at_call 8; refine (rtk_27 _).mono ?_; rintro e wx ⟨rfl, b1⟩; replace f0 := Below.stays b1 f0; replace f1 := Below.stays b1 f1; replace f2 := Below.stays b1 f2; replace f3 := Below.stays b1 f3; replace bW := bW.trans (b1.mono bW.size); replace sW := Nat.le_trans sW b1.size; clear b1)
  go_upto_region 6 with (first | (refine wpList_load_row rfl 24 _ rfl _ rfl 24 _ (0, 0) _ (by assumption) Tryz.underlying24 rfl Tryz.infoWa ?_) | (go_at_call 13; refine (of_ref a _).mono ?_; rintro e w1 ⟨rfl, b1⟩; replace f0 := Below.stays b1 f0; replace f1 := Below.stays b1 f1; replace f2 := Below.stays b1 f2; replace f3 := Below.stays b1 f3; replace bW := bW.trans (b1.mono bW.size); replace sW := Nat.le_trans sW b1.size; clear b1) | (refine wpList_alloc_row rfl 39 rfl zD zD_run ?_) | (refine wpList_store_row rfl 39 (.tmp 10) _ rfl _ zD (da a) rfl rfl (heap_alloc_new _ _) (infoArr _) rfl (arr_one _ _ _) ?_))
  simp only [Act.put, List.setIfInBounds_toArray, List.set_cons_succ, List.set_cons_zero]
  rw [World.setRow_alloc_new]
  replace f0 := blk_alloc (o' := .cells (da a) 39) f0
  replace f1 := blk_alloc (o' := .cells (da a) 39) f1
  replace f2 := blk_alloc (o' := .cells (da a) 39) f2
  replace f3 := blk_alloc (o' := .cells (da a) 39) f3
  have f10 : (w1.alloc (.cells (da a) 39)).heap[w1.heap.size]? = some (.cells (da a) 39) := heap_alloc_new _ _
  replace bW : Below w.heap.size w (w1.alloc (.cells (da a) 39)) := bW.alloc (by omega) _
  replace sW : w.heap.size + 4 ≤ (w1.alloc (.cells (da a) 39)).heap.size := by simp; omega
  generalize (w1.alloc (.cells (da a) 39)) = w2 at *
  generalize w1.heap.size = p10 at *
  go_upto_region 7 with (first | (refine wpList_load_row rfl 24 _ rfl _ rfl 24 _ (0, 0) _ (by assumption) Tryz.underlying24 rfl Tryz.infoWa ?_) | (go_at_call 13; refine (of_ref b _).mono ?_; rintro e w3 ⟨rfl, b1⟩; replace f0 := Below.stays b1 f0; replace f1 := Below.stays b1 f1; replace f2 := Below.stays b1 f2; replace f3 := Below.stays b1 f3; replace f10 := Below.stays b1 f10; replace bW := bW.trans (b1.mono bW.size); replace sW := Nat.le_trans sW b1.size; clear b1) | (refine wpList_alloc_row rfl 39 rfl zD zD_run ?_) | (refine wpList_store_row rfl 39 (.tmp 11) _ rfl _ zD (da b) rfl rfl (heap_alloc_new _ _) (infoArr _) rfl (arr_one _ _ _) ?_))
  simp only [Act.put, List.setIfInBounds_toArray, List.set_cons_succ, List.set_cons_zero]
  rw [World.setRow_alloc_new]
  replace f0 := blk_alloc (o' := .cells (da b) 39) f0
  replace f1 := blk_alloc (o' := .cells (da b) 39) f1
  replace f2 := blk_alloc (o' := .cells (da b) 39) f2
  replace f3 := blk_alloc (o' := .cells (da b) 39) f3
  replace f10 := blk_alloc (o' := .cells (da b) 39) f10
  have f11 : (w3.alloc (.cells (da b) 39)).heap[w3.heap.size]? = some (.cells (da b) 39) := heap_alloc_new _ _
  replace bW : Below w.heap.size w (w3.alloc (.cells (da b) 39)) := bW.alloc (by omega) _
  replace sW : w.heap.size + 4 ≤ (w3.alloc (.cells (da b) 39)).heap.size := by simp; omega
  generalize (w3.alloc (.cells (da b) 39)) = w4 at *
  generalize w3.heap.size = p11 at *
  go_upto_region 8 with (first | (refine wpList_build_one rfl rfl ?_) | (go_at_call 14; refine (neg_ref 1 _).mono ?_; rintro e w5 ⟨rfl, b1⟩; replace f0 := Below.stays b1 f0; replace f1 := Below.stays b1 f1; replace f2 := Below.stays b1 f2; replace f3 := Below.stays b1 f3; replace f10 := Below.stays b1 f10; replace f11 := Below.stays b1 f11; replace bW := bW.trans (b1.mono bW.size); replace sW := Nat.le_trans sW b1.size; clear b1) | (refine wpList_alloc_row rfl 39 rfl zD zD_run ?_) | (refine wpList_store_row rfl 39 (.tmp 12) _ rfl _ zD (da (M - 1 - 1 % M + 1)) rfl rfl (heap_alloc_new _ _) (infoArr _) rfl (arr_one _ _ _) ?_))
  simp only [Act.put, List.setIfInBounds_toArray, List.set_cons_succ, List.set_cons_zero]
  rw [World.setRow_alloc_new]
  replace f0 := blk_alloc (o' := .cells (da (M - 1 - 1 % M + 1)) 39) f0
  replace f1 := blk_alloc (o' := .cells (da (M - 1 - 1 % M + 1)) 39) f1
  replace f2 := blk_alloc (o' := .cells (da (M - 1 - 1 % M + 1)) 39) f2
  replace f3 := blk_alloc (o' := .cells (da (M - 1 - 1 % M + 1)) 39) f3
  replace f10 := blk_alloc (o' := .cells (da (M - 1 - 1 % M + 1)) 39) f10
  replace f11 := blk_alloc (o' := .cells (da (M - 1 - 1 % M + 1)) 39) f11
  have f12 : (w5.alloc (.cells (da (M - 1 - 1 % M + 1)) 39)).heap[w5.heap.size]? = some (.cells (da (M - 1 - 1 % M + 1)) 39) := heap_alloc_new _ _
  replace bW : Below w.heap.size w (w5.alloc (.cells (da (M - 1 - 1 % M + 1)) 39)) := bW.alloc (by omega) _
  replace sW : w.heap.size + 4 ≤ (w5.alloc (.cells (da (M - 1 - 1 % M + 1)) 39)).heap.size := by simp; omega
  generalize (w5.alloc (.cells (da (M - 1 - 1 % M + 1)) 39)) = w6 at *
  generalize w5.heap.size = p12 at *
  go_upto_region 33 with fail
  clear f2 f12
  refine region_lastA (aQ := ?aQ) 5 (by kernel_rfl) (by kernel_rfl) (fun w1 => ?hq) (fun w' hb => ?hh)
  case hq =>
    have d0 : ∀ g : Ext w1.on, g.on.heap[w.heap.size]? = some (.cells (wa a) 24) := fun g => g.block (w1.block f0)
    have d1 : ∀ g : Ext w1.on, g.on.heap[w.heap.size + 1]? = some (.cells (wa b) 24) := fun g => g.block (w1.block f1)
    have d2 : ∀ g : Ext w1.on, g.on.heap[p11]? = some (.cells (da b) 39) := fun g => g.block (w1.block f11)
    simp only [List.take_succ_cons, List.take_zero, List.drop_succ_cons, List.drop_zero, List.cons_append, List.nil_append]
    repeat (first | (go_big_quiet_want; refine quiet_load_row 24 _ rfl _ (wa a) rfl (fun w2 hw2 => by obtain ⟨g, rfl⟩ := hw2; exact d0 g) Tryz.underlying24 Tryz.infoWa ?_; simp only [Act.put, List.setIfInBounds_toArray, List.set_cons_succ, List.set_cons_zero]; go_big_quiet_on) | (go_big_quiet_want; refine quiet_load_row 24 _ rfl _ (wa b) rfl (fun w2 hw2 => by obtain ⟨g, rfl⟩ := hw2; exact d1 g) Tryz.underlying24 Tryz.infoWa ?_; simp only [Act.put, List.setIfInBounds_toArray, List.set_cons_succ, List.set_cons_zero]; go_big_quiet_on) | (go_big_quiet_want; refine quiet_load_row 39 _ rfl _ (da b) rfl (fun w2 hw2 => by obtain ⟨g, rfl⟩ := hw2; exact d2 g) Tryz.underlying39 (infoArr _) ?_; simp only [Act.put, List.setIfInBounds_toArray, List.set_cons_succ, List.set_cons_zero]; go_big_quiet_on) | go_big_quiet_step (first | (go_at_call 21; with_reducible exact calls_ext (H.out _)) | (go_at_call 22; with_reducible exact calls_ext (H2.out _)) | (go_at_call 20; with_reducible exact calls_ext (word_ref _ _))))
    refine wpQuiet_nil ?_
    rfl
  case hh =>
    have b1 : Below _ _ w' := hb
    replace f3 := Below.stays b1 f3
    replace bW := bW.trans (b1.mono bW.size)
    replace sW := Nat.le_trans sW b1.size
    clear b1 hb
    simp only [List.drop_succ_cons, List.drop_zero, List.take_succ_cons, List.take_zero]
    refine wpList_store_row rfl 24 (.tmp 8) _ rfl _ _ (wa (t)) rfl rfl f3 Tryz.infoWa rfl wa_one ?_
    refine wpList_nil ?_
    refine ⟨rfl, ?_⟩
    go_wp2
    have e2 := word_cells (blk_row (c' := wa (t)) f3)
    exact bodyPost_ret (v := .tuple #[wd (t), .bool true]) (by simp [results, Tryz.results5, go_sem, e2, fold_wa]) rfl ⟨rfl, below_setRow bW (by omega) _⟩
set_option maxHeartbeats 8000000 in
theorem rdo_28_walk (a b c n t : Nat) (w : World) (hn : n ≤ 256) (H : Hid (∀ w : World, Calls Tryz.prog 21 #[wd a] w fun e w' => e = .returned (.int .i64 (n : Int)) ∧ Below w.heap.size w w')) (H2 : Hid (∀ w : World, Calls Tryz.prog 22 #[.agg (da b), .int .i64 (-(n : Int))] w fun e w' => e = .returned (.agg (da t)) ∧ Below w.heap.size w w')) : Calls Tryz.prog 5 #[.int .u8 28, wd a, wd b, wd c] w fun e w' => e = .returned (.tuple #[wd (t), .bool true]) ∧ Below w.heap.size w w' := by
  obtain ⟨W, hW, f0, f1, f2, f3, bW, sW⟩ := dboxes3 w a b c
  have hz := z4_wa
  have hsz := wa_size
  have hds : ∀ x, (da x).size = 32 := fun x => arr_size _ _ _
  replace sW := Nat.le_of_eq sW.symm
  go_enter Tryz.func5, Tryz.ntmps5
  go_upto_region 1 with fail
  try rw [hW]
  clear hW hz
  go_upto_region 5 with (go_at_call 8; refine (rtk_28 _).mono ?_; rintro e wx ⟨rfl, b1⟩; replace f0 := Below.stays b1 f0; replace f1 := Below.stays b1 f1; replace f2 := Below.stays b1 f2; replace f3 := Below.stays b1 f3; replace bW := bW.trans (b1.mono bW.size); replace sW := Nat.le_trans sW b1.size; clear b1)
  go_upto_region 6 with (first | (refine wpList_load_row rfl 24 _ rfl _ rfl 24 _ (0, 0) _ (by assumption) Tryz.underlying24 rfl Tryz.infoWa ?_) | (go_at_call 13; refine (of_ref a _).mono ?_; rintro e w1 ⟨rfl, b1⟩; replace f0 := Below.stays b1 f0; replace f1 := Below.stays b1 f1; replace f2 := Below.stays b1 f2; replace f3 := Below.stays b1 f3; replace bW := bW.trans (b1.mono bW.size); replace sW := Nat.le_trans sW b1.size; clear b1) | (refine wpList_alloc_row rfl 39 rfl zD zD_run ?_) | (refine wpList_store_row rfl 39 (.tmp 10) _ rfl _ zD (da a) rfl rfl (heap_alloc_new _ _) (infoArr _) rfl (arr_one _ _ _) ?_))
  simp only [Act.put, List.setIfInBounds_toArray, List.set_cons_succ, List.set_cons_zero]
  rw [World.setRow_alloc_new]
  replace f0 := blk_alloc (o' := .cells (da a) 39) f0
  replace f1 := blk_alloc (o' := .cells (da a) 39) f1
  replace f2 := blk_alloc (o' := .cells (da a) 39) f2
  replace f3 := blk_alloc (o' := .cells (da a) 39) f3
  have f10 : (w1.alloc (.cells (da a) 39)).heap[w1.heap.size]? = some (.cells (da a) 39) := heap_alloc_new _ _
  replace bW : Below w.heap.size w (w1.alloc (.cells (da a) 39)) := bW.alloc (by omega) _
  replace sW : w.heap.size + 4 ≤ (w1.alloc (.cells (da a) 39)).heap.size := by simp; omega
  generalize (w1.alloc (.cells (da a) 39)) = w2 at *
  generalize w1.heap.size = p10 at *
  go_upto_region 7 with (first | (refine wpList_load_row rfl 24 _ rfl _ rfl 24 _ (0, 0) _ (by assumption) Tryz.underlying24 rfl Tryz.infoWa ?_) | (go_at_call 13; refine (of_ref b _).mono ?_; rintro e w3 ⟨rfl, b1⟩; replace f0 := Below.stays b1 f0; replace f1 := Below.stays b1 f1; replace f2 := Below.stays b1 f2; replace f3 := Below.stays b1 f3; replace f10 := Below.stays b1 f10; replace bW := bW.trans (b1.mono bW.size); replace sW := Nat.le_trans sW b1.size; clear b1) | (refine wpList_alloc_row rfl 39 rfl zD zD_run ?_) | (refine wpList_store_row rfl 39 (.tmp 11) _ rfl _ zD (da b) rfl rfl (heap_alloc_new _ _) (infoArr _) rfl (arr_one _ _ _) ?_))
  simp only [Act.put, List.setIfInBounds_toArray, List.set_cons_succ, List.set_cons_zero]
  rw [World.setRow_alloc_new]
  replace f0 := blk_alloc (o' := .cells (da b) 39) f0
  replace f1 := blk_alloc (o' := .cells (da b) 39) f1
  replace f2 := blk_alloc (o' := .cells (da b) 39) f2
  replace f3 := blk_alloc (o' := .cells (da b) 39) f3
  replace f10 := blk_alloc (o' := .cells (da b) 39) f10
  have f11 : (w3.alloc (.cells (da b) 39)).heap[w3.heap.size]? = some (.cells (da b) 39) := heap_alloc_new _ _
  replace bW : Below w.heap.size w (w3.alloc (.cells (da b) 39)) := bW.alloc (by omega) _
  replace sW : w.heap.size + 4 ≤ (w3.alloc (.cells (da b) 39)).heap.size := by simp; omega
  generalize (w3.alloc (.cells (da b) 39)) = w4 at *
  generalize w3.heap.size = p11 at *
  go_upto_region 8 with (first | (refine wpList_build_one rfl rfl ?_) | (go_at_call 14; refine (neg_ref 1 _).mono ?_; rintro e w5 ⟨rfl, b1⟩; replace f0 := Below.stays b1 f0; replace f1 := Below.stays b1 f1; replace f2 := Below.stays b1 f2; replace f3 := Below.stays b1 f3; replace f10 := Below.stays b1 f10; replace f11 := Below.stays b1 f11; replace bW := bW.trans (b1.mono bW.size); replace sW := Nat.le_trans sW b1.size; clear b1) | (refine wpList_alloc_row rfl 39 rfl zD zD_run ?_) | (refine wpList_store_row rfl 39 (.tmp 12) _ rfl _ zD (da (M - 1 - 1 % M + 1)) rfl rfl (heap_alloc_new _ _) (infoArr _) rfl (arr_one _ _ _) ?_))
  simp only [Act.put, List.setIfInBounds_toArray, List.set_cons_succ, List.set_cons_zero]
  rw [World.setRow_alloc_new]
  replace f0 := blk_alloc (o' := .cells (da (M - 1 - 1 % M + 1)) 39) f0
  replace f1 := blk_alloc (o' := .cells (da (M - 1 - 1 % M + 1)) 39) f1
  replace f2 := blk_alloc (o' := .cells (da (M - 1 - 1 % M + 1)) 39) f2
  replace f3 := blk_alloc (o' := .cells (da (M - 1 - 1 % M + 1)) 39) f3
  replace f10 := blk_alloc (o' := .cells (da (M - 1 - 1 % M + 1)) 39) f10
  replace f11 := blk_alloc (o' := .cells (da (M - 1 - 1 % M + 1)) 39) f11
  have f12 : (w5.alloc (.cells (da (M - 1 - 1 % M + 1)) 39)).heap[w5.heap.size]? = some (.cells (da (M - 1 - 1 % M + 1)) 39) := heap_alloc_new _ _
  replace bW : Below w.heap.size w (w5.alloc (.cells (da (M - 1 - 1 % M + 1)) 39)) := bW.alloc (by omega) _
  replace sW : w.heap.size + 4 ≤ (w5.alloc (.cells (da (M - 1 - 1 % M + 1)) 39)).heap.size := by simp; omega
  generalize (w5.alloc (.cells (da (M - 1 - 1 % M + 1)) 39)) = w6 at *
  generalize w5.heap.size = p12 at *
  go_upto_region 35 with fail
  clear f2 f12
  refine region_lastA (aQ := ?aQ) 6 (by kernel_rfl) (by kernel_rfl) (fun w1 => ?hq) (fun w' hb => ?hh)
  case hq =>
    have d0 : ∀ g : Ext w1.on, g.on.heap[w.heap.size]? = some (.cells (wa a) 24) := fun g => g.block (w1.block f0)
    have d1 : ∀ g : Ext w1.on, g.on.heap[w.heap.size + 1]? = some (.cells (wa b) 24) := fun g => g.block (w1.block f1)
    have d2 : ∀ g : Ext w1.on, g.on.heap[p11]? = some (.cells (da b) 39) := fun g => g.block (w1.block f11)
    simp only [List.take_succ_cons, List.take_zero, List.drop_succ_cons, List.drop_zero, List.cons_append, List.nil_append]
    repeat (first | (go_big_quiet_want; refine quiet_load_row 24 _ rfl _ (wa a) rfl (fun w2 hw2 => by obtain ⟨g, rfl⟩ := hw2; exact d0 g) Tryz.underlying24 Tryz.infoWa ?_; simp only [Act.put, List.setIfInBounds_toArray, List.set_cons_succ, List.set_cons_zero]; go_big_quiet_on) | (go_big_quiet_want; refine quiet_load_row 24 _ rfl _ (wa b) rfl (fun w2 hw2 => by obtain ⟨g, rfl⟩ := hw2; exact d1 g) Tryz.underlying24 Tryz.infoWa ?_; simp only [Act.put, List.setIfInBounds_toArray, List.set_cons_succ, List.set_cons_zero]; go_big_quiet_on) | (go_big_quiet_want; refine quiet_load_row 39 _ rfl _ (da b) rfl (fun w2 hw2 => by obtain ⟨g, rfl⟩ := hw2; exact d2 g) Tryz.underlying39 (infoArr _) ?_; simp only [Act.put, List.setIfInBounds_toArray, List.set_cons_succ, List.set_cons_zero]; go_big_quiet_on) | go_big_quiet_step (first | (go_at_call 21; with_reducible exact calls_ext (H.out _)) | (go_at_call 22; with_reducible exact calls_ext (H2.out _)) | (go_at_call 20; with_reducible exact calls_ext (word_ref _ _))))
    refine wpQuiet_nil ?_
    rfl
  case hh =>
    have b1 : Below _ _ w' := hb
    replace f3 := Below.stays b1 f3
    replace bW := bW.trans (b1.mono bW.size)
    replace sW := Nat.le_trans sW b1.size
    clear b1 hb
    simp only [List.drop_succ_cons, List.drop_zero, List.take_succ_cons, List.take_zero]
    refine wpList_store_row rfl 24 (.tmp 8) _ rfl _ _ (wa (t)) rfl rfl f3 Tryz.infoWa rfl wa_one ?_
    refine wpList_nil ?_
    refine ⟨rfl, ?_⟩
    go_wp2
    have e2 := word_cells (blk_row (c' := wa (t)) f3)
    exact bodyPost_ret (v := .tuple #[wd (t), .bool true]) (by simp [results, Tryz.results5, go_sem, e2, fold_wa]) rfl ⟨rfl, below_setRow bW (by omega) _⟩
set_option maxHeartbeats 8000000 in
theorem rdo_29_walk (a b c n t : Nat) (w : World) (H : Hid (∀ w : World, Calls Tryz.prog 21 #[wd a] w fun e w' => e = .returned (.int .i64 (n : Int)) ∧ Below w.heap.size w w')) (H2 : Hid (∀ w : World, Calls Tryz.prog 23 #[wd b, .int .i64 (n : Int)] w fun e w' => e = .returned (wd t) ∧ Below w.heap.size w w')) : Calls Tryz.prog 5 #[.int .u8 29, wd a, wd b, wd c] w fun e w' => e = .returned (.tuple #[wd (t), .bool true]) ∧ Below w.heap.size w w' := by
  obtain ⟨W, hW, f0, f1, f2, f3, bW, sW⟩ := dboxes3 w a b c
  have hz := z4_wa
  have hsz := wa_size
  have hds : ∀ x, (da x).size = 32 := fun x => arr_size _ _ _
  replace sW := Nat.le_of_eq sW.symm
  go_enter Tryz.func5, Tryz.ntmps5
  go_upto_region 1 with fail
  try rw [hW]
  clear hW hz
  go_upto_region 5 with (go_at_call 8; refine (rtk_29 _).mono ?_; rintro e wx ⟨rfl, b1⟩; replace f0 := Below.stays b1 f0; replace f1 := Below.stays b1 f1; replace f2 := Below.stays b1 f2; replace f3 := Below.stays b1 f3; replace bW := bW.trans (b1.mono bW.size); replace sW := Nat.le_trans sW b1.size; clear b1)
  go_upto_region 6 with (first | (refine wpList_load_row rfl 24 _ rfl _ rfl 24 _ (0, 0) _ (by assumption) Tryz.underlying24 rfl Tryz.infoWa ?_) | (go_at_call 13; refine (of_ref a _).mono ?_; rintro e w1 ⟨rfl, b1⟩; replace f0 := Below.stays b1 f0; replace f1 := Below.stays b1 f1; replace f2 := Below.stays b1 f2; replace f3 := Below.stays b1 f3; replace bW := bW.trans (b1.mono bW.size); replace sW := Nat.le_trans sW b1.size; clear b1) | (refine wpList_alloc_row rfl 39 rfl zD zD_run ?_) | (refine wpList_store_row rfl 39 (.tmp 10) _ rfl _ zD (da a) rfl rfl (heap_alloc_new _ _) (infoArr _) rfl (arr_one _ _ _) ?_))
  simp only [Act.put, List.setIfInBounds_toArray, List.set_cons_succ, List.set_cons_zero]
  rw [World.setRow_alloc_new]
  replace f0 := blk_alloc (o' := .cells (da a) 39) f0
  replace f1 := blk_alloc (o' := .cells (da a) 39) f1
  replace f2 := blk_alloc (o' := .cells (da a) 39) f2
  replace f3 := blk_alloc (o' := .cells (da a) 39) f3
  have f10 : (w1.alloc (.cells (da a) 39)).heap[w1.heap.size]? = some (.cells (da a) 39) := heap_alloc_new _ _
  replace bW : Below w.heap.size w (w1.alloc (.cells (da a) 39)) := bW.alloc (by omega) _
  replace sW : w.heap.size + 4 ≤ (w1.alloc (.cells (da a) 39)).heap.size := by simp; omega
  generalize (w1.alloc (.cells (da a) 39)) = w2 at *
  generalize w1.heap.size = p10 at *
  go_upto_region 7 with (first | (refine wpList_load_row rfl 24 _ rfl _ rfl 24 _ (0, 0) _ (by assumption) Tryz.underlying24 rfl Tryz.infoWa ?_) | (go_at_call 13; refine (of_ref b _).mono ?_; rintro e w3 ⟨rfl, b1⟩; replace f0 := Below.stays b1 f0; replace f1 := Below.stays b1 f1; replace f2 := Below.stays b1 f2; replace f3 := Below.stays b1 f3; replace f10 := Below.stays b1 f10; replace bW := bW.trans (b1.mono bW.size); replace sW := Nat.le_trans sW b1.size; clear b1) | (refine wpList_alloc_row rfl 39 rfl zD zD_run ?_) | (refine wpList_store_row rfl 39 (.tmp 11) _ rfl _ zD (da b) rfl rfl (heap_alloc_new _ _) (infoArr _) rfl (arr_one _ _ _) ?_))
  simp only [Act.put, List.setIfInBounds_toArray, List.set_cons_succ, List.set_cons_zero]
  rw [World.setRow_alloc_new]
  replace f0 := blk_alloc (o' := .cells (da b) 39) f0
  replace f1 := blk_alloc (o' := .cells (da b) 39) f1
  replace f2 := blk_alloc (o' := .cells (da b) 39) f2
  replace f3 := blk_alloc (o' := .cells (da b) 39) f3
  replace f10 := blk_alloc (o' := .cells (da b) 39) f10
  have f11 : (w3.alloc (.cells (da b) 39)).heap[w3.heap.size]? = some (.cells (da b) 39) := heap_alloc_new _ _
  replace bW : Below w.heap.size w (w3.alloc (.cells (da b) 39)) := bW.alloc (by omega) _
  replace sW : w.heap.size + 4 ≤ (w3.alloc (.cells (da b) 39)).heap.size := by simp; omega
  generalize (w3.alloc (.cells (da b) 39)) = w4 at *
  generalize w3.heap.size = p11 at *
  go_upto_region 8 with (first | (refine wpList_build_one rfl rfl ?_) | (go_at_call 14; refine (neg_ref 1 _).mono ?_; rintro e w5 ⟨rfl, b1⟩; replace f0 := Below.stays b1 f0; replace f1 := Below.stays b1 f1; replace f2 := Below.stays b1 f2; replace f3 := Below.stays b1 f3; replace f10 := Below.stays b1 f10; replace f11 := Below.stays b1 f11; replace bW := bW.trans (b1.mono bW.size); replace sW := Nat.le_trans sW b1.size; clear b1) | (refine wpList_alloc_row rfl 39 rfl zD zD_run ?_) | (refine wpList_store_row rfl 39 (.tmp 12) _ rfl _ zD (da (M - 1 - 1 % M + 1)) rfl rfl (heap_alloc_new _ _) (infoArr _) rfl (arr_one _ _ _) ?_))
  simp only [Act.put, List.setIfInBounds_toArray, List.set_cons_succ, List.set_cons_zero]
  rw [World.setRow_alloc_new]
  replace f0 := blk_alloc (o' := .cells (da (M - 1 - 1 % M + 1)) 39) f0
  replace f1 := blk_alloc (o' := .cells (da (M - 1 - 1 % M + 1)) 39) f1
  replace f2 := blk_alloc (o' := .cells (da (M - 1 - 1 % M + 1)) 39) f2
  replace f3 := blk_alloc (o' := .cells (da (M - 1 - 1 % M + 1)) 39) f3
  replace f10 := blk_alloc (o' := .cells (da (M - 1 - 1 % M + 1)) 39) f10
  replace f11 := blk_alloc (o' := .cells (da (M - 1 - 1 % M + 1)) 39) f11
  have f12 : (w5.alloc (.cells (da (M - 1 - 1 % M + 1)) 39)).heap[w5.heap.size]? = some (.cells (da (M - 1 - 1 % M + 1)) 39) := heap_alloc_new _ _
  replace bW : Below w.heap.size w (w5.alloc (.cells (da (M - 1 - 1 % M + 1)) 39)) := bW.alloc (by omega) _
  replace sW : w.heap.size + 4 ≤ (w5.alloc (.cells (da (M - 1 - 1 % M + 1)) 39)).heap.size := by simp; omega
  generalize (w5.alloc (.cells (da (M - 1 - 1 % M + 1)) 39)) = w6 at *
  generalize w5.heap.size = p12 at *
  go_upto_region 36 with fail
  clear f2 f12
  refine region_lastA (aQ := ?aQ) 4 (by kernel_rfl) (by kernel_rfl) (fun w1 => ?hq) (fun w' hb => ?hh)
  case hq =>
    have d0 : ∀ g : Ext w1.on, g.on.heap[w.heap.size]? = some (.cells (wa a) 24) := fun g => g.block (w1.block f0)
    have d1 : ∀ g : Ext w1.on, g.on.heap[w.heap.size + 1]? = some (.cells (wa b) 24) := fun g => g.block (w1.block f1)
    have d2 : ∀ g : Ext w1.on, g.on.heap[p11]? = some (.cells (da b) 39) := fun g => g.block (w1.block f11)
    simp only [List.take_succ_cons, List.take_zero, List.drop_succ_cons, List.drop_zero, List.cons_append, List.nil_append]
    repeat (first | (go_big_quiet_want; refine quiet_load_row 24 _ rfl _ (wa a) rfl (fun w2 hw2 => by obtain ⟨g, rfl⟩ := hw2; exact d0 g) Tryz.underlying24 Tryz.infoWa ?_; simp only [Act.put, List.setIfInBounds_toArray, List.set_cons_succ, List.set_cons_zero]; go_big_quiet_on) | (go_big_quiet_want; refine quiet_load_row 24 _ rfl _ (wa b) rfl (fun w2 hw2 => by obtain ⟨g, rfl⟩ := hw2; exact d1 g) Tryz.underlying24 Tryz.infoWa ?_; simp only [Act.put, List.setIfInBounds_toArray, List.set_cons_succ, List.set_cons_zero]; go_big_quiet_on) | (go_big_quiet_want; refine quiet_load_row 39 _ rfl _ (da b) rfl (fun w2 hw2 => by obtain ⟨g, rfl⟩ := hw2; exact d2 g) Tryz.underlying39 (infoArr _) ?_; simp only [Act.put, List.setIfInBounds_toArray, List.set_cons_succ, List.set_cons_zero]; go_big_quiet_on) | go_big_quiet_step (first | (go_at_call 21; with_reducible exact calls_ext (H.out _)) | (go_at_call 23; with_reducible exact calls_ext (H2.out _))))
    refine wpQuiet_nil ?_
    rfl
  case hh =>
    have b1 : Below _ _ w' := hb
    replace f3 := Below.stays b1 f3
    replace bW := bW.trans (b1.mono bW.size)
    replace sW := Nat.le_trans sW b1.size
    clear b1 hb
    simp only [List.drop_succ_cons, List.drop_zero, List.take_succ_cons, List.take_zero]
    refine wpList_store_row rfl 24 (.tmp 8) _ rfl _ _ (wa (t)) rfl rfl f3 Tryz.infoWa rfl wa_one ?_
    refine wpList_nil ?_
    refine ⟨rfl, ?_⟩
    go_wp2
    have e2 := word_cells (blk_row (c' := wa (t)) f3)
    exact bodyPost_ret (v := .tuple #[wd (t), .bool true]) (by simp [results, Tryz.results5, go_sem, e2, fold_wa]) rfl ⟨rfl, below_setRow bW (by omega) _⟩
end Go.Proofs.YtdpbjdecbilaeaaGreat
/- Stage 17: what the document's Do answers, of every byte. -/
namespace Go.Proofs.YtdpbjdecbilaeaaGreat
open Go.RowKit SmWord
set_option maxRecDepth 100000

theorem cmpN_pos (m n : Nat) : decide (0 < cmpN m n) = decide (n < m) := by
  unfold cmpN
  rw [Bool.eq_iff_iff, decide_eq_true_iff, decide_eq_true_iff]
  split
  · omega
  · split <;> omega
theorem sh_le (a : Nat) : sh a ≤ 256 := by
  unfold sh
  split <;> omega
theorem ones_all : M - 1 - 1 % M + 1 = kAll := by decide
theorem by_yes {a b : Nat} (h : sh a ≤ 31) : byN a b = dig b (31 - sh a) := by
  unfold sh at h ⊢
  unfold byN byteV
  cases hs : smallB a
  · rw [hs] at h
    simp at h
  · rw [hs] at h
    simp only [if_true] at h ⊢
    rw [if_pos (by omega), show min (l0 a) 256 = l0 a by omega]
theorem by_no {a b : Nat} (h : 31 < sh a) : byN a b = 0 := by
  unfold sh at h
  unfold byN byteV
  cases hs : smallB a
  · simp
  · rw [hs] at h
    simp only [if_true] at h ⊢
    rw [if_neg (by omega)]
theorem rdoc_1 (a b c : Nat) (w : World) : Calls Tryz.prog 5 #[.int .u8 1, wd a, wd b, wd c] w fun e w' => e = .returned (.tuple #[wd (a + b), .bool true]) ∧ Below w.heap.size w w' := by
  exact rdo_1 a b c w
theorem rdoc_2 (a b c : Nat) (w : World) : Calls Tryz.prog 5 #[.int .u8 2, wd a, wd b, wd c] w fun e w' => e = .returned (.tuple #[wd (a * b), .bool true]) ∧ Below w.heap.size w w' := by
  exact rdo_2 a b c w
theorem rdoc_3 (a b c : Nat) (w : World) : Calls Tryz.prog 5 #[.int .u8 3, wd a, wd b, wd c] w fun e w' => e = .returned (.tuple #[wd (a + (M - 1 - b % M + 1)), .bool true]) ∧ Below w.heap.size w w' := by
  exact rdo_3 a b c w
theorem rdoc_4 (a b c : Nat) (w : World) : Calls Tryz.prog 5 #[.int .u8 4, wd a, wd b, wd c] w fun e w' => e = .returned (.tuple #[wd (a % M / (b % M)), .bool true]) ∧ Below w.heap.size w w' := by
  exact rdo_4 a b c w
theorem rdoc_5 (a b c : Nat) (w : World) : Calls Tryz.prog 5 #[.int .u8 5, wd a, wd b, wd c] w fun e w' => e = .returned (.tuple #[wd (sq a b), .bool true]) ∧ Below w.heap.size w w' := by
  exact rdo_5 a b c w
theorem rdoc_6 (a b c : Nat) (w : World) : Calls Tryz.prog 5 #[.int .u8 6, wd a, wd b, wd c] w fun e w' => e = .returned (.tuple #[wd (rs (a % M) (b % M)), .bool true]) ∧ Below w.heap.size w w' := by
  exact rdo_6 a b c w
theorem rdoc_7 (a b c : Nat) (w : World) : Calls Tryz.prog 5 #[.int .u8 7, wd a, wd b, wd c] w fun e w' => e = .returned (.tuple #[wd (sr a b), .bool true]) ∧ Below w.heap.size w w' := by
  exact rdo_7 a b c w
theorem rdoc_8 (a b c : Nat) (w : World) : Calls Tryz.prog 5 #[.int .u8 8, wd a, wd b, wd c] w fun e w' => e = .returned (.tuple #[wd (rs (a % M + b % M) (c % M)), .bool true]) ∧ Below w.heap.size w w' := by
  exact rdo_8 a b c w
theorem rdoc_9 (a b c : Nat) (w : World) : Calls Tryz.prog 5 #[.int .u8 9, wd a, wd b, wd c] w fun e w' => e = .returned (.tuple #[wd (rs (a % M * (b % M)) (c % M)), .bool true]) ∧ Below w.heap.size w w' := by
  exact rdo_9 a b c w
theorem rdoc_10 (a b c : Nat) (w : World) : Calls Tryz.prog 5 #[.int .u8 10, wd a, wd b, wd c] w fun e w' => e = .returned (.tuple #[wd (a ^ (b % M)), .bool true]) ∧ Below w.heap.size w w' := by
  exact rdo_10 a b c w
theorem rdoc_11 (a b c : Nat) (w : World) : Calls Tryz.prog 5 #[.int .u8 11, wd a, wd b, wd c] w fun e w' => e = .returned (.tuple #[wd (exn a b), .bool true]) ∧ Below w.heap.size w w' := by
  exact rdo_11 a b c w
theorem rdoc_16 (a b c : Nat) (w : World) : Calls Tryz.prog 5 #[.int .u8 16, wd a, wd b, wd c] w fun e w' => e = .returned (.tuple #[wd (fl (decide (a % M < b % M))), .bool true]) ∧ Below w.heap.size w w' := by
  have h := rdo_16_walk a b c _ w (Lib.hid fun w => compare_ref a b w)
  rw [cmpN_neg] at h
  exact h
theorem rdoc_17 (a b c : Nat) (w : World) : Calls Tryz.prog 5 #[.int .u8 17, wd a, wd b, wd c] w fun e w' => e = .returned (.tuple #[wd (fl (decide (b % M < a % M))), .bool true]) ∧ Below w.heap.size w w' := by
  have h := rdo_17_walk a b c _ w (Lib.hid fun w => compare_ref a b w)
  rw [cmpN_pos] at h
  exact h
theorem rdoc_18 (a b c : Nat) (w : World) : Calls Tryz.prog 5 #[.int .u8 18, wd a, wd b, wd c] w fun e w' => e = .returned (.tuple #[wd (fl (sless a b)), .bool true]) ∧ Below w.heap.size w w' := by
  exact rdo_18_walk a b c _ w (Lib.hid fun w => rless_wd a b w)
theorem rdoc_19 (a b c : Nat) (w : World) : Calls Tryz.prog 5 #[.int .u8 19, wd a, wd b, wd c] w fun e w' => e = .returned (.tuple #[wd (fl (sless b a)), .bool true]) ∧ Below w.heap.size w w' := by
  exact rdo_19_walk a b c _ w (Lib.hid fun w => rless_wd b a w)
theorem rdoc_20 (a b c : Nat) (w : World) : Calls Tryz.prog 5 #[.int .u8 20, wd a, wd b, wd c] w fun e w' => e = .returned (.tuple #[wd (fl (decide (a % M = b % M))), .bool true]) ∧ Below w.heap.size w w' := by
  exact rdo_20_walk a b c _ w (fun w => equal_wa a b w)
theorem rdoc_21 (a b c : Nat) (w : World) : Calls Tryz.prog 5 #[.int .u8 21, wd a, wd b, wd c] w fun e w' => e = .returned (.tuple #[wd (fl (decide (a % M = 0 % M))), .bool true]) ∧ Below w.heap.size w w' := by
  exact rdo_21_walk a b c _ w (Lib.hid fun w => rzero a w)
theorem rdoc_22 (a b c : Nat) (w : World) : Calls Tryz.prog 5 #[.int .u8 22, wd a, wd b, wd c] w fun e w' => e = .returned (.tuple #[wd (num (l0 a &&& l0 b) (l1 a &&& l1 b) (l2 a &&& l2 b) (l3 a &&& l3 b)), .bool true]) ∧ Below w.heap.size w w' := by
  rw [wd_congr (and_num a b)]
  exact rdo_22_walk a b c _ w (Lib.hid fun w => logic_ref0 a b _ w (Lib.hid (and_bits a b)))
theorem rdoc_23 (a b c : Nat) (w : World) : Calls Tryz.prog 5 #[.int .u8 23, wd a, wd b, wd c] w fun e w' => e = .returned (.tuple #[wd (num (l0 a ||| l0 b) (l1 a ||| l1 b) (l2 a ||| l2 b) (l3 a ||| l3 b)), .bool true]) ∧ Below w.heap.size w w' := by
  rw [wd_congr (or_num a b)]
  exact rdo_23_walk a b c _ w (Lib.hid fun w => logic_ref1 a b _ w (Lib.hid (or_bits a b)))
theorem rdoc_24 (a b c : Nat) (w : World) : Calls Tryz.prog 5 #[.int .u8 24, wd a, wd b, wd c] w fun e w' => e = .returned (.tuple #[wd (num (l0 a ^^^ l0 b) (l1 a ^^^ l1 b) (l2 a ^^^ l2 b) (l3 a ^^^ l3 b)), .bool true]) ∧ Below w.heap.size w w' := by
  rw [wd_congr (xor_num a b)]
  exact rdo_24_walk a b c _ w (Lib.hid fun w => logic_ref2 a b _ w (Lib.hid (xor_bits a b)))
theorem rdoc_25 (a b c : Nat) (w : World) : Calls Tryz.prog 5 #[.int .u8 25, wd a, wd b, wd c] w fun e w' => e = .returned (.tuple #[wd (M - 1 - a % M), .bool true]) ∧ Below w.heap.size w w' := by
  have h := rdo_25_walk a b c (M - 1 - a % M) w
  rw [ones_all] at h
  exact h (Lib.hid fun w => logic_ref2 a kAll _ w (Lib.hid (not_bits a)))
theorem rdoc_26 (a b c : Nat) (w : World) : Calls Tryz.prog 5 #[.int .u8 26, wd a, wd b, wd c] w fun e w' => e = .returned (.tuple #[wd (byN a b), .bool true]) ∧ Below w.heap.size w w' := by
  by_cases h : 31 < sh a
  · rw [by_no h]
    exact rdo_26_no a b c (sh a) w h (sh_le a) (Lib.hid fun w => rby a w)
  · rw [by_yes (by omega)]
    exact rdo_26_yes a b c (sh a) (31 - sh a) _ w (by omega) rfl (Lib.hid fun w => rby a w)
theorem rdoc_27 (a b c : Nat) (w : World) : Calls Tryz.prog 5 #[.int .u8 27, wd a, wd b, wd c] w fun e w' => e = .returned (.tuple #[wd (b * 2 ^ sh a), .bool true]) ∧ Below w.heap.size w w' := by
  have hs := sh_le a
  rw [show wd (b * 2 ^ sh a) = wd (b % M * 2 ^ sh a) from wd_congr ((Nat.mul_mod b (2 ^ sh a) M).trans (by rw [Nat.mul_mod (b % M) (2 ^ sh a) M, Nat.mod_mod]))]
  exact rdo_27_walk a b c (sh a) _ w (Lib.hid fun w => rby a w) (Lib.hid fun w => shift_ref b _ _ w (by omega) (by omega) (Lib.hid (up_bits b (sh a))))
theorem rdoc_28 (a b c : Nat) (w : World) : Calls Tryz.prog 5 #[.int .u8 28, wd a, wd b, wd c] w fun e w' => e = .returned (.tuple #[wd (b % M / 2 ^ sh a), .bool true]) ∧ Below w.heap.size w w' := by
  have hs := sh_le a
  exact rdo_28_walk a b c (sh a) _ w hs (Lib.hid fun w => rby a w) (Lib.hid fun w => shift_ref b _ _ w (by omega) (by omega) (Lib.hid (down_bits b (sh a))))
theorem rdoc_29 (a b c : Nat) (w : World) : Calls Tryz.prog 5 #[.int .u8 29, wd a, wd b, wd c] w fun e w' => e = .returned (.tuple #[wd (sar b (sh a)), .bool true]) ∧ Below w.heap.size w w' := by
  have hs := sh_le a
  exact rdo_29_walk a b c (sh a) _ w (Lib.hid fun w => rby a w) (Lib.hid fun w => rsar_wd b (sh a) (sh a) (by omega) w)
theorem rdov_1 (a b c : Nat) (w : World) : Calls Tryz.prog 5 #[.int .u8 1, wd a, wd b, wd c] w fun e w' => e = .returned (.tuple #[wd (aluV 1 a b c), .bool (aluB 1 a b c)]) ∧ Below w.heap.size w w' := by
  rw [aluV, aluB, alu_1, Option.getD_some, Option.isSome_some]
  exact rdoc_1 a b c w
theorem rdov_2 (a b c : Nat) (w : World) : Calls Tryz.prog 5 #[.int .u8 2, wd a, wd b, wd c] w fun e w' => e = .returned (.tuple #[wd (aluV 2 a b c), .bool (aluB 2 a b c)]) ∧ Below w.heap.size w w' := by
  rw [aluV, aluB, alu_2, Option.getD_some, Option.isSome_some]
  exact rdoc_2 a b c w
theorem rdov_3 (a b c : Nat) (w : World) : Calls Tryz.prog 5 #[.int .u8 3, wd a, wd b, wd c] w fun e w' => e = .returned (.tuple #[wd (aluV 3 a b c), .bool (aluB 3 a b c)]) ∧ Below w.heap.size w w' := by
  rw [aluV, aluB, alu_3, Option.getD_some, Option.isSome_some]
  exact rdoc_3 a b c w
theorem rdov_4 (a b c : Nat) (w : World) : Calls Tryz.prog 5 #[.int .u8 4, wd a, wd b, wd c] w fun e w' => e = .returned (.tuple #[wd (aluV 4 a b c), .bool (aluB 4 a b c)]) ∧ Below w.heap.size w w' := by
  rw [aluV, aluB, alu_4, Option.getD_some, Option.isSome_some]
  exact rdoc_4 a b c w
theorem rdov_5 (a b c : Nat) (w : World) : Calls Tryz.prog 5 #[.int .u8 5, wd a, wd b, wd c] w fun e w' => e = .returned (.tuple #[wd (aluV 5 a b c), .bool (aluB 5 a b c)]) ∧ Below w.heap.size w w' := by
  rw [aluV, aluB, alu_5, Option.getD_some, Option.isSome_some]
  exact rdoc_5 a b c w
theorem rdov_6 (a b c : Nat) (w : World) : Calls Tryz.prog 5 #[.int .u8 6, wd a, wd b, wd c] w fun e w' => e = .returned (.tuple #[wd (aluV 6 a b c), .bool (aluB 6 a b c)]) ∧ Below w.heap.size w w' := by
  rw [aluV, aluB, alu_6, Option.getD_some, Option.isSome_some]
  exact rdoc_6 a b c w
theorem rdov_7 (a b c : Nat) (w : World) : Calls Tryz.prog 5 #[.int .u8 7, wd a, wd b, wd c] w fun e w' => e = .returned (.tuple #[wd (aluV 7 a b c), .bool (aluB 7 a b c)]) ∧ Below w.heap.size w w' := by
  rw [aluV, aluB, alu_7, Option.getD_some, Option.isSome_some]
  exact rdoc_7 a b c w
theorem rdov_8 (a b c : Nat) (w : World) : Calls Tryz.prog 5 #[.int .u8 8, wd a, wd b, wd c] w fun e w' => e = .returned (.tuple #[wd (aluV 8 a b c), .bool (aluB 8 a b c)]) ∧ Below w.heap.size w w' := by
  rw [aluV, aluB, alu_8, Option.getD_some, Option.isSome_some]
  exact rdoc_8 a b c w
theorem rdov_9 (a b c : Nat) (w : World) : Calls Tryz.prog 5 #[.int .u8 9, wd a, wd b, wd c] w fun e w' => e = .returned (.tuple #[wd (aluV 9 a b c), .bool (aluB 9 a b c)]) ∧ Below w.heap.size w w' := by
  rw [aluV, aluB, alu_9, Option.getD_some, Option.isSome_some]
  exact rdoc_9 a b c w
theorem rdov_10 (a b c : Nat) (w : World) : Calls Tryz.prog 5 #[.int .u8 10, wd a, wd b, wd c] w fun e w' => e = .returned (.tuple #[wd (aluV 10 a b c), .bool (aluB 10 a b c)]) ∧ Below w.heap.size w w' := by
  rw [aluV, aluB, alu_10, Option.getD_some, Option.isSome_some]
  exact rdoc_10 a b c w
theorem rdov_11 (a b c : Nat) (w : World) : Calls Tryz.prog 5 #[.int .u8 11, wd a, wd b, wd c] w fun e w' => e = .returned (.tuple #[wd (aluV 11 a b c), .bool (aluB 11 a b c)]) ∧ Below w.heap.size w w' := by
  rw [aluV, aluB, alu_11, Option.getD_some, Option.isSome_some]
  exact rdoc_11 a b c w
theorem rdov_16 (a b c : Nat) (w : World) : Calls Tryz.prog 5 #[.int .u8 16, wd a, wd b, wd c] w fun e w' => e = .returned (.tuple #[wd (aluV 16 a b c), .bool (aluB 16 a b c)]) ∧ Below w.heap.size w w' := by
  rw [aluV, aluB, alu_16, Option.getD_some, Option.isSome_some]
  exact rdoc_16 a b c w
theorem rdov_17 (a b c : Nat) (w : World) : Calls Tryz.prog 5 #[.int .u8 17, wd a, wd b, wd c] w fun e w' => e = .returned (.tuple #[wd (aluV 17 a b c), .bool (aluB 17 a b c)]) ∧ Below w.heap.size w w' := by
  rw [aluV, aluB, alu_17, Option.getD_some, Option.isSome_some]
  exact rdoc_17 a b c w
theorem rdov_18 (a b c : Nat) (w : World) : Calls Tryz.prog 5 #[.int .u8 18, wd a, wd b, wd c] w fun e w' => e = .returned (.tuple #[wd (aluV 18 a b c), .bool (aluB 18 a b c)]) ∧ Below w.heap.size w w' := by
  rw [aluV, aluB, alu_18, Option.getD_some, Option.isSome_some]
  exact rdoc_18 a b c w
theorem rdov_19 (a b c : Nat) (w : World) : Calls Tryz.prog 5 #[.int .u8 19, wd a, wd b, wd c] w fun e w' => e = .returned (.tuple #[wd (aluV 19 a b c), .bool (aluB 19 a b c)]) ∧ Below w.heap.size w w' := by
  rw [aluV, aluB, alu_19, Option.getD_some, Option.isSome_some]
  exact rdoc_19 a b c w
theorem rdov_20 (a b c : Nat) (w : World) : Calls Tryz.prog 5 #[.int .u8 20, wd a, wd b, wd c] w fun e w' => e = .returned (.tuple #[wd (aluV 20 a b c), .bool (aluB 20 a b c)]) ∧ Below w.heap.size w w' := by
  rw [aluV, aluB, alu_20, Option.getD_some, Option.isSome_some]
  exact rdoc_20 a b c w
theorem rdov_21 (a b c : Nat) (w : World) : Calls Tryz.prog 5 #[.int .u8 21, wd a, wd b, wd c] w fun e w' => e = .returned (.tuple #[wd (aluV 21 a b c), .bool (aluB 21 a b c)]) ∧ Below w.heap.size w w' := by
  rw [aluV, aluB, alu_21, Option.getD_some, Option.isSome_some]
  exact rdoc_21 a b c w
theorem rdov_22 (a b c : Nat) (w : World) : Calls Tryz.prog 5 #[.int .u8 22, wd a, wd b, wd c] w fun e w' => e = .returned (.tuple #[wd (aluV 22 a b c), .bool (aluB 22 a b c)]) ∧ Below w.heap.size w w' := by
  rw [aluV, aluB, alu_22, Option.getD_some, Option.isSome_some]
  exact rdoc_22 a b c w
theorem rdov_23 (a b c : Nat) (w : World) : Calls Tryz.prog 5 #[.int .u8 23, wd a, wd b, wd c] w fun e w' => e = .returned (.tuple #[wd (aluV 23 a b c), .bool (aluB 23 a b c)]) ∧ Below w.heap.size w w' := by
  rw [aluV, aluB, alu_23, Option.getD_some, Option.isSome_some]
  exact rdoc_23 a b c w
theorem rdov_24 (a b c : Nat) (w : World) : Calls Tryz.prog 5 #[.int .u8 24, wd a, wd b, wd c] w fun e w' => e = .returned (.tuple #[wd (aluV 24 a b c), .bool (aluB 24 a b c)]) ∧ Below w.heap.size w w' := by
  rw [aluV, aluB, alu_24, Option.getD_some, Option.isSome_some]
  exact rdoc_24 a b c w
theorem rdov_25 (a b c : Nat) (w : World) : Calls Tryz.prog 5 #[.int .u8 25, wd a, wd b, wd c] w fun e w' => e = .returned (.tuple #[wd (aluV 25 a b c), .bool (aluB 25 a b c)]) ∧ Below w.heap.size w w' := by
  rw [aluV, aluB, alu_25, Option.getD_some, Option.isSome_some]
  exact rdoc_25 a b c w
theorem rdov_26 (a b c : Nat) (w : World) : Calls Tryz.prog 5 #[.int .u8 26, wd a, wd b, wd c] w fun e w' => e = .returned (.tuple #[wd (aluV 26 a b c), .bool (aluB 26 a b c)]) ∧ Below w.heap.size w w' := by
  rw [aluV, aluB, alu_26, Option.getD_some, Option.isSome_some]
  exact rdoc_26 a b c w
theorem rdov_27 (a b c : Nat) (w : World) : Calls Tryz.prog 5 #[.int .u8 27, wd a, wd b, wd c] w fun e w' => e = .returned (.tuple #[wd (aluV 27 a b c), .bool (aluB 27 a b c)]) ∧ Below w.heap.size w w' := by
  rw [aluV, aluB, alu_27, Option.getD_some, Option.isSome_some]
  exact rdoc_27 a b c w
theorem rdov_28 (a b c : Nat) (w : World) : Calls Tryz.prog 5 #[.int .u8 28, wd a, wd b, wd c] w fun e w' => e = .returned (.tuple #[wd (aluV 28 a b c), .bool (aluB 28 a b c)]) ∧ Below w.heap.size w w' := by
  rw [aluV, aluB, alu_28, Option.getD_some, Option.isSome_some]
  exact rdoc_28 a b c w
theorem rdov_29 (a b c : Nat) (w : World) : Calls Tryz.prog 5 #[.int .u8 29, wd a, wd b, wd c] w fun e w' => e = .returned (.tuple #[wd (aluV 29 a b c), .bool (aluB 29 a b c)]) ∧ Below w.heap.size w w' := by
  rw [aluV, aluB, alu_29, Option.getD_some, Option.isSome_some]
  exact rdoc_29 a b c w
set_option maxHeartbeats 2000000 in
theorem rdo_none (op a b c : Nat) (w : World) (h : takesN op = 0) : Calls Tryz.prog 5 #[.int .u8 (op : Int), wd a, wd b, wd c] w fun e w' => e = .returned (.tuple #[wd 0, .bool false]) ∧ Below w.heap.size w w' := by
  obtain ⟨W, hW, f0, f1, f2, f3, bW, sW⟩ := dboxes3 w a b c
  have hz := z4_wa
  have hsz := wa_size
  replace sW := Nat.le_of_eq sW.symm
  have KT := Lib.hid (rtakes_walk op)
  rw [h] at KT
  clear h
  go_enter Tryz.func5, Tryz.ntmps5
  go_upto_region 1 with fail
  try rw [hW]
  clear hW f0 f1 f2
  go_wp2_with (first | (go_at_call 8; refine (KT.out _).mono ?_; rintro e wx ⟨rfl, b1⟩; replace f3 := Below.stays b1 f3; replace bW := bW.trans (b1.mono bW.size); replace sW := Nat.le_trans sW b1.size; clear b1) | (refine wpList_store_row rfl 24 (.tmp 8) _ rfl _ _ (wa 0) rfl rfl f3 Tryz.infoWa rfl wa_one ?_))
  have e2 := word_cells (blk_row (c' := wa 0) f3)
  exact bodyPost_ret (v := .tuple #[wd 0, .bool false]) (by simp [results, Tryz.results5, go_sem, e2, fold_wa]) rfl ⟨rfl, below_setRow bW (by omega) _⟩
/-- What the document's Do answers, of every byte and all words. -/
theorem rdo_walk (op a b c : Nat) (w : World) : Calls Tryz.prog 5 #[.int .u8 (op : Int), wd a, wd b, wd c] w fun e w' => e = .returned (.tuple #[wd (aluV op a b c), .bool (aluB op a b c)]) ∧ Below w.heap.size w w' := by
  by_cases h1 : op = 1
  · subst h1
    exact rdov_1 a b c w
  by_cases h2 : op = 2
  · subst h2
    exact rdov_2 a b c w
  by_cases h3 : op = 3
  · subst h3
    exact rdov_3 a b c w
  by_cases h4 : op = 4
  · subst h4
    exact rdov_4 a b c w
  by_cases h5 : op = 5
  · subst h5
    exact rdov_5 a b c w
  by_cases h6 : op = 6
  · subst h6
    exact rdov_6 a b c w
  by_cases h7 : op = 7
  · subst h7
    exact rdov_7 a b c w
  by_cases h8 : op = 8
  · subst h8
    exact rdov_8 a b c w
  by_cases h9 : op = 9
  · subst h9
    exact rdov_9 a b c w
  by_cases h10 : op = 10
  · subst h10
    exact rdov_10 a b c w
  by_cases h11 : op = 11
  · subst h11
    exact rdov_11 a b c w
  by_cases h16 : op = 16
  · subst h16
    exact rdov_16 a b c w
  by_cases h17 : op = 17
  · subst h17
    exact rdov_17 a b c w
  by_cases h18 : op = 18
  · subst h18
    exact rdov_18 a b c w
  by_cases h19 : op = 19
  · subst h19
    exact rdov_19 a b c w
  by_cases h20 : op = 20
  · subst h20
    exact rdov_20 a b c w
  by_cases h21 : op = 21
  · subst h21
    exact rdov_21 a b c w
  by_cases h22 : op = 22
  · subst h22
    exact rdov_22 a b c w
  by_cases h23 : op = 23
  · subst h23
    exact rdov_23 a b c w
  by_cases h24 : op = 24
  · subst h24
    exact rdov_24 a b c w
  by_cases h25 : op = 25
  · subst h25
    exact rdov_25 a b c w
  by_cases h26 : op = 26
  · subst h26
    exact rdov_26 a b c w
  by_cases h27 : op = 27
  · subst h27
    exact rdov_27 a b c w
  by_cases h28 : op = 28
  · subst h28
    exact rdov_28 a b c w
  by_cases h29 : op = 29
  · subst h29
    exact rdov_29 a b c w
  have e2 : ∀ a b, two op a b = none := fun a b => by simp only [two, *, if_false]
  have e1 : ∀ a, oneN op a = none := fun a => by simp only [oneN, *, if_false]
  have e3 : ∀ a b c, three op a b c = none := fun a b c => by simp only [three, *, if_false]
  have ea : aluN op a b c = none := by rw [aluN, e2, e1, e3]; rfl
  have et : takesN op = 0 := by rw [takesN, e2, e1, e3]; rfl
  rw [aluV, aluB, ea]
  exact rdo_none op a b c w et
end Go.Proofs.YtdpbjdecbilaeaaGreat
