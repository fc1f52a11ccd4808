/- What the functions Div and Extend of package sign do, in numbers; all older memory is as it was. -/
import Derived.Test.YtlobchkbkdjccaaSgA
namespace Go.Proofs.Ytlobchkbkdjccaa
open Go.RowKit SmWord
set_option maxRecDepth 100000

set_option maxHeartbeats 2000000 in
theorem sdiv_walk00 (a b x y q r : Nat) (w : World) (H1 : Hid (∀ w : World, Calls Try.prog 30 #[wd a] w fun e w' => e = .returned (wd x) ∧ Below w.heap.size w w')) (H2 : Hid (∀ w : World, Calls Try.prog 30 #[wd b] w fun e w' => e = .returned (wd y) ∧ Below w.heap.size w w')) (H3 : Hid (∀ w : World, Calls Try.prog 29 #[wd x, wd y] w fun e w' => e = .returned (.tuple #[wd q, wd r]) ∧ Below w.heap.size w w')) (H4 : Hid (∀ w : World, Calls Try.prog 11 #[wd a] w fun e w' => e = .returned (.bool false) ∧ Below w.heap.size w w')) (H5 : Hid (∀ w : World, Calls Try.prog 11 #[wd b] w fun e w' => e = .returned (.bool false) ∧ Below w.heap.size w w')) :
    Calls Try.prog 8 #[wd a, wd b] w fun e w' => e = .returned (.tuple #[wd q, wd r]) ∧ Below w.heap.size w w' := by
  have hz := z4_wa
  have hsz := wa_size
  go_enter Try.func8, Try.ntmps8
  go_upto_region 1 with fail
  have f2 : ((((w.alloc (.cells (wa a) 24)).alloc (.cells (wa b) 24)).alloc (.cells (wa 0) 24)).alloc (.cells (wa 0) 24)).heap[w.heap.size]? = some (.cells (wa a) 24) := blk_alloc (blk_alloc (blk_alloc (blk_new _ rfl)))
  have f3 : ((((w.alloc (.cells (wa a) 24)).alloc (.cells (wa b) 24)).alloc (.cells (wa 0) 24)).alloc (.cells (wa 0) 24)).heap[w.heap.size + 1]? = some (.cells (wa b) 24) := blk_alloc (blk_alloc (blk_new _ (by simp)))
  have f4 : ((((w.alloc (.cells (wa a) 24)).alloc (.cells (wa b) 24)).alloc (.cells (wa 0) 24)).alloc (.cells (wa 0) 24)).heap[w.heap.size + 1 + 1]? = some (.cells (wa 0) 24) := blk_alloc (blk_new _ (by simp))
  have f5 : ((((w.alloc (.cells (wa a) 24)).alloc (.cells (wa b) 24)).alloc (.cells (wa 0) 24)).alloc (.cells (wa 0) 24)).heap[w.heap.size + 1 + 1 + 1]? = some (.cells (wa 0) 24) := blk_new _ (by simp)
  have bW : Below w.heap.size w ((((w.alloc (.cells (wa a) 24)).alloc (.cells (wa b) 24)).alloc (.cells (wa 0) 24)).alloc (.cells (wa 0) 24)) := (((((Below.refl _ _).alloc (Nat.le_refl _) _).alloc (by simp <;> omega) _).alloc (by simp <;> omega) _).alloc (by simp <;> omega) _)
  have sW : w.heap.size + 4 ≤ ((((w.alloc (.cells (wa a) 24)).alloc (.cells (wa b) 24)).alloc (.cells (wa 0) 24)).alloc (.cells (wa 0) 24)).heap.size := by simp
  generalize ((((w.alloc (.cells (wa a) 24)).alloc (.cells (wa b) 24)).alloc (.cells (wa 0) 24)).alloc (.cells (wa 0) 24)) = W at *
  refine region_mk2 (aQ := ?aQ) 8 ⟨8, 10, 24, 6, 14, wa 0, wa q⟩ ⟨9, 11, 24, 7, 15, wa 0, wa r⟩ (by kernel_rfl) (by kernel_rfl) (by simp) (fun w1x => ?hq) ?hok1 ?hok2 ?hh
  case hq =>
    simp only [List.take_succ_cons, List.take_zero]
    repeat (first | (go_big_quiet_want; refine quiet_load_row 24 _ rfl _ (wa a) rfl (fun w2 hw2 => by obtain ⟨g, rfl⟩ := hw2; exact g.block (w1x.block f2)) Try.underlying24 Try.infoWa ?_; simp only [Act.put, List.setIfInBounds_toArray, List.set_cons_succ, List.set_cons_zero]; go_big_quiet_on) | (go_big_quiet_want; refine quiet_load_row 24 _ rfl _ (wa b) rfl (fun w2 hw2 => by obtain ⟨g, rfl⟩ := hw2; exact g.block (w1x.block f3)) Try.underlying24 Try.infoWa ?_; simp only [Act.put, List.setIfInBounds_toArray, List.set_cons_succ, List.set_cons_zero]; go_big_quiet_on) | go_big_quiet_step (first | (go_at_call 30; first | with_reducible exact calls_ext (H1.out _) | with_reducible exact calls_ext (H2.out _)) | (go_at_call 29; with_reducible exact calls_ext (H3.out _))))
    refine wpQuiet_nil ?_
    rfl
  case hok1 => exact ⟨Try.zeroValue24, Try.infoW, rfl, by simp [wa, Value.oneCell'], by simp, rfl⟩
  case hok2 => exact ⟨Try.zeroValue24, Try.infoW, rfl, by simp [wa, Value.oneCell'], by simp, rfl⟩
  case hh =>
    intro b6 b7 w6 b1 l6 l7 hne f6 f7
    simp only [Act.put, List.setIfInBounds_toArray, List.set_cons_succ, List.set_cons_zero]
    dsimp only at f6 f7
    have hs0 := sW
    replace f2 := Below.stays b1 f2
    replace f3 := Below.stays b1 f3
    replace f4 := Below.stays b1 f4
    replace f5 := Below.stays b1 f5
    replace bW := bW.trans (b1.mono bW.size)
    replace sW := Nat.le_trans sW b1.size
    clear b1
    replace l6 : w.heap.size + 4 ≤ b6 := Nat.le_trans hs0 l6
    replace l7 : w.heap.size + 4 ≤ b7 := Nat.le_trans hs0 l7
    clear hs0 hz
    go_wp2_with fail
    have g2 := fun g : Ext w6 => g.word f2
    have g3 := fun g : Ext w6 => g.word f3
    have fo := fold_wa
    refine region_ext (by kernel_rfl) (by kernel_rfl) ?_
    repeat (go_big_quiet_step ((go_at_call 11; first | with_reducible exact calls_ext (H4.out _) | with_reducible exact calls_ext (H5.out _))))
    refine wpQuiet_nil ?_
    rintro _ ⟨g, rfl⟩
    clear g2 g3 fo
    have b1 := g.below
    replace f2 := Below.stays b1 f2
    replace f3 := Below.stays b1 f3
    replace f4 := Below.stays b1 f4
    replace f5 := Below.stays b1 f5
    replace f6 := Below.stays b1 f6
    replace f7 := Below.stays b1 f7
    replace bW := bW.trans (b1.mono bW.size)
    replace sW := Nat.le_trans sW b1.size
    clear b1
    generalize g.on = w8 at *
    go_wp2_with (refine wpList_load_row rfl 24 _ rfl _ rfl 24 _ (0, 0) _ (by assumption) Try.underlying24 rfl Try.infoWa ?_)
    refine (H4.out _).mono ?_
    rintro e w11 ⟨rfl, b1⟩
    replace f2 := Below.stays b1 f2
    replace f3 := Below.stays b1 f3
    replace f4 := Below.stays b1 f4
    replace f5 := Below.stays b1 f5
    replace f6 := Below.stays b1 f6
    replace f7 := Below.stays b1 f7
    replace bW := bW.trans (b1.mono bW.size)
    replace sW := Nat.le_trans sW b1.size
    clear b1
    go_wp2_with fail
    have d6 := word_cells f6
    have d7 := word_cells f7
    have fo := fold_wa
    have k1 := store_old (w := w11.drew) (m := q) f4
    have k2 := store_old (m := r) (blk_row_other (w := w11.drew) (b := w.heap.size + 1 + 1) (c' := wa q) f5 (by omega))
    have d8 := word_cells (blk_row_other (w := w11.drew) (b := w.heap.size + 1 + 1) (c' := wa q) f7 (by omega))
    go_region
    all_goals
      have e4 := word_cells (blk_row_other (b := w.heap.size + 1 + 1 + 1) (c' := wa r) (blk_row (w := w11.drew) (c' := wa q) f4) (by omega))
      have e5 := word_cells (blk_row (c' := wa r) (blk_row_other (w := w11.drew) (b := w.heap.size + 1 + 1) (c' := wa q) f5 (by omega)))
      clear k1 k2 d6 d7 d8 fo
      go_wp2_with fail
      exact bodyPost_ret (v := .tuple #[wd q, wd r]) (by simp [results, Try.results8, go_sem, e4, e5, fold_wa]) rfl ⟨rfl, below_setRow (below_setRow bW.drew (by omega) _) (by omega) _⟩

set_option maxHeartbeats 2000000 in
theorem sdiv_walk01 (a b x y q r nq : Nat) (w : World) (H1 : Hid (∀ w : World, Calls Try.prog 30 #[wd a] w fun e w' => e = .returned (wd x) ∧ Below w.heap.size w w')) (H2 : Hid (∀ w : World, Calls Try.prog 30 #[wd b] w fun e w' => e = .returned (wd y) ∧ Below w.heap.size w w')) (H3 : Hid (∀ w : World, Calls Try.prog 29 #[wd x, wd y] w fun e w' => e = .returned (.tuple #[wd q, wd r]) ∧ Below w.heap.size w w')) (H4 : Hid (∀ w : World, Calls Try.prog 11 #[wd a] w fun e w' => e = .returned (.bool false) ∧ Below w.heap.size w w')) (H5 : Hid (∀ w : World, Calls Try.prog 11 #[wd b] w fun e w' => e = .returned (.bool true) ∧ Below w.heap.size w w')) (H6 : Hid (∀ w : World, Calls Try.prog 13 #[wd q] w fun e w' => e = .returned (wd nq) ∧ Below w.heap.size w w')) :
    Calls Try.prog 8 #[wd a, wd b] w fun e w' => e = .returned (.tuple #[wd nq, wd r]) ∧ Below w.heap.size w w' := by
  have hz := z4_wa
  have hsz := wa_size
  go_enter Try.func8, Try.ntmps8
  go_upto_region 1 with fail
  have f2 : ((((w.alloc (.cells (wa a) 24)).alloc (.cells (wa b) 24)).alloc (.cells (wa 0) 24)).alloc (.cells (wa 0) 24)).heap[w.heap.size]? = some (.cells (wa a) 24) := blk_alloc (blk_alloc (blk_alloc (blk_new _ rfl)))
  have f3 : ((((w.alloc (.cells (wa a) 24)).alloc (.cells (wa b) 24)).alloc (.cells (wa 0) 24)).alloc (.cells (wa 0) 24)).heap[w.heap.size + 1]? = some (.cells (wa b) 24) := blk_alloc (blk_alloc (blk_new _ (by simp)))
  have f4 : ((((w.alloc (.cells (wa a) 24)).alloc (.cells (wa b) 24)).alloc (.cells (wa 0) 24)).alloc (.cells (wa 0) 24)).heap[w.heap.size + 1 + 1]? = some (.cells (wa 0) 24) := blk_alloc (blk_new _ (by simp))
  have f5 : ((((w.alloc (.cells (wa a) 24)).alloc (.cells (wa b) 24)).alloc (.cells (wa 0) 24)).alloc (.cells (wa 0) 24)).heap[w.heap.size + 1 + 1 + 1]? = some (.cells (wa 0) 24) := blk_new _ (by simp)
  have bW : Below w.heap.size w ((((w.alloc (.cells (wa a) 24)).alloc (.cells (wa b) 24)).alloc (.cells (wa 0) 24)).alloc (.cells (wa 0) 24)) := (((((Below.refl _ _).alloc (Nat.le_refl _) _).alloc (by simp <;> omega) _).alloc (by simp <;> omega) _).alloc (by simp <;> omega) _)
  have sW : w.heap.size + 4 ≤ ((((w.alloc (.cells (wa a) 24)).alloc (.cells (wa b) 24)).alloc (.cells (wa 0) 24)).alloc (.cells (wa 0) 24)).heap.size := by simp
  generalize ((((w.alloc (.cells (wa a) 24)).alloc (.cells (wa b) 24)).alloc (.cells (wa 0) 24)).alloc (.cells (wa 0) 24)) = W at *
  refine region_mk2 (aQ := ?aQ) 8 ⟨8, 10, 24, 6, 14, wa 0, wa q⟩ ⟨9, 11, 24, 7, 15, wa 0, wa r⟩ (by kernel_rfl) (by kernel_rfl) (by simp) (fun w1x => ?hq) ?hok1 ?hok2 ?hh
  case hq =>
    simp only [List.take_succ_cons, List.take_zero]
    repeat (first | (go_big_quiet_want; refine quiet_load_row 24 _ rfl _ (wa a) rfl (fun w2 hw2 => by obtain ⟨g, rfl⟩ := hw2; exact g.block (w1x.block f2)) Try.underlying24 Try.infoWa ?_; simp only [Act.put, List.setIfInBounds_toArray, List.set_cons_succ, List.set_cons_zero]; go_big_quiet_on) | (go_big_quiet_want; refine quiet_load_row 24 _ rfl _ (wa b) rfl (fun w2 hw2 => by obtain ⟨g, rfl⟩ := hw2; exact g.block (w1x.block f3)) Try.underlying24 Try.infoWa ?_; simp only [Act.put, List.setIfInBounds_toArray, List.set_cons_succ, List.set_cons_zero]; go_big_quiet_on) | go_big_quiet_step (first | (go_at_call 30; first | with_reducible exact calls_ext (H1.out _) | with_reducible exact calls_ext (H2.out _)) | (go_at_call 29; with_reducible exact calls_ext (H3.out _))))
    refine wpQuiet_nil ?_
    rfl
  case hok1 => exact ⟨Try.zeroValue24, Try.infoW, rfl, by simp [wa, Value.oneCell'], by simp, rfl⟩
  case hok2 => exact ⟨Try.zeroValue24, Try.infoW, rfl, by simp [wa, Value.oneCell'], by simp, rfl⟩
  case hh =>
    intro b6 b7 w6 b1 l6 l7 hne f6 f7
    simp only [Act.put, List.setIfInBounds_toArray, List.set_cons_succ, List.set_cons_zero]
    dsimp only at f6 f7
    have hs0 := sW
    replace f2 := Below.stays b1 f2
    replace f3 := Below.stays b1 f3
    replace f4 := Below.stays b1 f4
    replace f5 := Below.stays b1 f5
    replace bW := bW.trans (b1.mono bW.size)
    replace sW := Nat.le_trans sW b1.size
    clear b1
    replace l6 : w.heap.size + 4 ≤ b6 := Nat.le_trans hs0 l6
    replace l7 : w.heap.size + 4 ≤ b7 := Nat.le_trans hs0 l7
    clear hs0 hz
    go_wp2_with fail
    have g2 := fun g : Ext w6 => g.word f2
    have g3 := fun g : Ext w6 => g.word f3
    have fo := fold_wa
    refine region_ext (by kernel_rfl) (by kernel_rfl) ?_
    repeat (go_big_quiet_step ((go_at_call 11; first | with_reducible exact calls_ext (H4.out _) | with_reducible exact calls_ext (H5.out _))))
    refine wpQuiet_nil ?_
    rintro _ ⟨g, rfl⟩
    clear g2 g3 fo
    have b1 := g.below
    replace f2 := Below.stays b1 f2
    replace f3 := Below.stays b1 f3
    replace f4 := Below.stays b1 f4
    replace f5 := Below.stays b1 f5
    replace f6 := Below.stays b1 f6
    replace f7 := Below.stays b1 f7
    replace bW := bW.trans (b1.mono bW.size)
    replace sW := Nat.le_trans sW b1.size
    clear b1
    generalize g.on = w8 at *
    go_wp2_with (refine wpList_load_row rfl 24 _ rfl _ rfl 24 _ (0, 0) _ (by assumption) Try.underlying24 rfl Try.infoWa ?_)
    refine (H6.out _).mono ?_
    rintro e w9 ⟨rfl, b1⟩
    replace f2 := Below.stays b1 f2
    replace f3 := Below.stays b1 f3
    replace f4 := Below.stays b1 f4
    replace f5 := Below.stays b1 f5
    replace f6 := Below.stays b1 f6
    replace f7 := Below.stays b1 f7
    replace bW := bW.trans (b1.mono bW.size)
    replace sW := Nat.le_trans sW b1.size
    clear b1
    go_upto_region 4 with (refine wpList_store_row rfl 24 (.tmp 6) _ rfl _ _ (wa nq) rfl rfl f6 Try.infoWa rfl wa_one ?_)
    simp only [Act.put]
    replace f2 := blk_row_other (b := b6) (c' := wa nq) f2 (by omega)
    replace f3 := blk_row_other (b := b6) (c' := wa nq) f3 (by omega)
    replace f4 := blk_row_other (b := b6) (c' := wa nq) f4 (by omega)
    replace f5 := blk_row_other (b := b6) (c' := wa nq) f5 (by omega)
    replace f7 := blk_row_other (b := b6) (c' := wa nq) f7 (by omega)
    replace f6 := blk_row (c' := wa nq) f6
    replace bW : Below w.heap.size w (w9.setRow (b6) (wa nq)) := below_setRow bW (by omega) _
    replace sW := Nat.le_trans sW (Nat.le_of_eq (setRow_size w9 (b6) (wa nq)).symm)
    generalize (w9.setRow (b6) (wa nq)) = w10 at *
    go_wp2_with (refine wpList_load_row rfl 24 _ rfl _ rfl 24 _ (0, 0) _ (by assumption) Try.underlying24 rfl Try.infoWa ?_)
    refine (H4.out _).mono ?_
    rintro e w11 ⟨rfl, b1⟩
    replace f2 := Below.stays b1 f2
    replace f3 := Below.stays b1 f3
    replace f4 := Below.stays b1 f4
    replace f5 := Below.stays b1 f5
    replace f6 := Below.stays b1 f6
    replace f7 := Below.stays b1 f7
    replace bW := bW.trans (b1.mono bW.size)
    replace sW := Nat.le_trans sW b1.size
    clear b1
    go_wp2_with fail
    have d6 := word_cells f6
    have d7 := word_cells f7
    have fo := fold_wa
    have k1 := store_old (w := w11.drew) (m := nq) f4
    have k2 := store_old (m := r) (blk_row_other (w := w11.drew) (b := w.heap.size + 1 + 1) (c' := wa nq) f5 (by omega))
    have d8 := word_cells (blk_row_other (w := w11.drew) (b := w.heap.size + 1 + 1) (c' := wa nq) f7 (by omega))
    go_region
    all_goals
      have e4 := word_cells (blk_row_other (b := w.heap.size + 1 + 1 + 1) (c' := wa r) (blk_row (w := w11.drew) (c' := wa nq) f4) (by omega))
      have e5 := word_cells (blk_row (c' := wa r) (blk_row_other (w := w11.drew) (b := w.heap.size + 1 + 1) (c' := wa nq) f5 (by omega)))
      clear k1 k2 d6 d7 d8 fo
      go_wp2_with fail
      exact bodyPost_ret (v := .tuple #[wd nq, wd r]) (by simp [results, Try.results8, go_sem, e4, e5, fold_wa]) rfl ⟨rfl, below_setRow (below_setRow bW.drew (by omega) _) (by omega) _⟩

set_option maxHeartbeats 2000000 in
theorem sdiv_walk10 (a b x y q r nq nr : Nat) (w : World) (H1 : Hid (∀ w : World, Calls Try.prog 30 #[wd a] w fun e w' => e = .returned (wd x) ∧ Below w.heap.size w w')) (H2 : Hid (∀ w : World, Calls Try.prog 30 #[wd b] w fun e w' => e = .returned (wd y) ∧ Below w.heap.size w w')) (H3 : Hid (∀ w : World, Calls Try.prog 29 #[wd x, wd y] w fun e w' => e = .returned (.tuple #[wd q, wd r]) ∧ Below w.heap.size w w')) (H4 : Hid (∀ w : World, Calls Try.prog 11 #[wd a] w fun e w' => e = .returned (.bool true) ∧ Below w.heap.size w w')) (H5 : Hid (∀ w : World, Calls Try.prog 11 #[wd b] w fun e w' => e = .returned (.bool false) ∧ Below w.heap.size w w')) (H6 : Hid (∀ w : World, Calls Try.prog 13 #[wd q] w fun e w' => e = .returned (wd nq) ∧ Below w.heap.size w w')) (H7 : Hid (∀ w : World, Calls Try.prog 13 #[wd r] w fun e w' => e = .returned (wd nr) ∧ Below w.heap.size w w')) :
    Calls Try.prog 8 #[wd a, wd b] w fun e w' => e = .returned (.tuple #[wd nq, wd nr]) ∧ Below w.heap.size w w' := by
  have hz := z4_wa
  have hsz := wa_size
  go_enter Try.func8, Try.ntmps8
  go_upto_region 1 with fail
  have f2 : ((((w.alloc (.cells (wa a) 24)).alloc (.cells (wa b) 24)).alloc (.cells (wa 0) 24)).alloc (.cells (wa 0) 24)).heap[w.heap.size]? = some (.cells (wa a) 24) := blk_alloc (blk_alloc (blk_alloc (blk_new _ rfl)))
  have f3 : ((((w.alloc (.cells (wa a) 24)).alloc (.cells (wa b) 24)).alloc (.cells (wa 0) 24)).alloc (.cells (wa 0) 24)).heap[w.heap.size + 1]? = some (.cells (wa b) 24) := blk_alloc (blk_alloc (blk_new _ (by simp)))
  have f4 : ((((w.alloc (.cells (wa a) 24)).alloc (.cells (wa b) 24)).alloc (.cells (wa 0) 24)).alloc (.cells (wa 0) 24)).heap[w.heap.size + 1 + 1]? = some (.cells (wa 0) 24) := blk_alloc (blk_new _ (by simp))
  have f5 : ((((w.alloc (.cells (wa a) 24)).alloc (.cells (wa b) 24)).alloc (.cells (wa 0) 24)).alloc (.cells (wa 0) 24)).heap[w.heap.size + 1 + 1 + 1]? = some (.cells (wa 0) 24) := blk_new _ (by simp)
  have bW : Below w.heap.size w ((((w.alloc (.cells (wa a) 24)).alloc (.cells (wa b) 24)).alloc (.cells (wa 0) 24)).alloc (.cells (wa 0) 24)) := (((((Below.refl _ _).alloc (Nat.le_refl _) _).alloc (by simp <;> omega) _).alloc (by simp <;> omega) _).alloc (by simp <;> omega) _)
  have sW : w.heap.size + 4 ≤ ((((w.alloc (.cells (wa a) 24)).alloc (.cells (wa b) 24)).alloc (.cells (wa 0) 24)).alloc (.cells (wa 0) 24)).heap.size := by simp
  generalize ((((w.alloc (.cells (wa a) 24)).alloc (.cells (wa b) 24)).alloc (.cells (wa 0) 24)).alloc (.cells (wa 0) 24)) = W at *
  refine region_mk2 (aQ := ?aQ) 8 ⟨8, 10, 24, 6, 14, wa 0, wa q⟩ ⟨9, 11, 24, 7, 15, wa 0, wa r⟩ (by kernel_rfl) (by kernel_rfl) (by simp) (fun w1x => ?hq) ?hok1 ?hok2 ?hh
  case hq =>
    simp only [List.take_succ_cons, List.take_zero]
    repeat (first | (go_big_quiet_want; refine quiet_load_row 24 _ rfl _ (wa a) rfl (fun w2 hw2 => by obtain ⟨g, rfl⟩ := hw2; exact g.block (w1x.block f2)) Try.underlying24 Try.infoWa ?_; simp only [Act.put, List.setIfInBounds_toArray, List.set_cons_succ, List.set_cons_zero]; go_big_quiet_on) | (go_big_quiet_want; refine quiet_load_row 24 _ rfl _ (wa b) rfl (fun w2 hw2 => by obtain ⟨g, rfl⟩ := hw2; exact g.block (w1x.block f3)) Try.underlying24 Try.infoWa ?_; simp only [Act.put, List.setIfInBounds_toArray, List.set_cons_succ, List.set_cons_zero]; go_big_quiet_on) | go_big_quiet_step (first | (go_at_call 30; first | with_reducible exact calls_ext (H1.out _) | with_reducible exact calls_ext (H2.out _)) | (go_at_call 29; with_reducible exact calls_ext (H3.out _))))
    refine wpQuiet_nil ?_
    rfl
  case hok1 => exact ⟨Try.zeroValue24, Try.infoW, rfl, by simp [wa, Value.oneCell'], by simp, rfl⟩
  case hok2 => exact ⟨Try.zeroValue24, Try.infoW, rfl, by simp [wa, Value.oneCell'], by simp, rfl⟩
  case hh =>
    intro b6 b7 w6 b1 l6 l7 hne f6 f7
    simp only [Act.put, List.setIfInBounds_toArray, List.set_cons_succ, List.set_cons_zero]
    dsimp only at f6 f7
    have hs0 := sW
    replace f2 := Below.stays b1 f2
    replace f3 := Below.stays b1 f3
    replace f4 := Below.stays b1 f4
    replace f5 := Below.stays b1 f5
    replace bW := bW.trans (b1.mono bW.size)
    replace sW := Nat.le_trans sW b1.size
    clear b1
    replace l6 : w.heap.size + 4 ≤ b6 := Nat.le_trans hs0 l6
    replace l7 : w.heap.size + 4 ≤ b7 := Nat.le_trans hs0 l7
    clear hs0 hz
    go_wp2_with fail
    have g2 := fun g : Ext w6 => g.word f2
    have g3 := fun g : Ext w6 => g.word f3
    have fo := fold_wa
    refine region_ext (by kernel_rfl) (by kernel_rfl) ?_
    repeat (go_big_quiet_step ((go_at_call 11; first | with_reducible exact calls_ext (H4.out _) | with_reducible exact calls_ext (H5.out _))))
    refine wpQuiet_nil ?_
    rintro _ ⟨g, rfl⟩
    clear g2 g3 fo
    have b1 := g.below
    replace f2 := Below.stays b1 f2
    replace f3 := Below.stays b1 f3
    replace f4 := Below.stays b1 f4
    replace f5 := Below.stays b1 f5
    replace f6 := Below.stays b1 f6
    replace f7 := Below.stays b1 f7
    replace bW := bW.trans (b1.mono bW.size)
    replace sW := Nat.le_trans sW b1.size
    clear b1
    generalize g.on = w8 at *
    go_wp2_with (refine wpList_load_row rfl 24 _ rfl _ rfl 24 _ (0, 0) _ (by assumption) Try.underlying24 rfl Try.infoWa ?_)
    refine (H6.out _).mono ?_
    rintro e w9 ⟨rfl, b1⟩
    replace f2 := Below.stays b1 f2
    replace f3 := Below.stays b1 f3
    replace f4 := Below.stays b1 f4
    replace f5 := Below.stays b1 f5
    replace f6 := Below.stays b1 f6
    replace f7 := Below.stays b1 f7
    replace bW := bW.trans (b1.mono bW.size)
    replace sW := Nat.le_trans sW b1.size
    clear b1
    go_upto_region 4 with (refine wpList_store_row rfl 24 (.tmp 6) _ rfl _ _ (wa nq) rfl rfl f6 Try.infoWa rfl wa_one ?_)
    simp only [Act.put]
    replace f2 := blk_row_other (b := b6) (c' := wa nq) f2 (by omega)
    replace f3 := blk_row_other (b := b6) (c' := wa nq) f3 (by omega)
    replace f4 := blk_row_other (b := b6) (c' := wa nq) f4 (by omega)
    replace f5 := blk_row_other (b := b6) (c' := wa nq) f5 (by omega)
    replace f7 := blk_row_other (b := b6) (c' := wa nq) f7 (by omega)
    replace f6 := blk_row (c' := wa nq) f6
    replace bW : Below w.heap.size w (w9.setRow (b6) (wa nq)) := below_setRow bW (by omega) _
    replace sW := Nat.le_trans sW (Nat.le_of_eq (setRow_size w9 (b6) (wa nq)).symm)
    generalize (w9.setRow (b6) (wa nq)) = w10 at *
    go_wp2_with (refine wpList_load_row rfl 24 _ rfl _ rfl 24 _ (0, 0) _ (by assumption) Try.underlying24 rfl Try.infoWa ?_)
    refine (H4.out _).mono ?_
    rintro e w11 ⟨rfl, b1⟩
    replace f2 := Below.stays b1 f2
    replace f3 := Below.stays b1 f3
    replace f4 := Below.stays b1 f4
    replace f5 := Below.stays b1 f5
    replace f6 := Below.stays b1 f6
    replace f7 := Below.stays b1 f7
    replace bW := bW.trans (b1.mono bW.size)
    replace sW := Nat.le_trans sW b1.size
    clear b1
    go_wp2_with (refine wpList_load_row rfl 24 _ rfl _ rfl 24 _ (0, 0) _ (by assumption) Try.underlying24 rfl Try.infoWa ?_)
    refine (H7.out _).mono ?_
    rintro e w12 ⟨rfl, b1⟩
    replace f2 := Below.stays b1 f2
    replace f3 := Below.stays b1 f3
    replace f4 := Below.stays b1 f4
    replace f5 := Below.stays b1 f5
    replace f6 := Below.stays b1 f6
    replace f7 := Below.stays b1 f7
    replace bW := bW.trans (b1.mono bW.size)
    replace sW := Nat.le_trans sW b1.size
    clear b1
    go_upto_region 6 with (refine wpList_store_row rfl 24 (.tmp 7) _ rfl _ _ (wa nr) rfl rfl f7 Try.infoWa rfl wa_one ?_)
    simp only [Act.put]
    replace f2 := blk_row_other (b := b7) (c' := wa nr) f2 (by omega)
    replace f3 := blk_row_other (b := b7) (c' := wa nr) f3 (by omega)
    replace f4 := blk_row_other (b := b7) (c' := wa nr) f4 (by omega)
    replace f5 := blk_row_other (b := b7) (c' := wa nr) f5 (by omega)
    replace f6 := blk_row_other (b := b7) (c' := wa nr) f6 (by omega)
    replace f7 := blk_row (c' := wa nr) f7
    replace bW : Below w.heap.size w (w12.setRow (b7) (wa nr)) := below_setRow bW (by omega) _
    replace sW := Nat.le_trans sW (Nat.le_of_eq (setRow_size w12 (b7) (wa nr)).symm)
    generalize (w12.setRow (b7) (wa nr)) = w13 at *
    have d6 := word_cells f6
    have d7 := word_cells f7
    have fo := fold_wa
    have k1 := store_old (w := w13.drew) (m := nq) f4
    have k2 := store_old (m := nr) (blk_row_other (w := w13.drew) (b := w.heap.size + 1 + 1) (c' := wa nq) f5 (by omega))
    have d8 := word_cells (blk_row_other (w := w13.drew) (b := w.heap.size + 1 + 1) (c' := wa nq) f7 (by omega))
    go_region
    all_goals
      have e4 := word_cells (blk_row_other (b := w.heap.size + 1 + 1 + 1) (c' := wa nr) (blk_row (w := w13.drew) (c' := wa nq) f4) (by omega))
      have e5 := word_cells (blk_row (c' := wa nr) (blk_row_other (w := w13.drew) (b := w.heap.size + 1 + 1) (c' := wa nq) f5 (by omega)))
      clear k1 k2 d6 d7 d8 fo
      go_wp2_with fail
      exact bodyPost_ret (v := .tuple #[wd nq, wd nr]) (by simp [results, Try.results8, go_sem, e4, e5, fold_wa]) rfl ⟨rfl, below_setRow (below_setRow bW.drew (by omega) _) (by omega) _⟩

set_option maxHeartbeats 2000000 in
theorem sdiv_walk11 (a b x y q r nr : Nat) (w : World) (H1 : Hid (∀ w : World, Calls Try.prog 30 #[wd a] w fun e w' => e = .returned (wd x) ∧ Below w.heap.size w w')) (H2 : Hid (∀ w : World, Calls Try.prog 30 #[wd b] w fun e w' => e = .returned (wd y) ∧ Below w.heap.size w w')) (H3 : Hid (∀ w : World, Calls Try.prog 29 #[wd x, wd y] w fun e w' => e = .returned (.tuple #[wd q, wd r]) ∧ Below w.heap.size w w')) (H4 : Hid (∀ w : World, Calls Try.prog 11 #[wd a] w fun e w' => e = .returned (.bool true) ∧ Below w.heap.size w w')) (H5 : Hid (∀ w : World, Calls Try.prog 11 #[wd b] w fun e w' => e = .returned (.bool true) ∧ Below w.heap.size w w')) (H7 : Hid (∀ w : World, Calls Try.prog 13 #[wd r] w fun e w' => e = .returned (wd nr) ∧ Below w.heap.size w w')) :
    Calls Try.prog 8 #[wd a, wd b] w fun e w' => e = .returned (.tuple #[wd q, wd nr]) ∧ Below w.heap.size w w' := by
  have hz := z4_wa
  have hsz := wa_size
  go_enter Try.func8, Try.ntmps8
  go_upto_region 1 with fail
  have f2 : ((((w.alloc (.cells (wa a) 24)).alloc (.cells (wa b) 24)).alloc (.cells (wa 0) 24)).alloc (.cells (wa 0) 24)).heap[w.heap.size]? = some (.cells (wa a) 24) := blk_alloc (blk_alloc (blk_alloc (blk_new _ rfl)))
  have f3 : ((((w.alloc (.cells (wa a) 24)).alloc (.cells (wa b) 24)).alloc (.cells (wa 0) 24)).alloc (.cells (wa 0) 24)).heap[w.heap.size + 1]? = some (.cells (wa b) 24) := blk_alloc (blk_alloc (blk_new _ (by simp)))
  have f4 : ((((w.alloc (.cells (wa a) 24)).alloc (.cells (wa b) 24)).alloc (.cells (wa 0) 24)).alloc (.cells (wa 0) 24)).heap[w.heap.size + 1 + 1]? = some (.cells (wa 0) 24) := blk_alloc (blk_new _ (by simp))
  have f5 : ((((w.alloc (.cells (wa a) 24)).alloc (.cells (wa b) 24)).alloc (.cells (wa 0) 24)).alloc (.cells (wa 0) 24)).heap[w.heap.size + 1 + 1 + 1]? = some (.cells (wa 0) 24) := blk_new _ (by simp)
  have bW : Below w.heap.size w ((((w.alloc (.cells (wa a) 24)).alloc (.cells (wa b) 24)).alloc (.cells (wa 0) 24)).alloc (.cells (wa 0) 24)) := (((((Below.refl _ _).alloc (Nat.le_refl _) _).alloc (by simp <;> omega) _).alloc (by simp <;> omega) _).alloc (by simp <;> omega) _)
  have sW : w.heap.size + 4 ≤ ((((w.alloc (.cells (wa a) 24)).alloc (.cells (wa b) 24)).alloc (.cells (wa 0) 24)).alloc (.cells (wa 0) 24)).heap.size := by simp
  generalize ((((w.alloc (.cells (wa a) 24)).alloc (.cells (wa b) 24)).alloc (.cells (wa 0) 24)).alloc (.cells (wa 0) 24)) = W at *
  refine region_mk2 (aQ := ?aQ) 8 ⟨8, 10, 24, 6, 14, wa 0, wa q⟩ ⟨9, 11, 24, 7, 15, wa 0, wa r⟩ (by kernel_rfl) (by kernel_rfl) (by simp) (fun w1x => ?hq) ?hok1 ?hok2 ?hh
  case hq =>
    simp only [List.take_succ_cons, List.take_zero]
    repeat (first | (go_big_quiet_want; refine quiet_load_row 24 _ rfl _ (wa a) rfl (fun w2 hw2 => by obtain ⟨g, rfl⟩ := hw2; exact g.block (w1x.block f2)) Try.underlying24 Try.infoWa ?_; simp only [Act.put, List.setIfInBounds_toArray, List.set_cons_succ, List.set_cons_zero]; go_big_quiet_on) | (go_big_quiet_want; refine quiet_load_row 24 _ rfl _ (wa b) rfl (fun w2 hw2 => by obtain ⟨g, rfl⟩ := hw2; exact g.block (w1x.block f3)) Try.underlying24 Try.infoWa ?_; simp only [Act.put, List.setIfInBounds_toArray, List.set_cons_succ, List.set_cons_zero]; go_big_quiet_on) | go_big_quiet_step (first | (go_at_call 30; first | with_reducible exact calls_ext (H1.out _) | with_reducible exact calls_ext (H2.out _)) | (go_at_call 29; with_reducible exact calls_ext (H3.out _))))
    refine wpQuiet_nil ?_
    rfl
  case hok1 => exact ⟨Try.zeroValue24, Try.infoW, rfl, by simp [wa, Value.oneCell'], by simp, rfl⟩
  case hok2 => exact ⟨Try.zeroValue24, Try.infoW, rfl, by simp [wa, Value.oneCell'], by simp, rfl⟩
  case hh =>
    intro b6 b7 w6 b1 l6 l7 hne f6 f7
    simp only [Act.put, List.setIfInBounds_toArray, List.set_cons_succ, List.set_cons_zero]
    dsimp only at f6 f7
    have hs0 := sW
    replace f2 := Below.stays b1 f2
    replace f3 := Below.stays b1 f3
    replace f4 := Below.stays b1 f4
    replace f5 := Below.stays b1 f5
    replace bW := bW.trans (b1.mono bW.size)
    replace sW := Nat.le_trans sW b1.size
    clear b1
    replace l6 : w.heap.size + 4 ≤ b6 := Nat.le_trans hs0 l6
    replace l7 : w.heap.size + 4 ≤ b7 := Nat.le_trans hs0 l7
    clear hs0 hz
    go_wp2_with fail
    have g2 := fun g : Ext w6 => g.word f2
    have g3 := fun g : Ext w6 => g.word f3
    have fo := fold_wa
    refine region_ext (by kernel_rfl) (by kernel_rfl) ?_
    repeat (go_big_quiet_step ((go_at_call 11; first | with_reducible exact calls_ext (H4.out _) | with_reducible exact calls_ext (H5.out _))))
    refine wpQuiet_nil ?_
    rintro _ ⟨g, rfl⟩
    clear g2 g3 fo
    have b1 := g.below
    replace f2 := Below.stays b1 f2
    replace f3 := Below.stays b1 f3
    replace f4 := Below.stays b1 f4
    replace f5 := Below.stays b1 f5
    replace f6 := Below.stays b1 f6
    replace f7 := Below.stays b1 f7
    replace bW := bW.trans (b1.mono bW.size)
    replace sW := Nat.le_trans sW b1.size
    clear b1
    generalize g.on = w8 at *
    go_wp2_with (refine wpList_load_row rfl 24 _ rfl _ rfl 24 _ (0, 0) _ (by assumption) Try.underlying24 rfl Try.infoWa ?_)
    refine (H4.out _).mono ?_
    rintro e w11 ⟨rfl, b1⟩
    replace f2 := Below.stays b1 f2
    replace f3 := Below.stays b1 f3
    replace f4 := Below.stays b1 f4
    replace f5 := Below.stays b1 f5
    replace f6 := Below.stays b1 f6
    replace f7 := Below.stays b1 f7
    replace bW := bW.trans (b1.mono bW.size)
    replace sW := Nat.le_trans sW b1.size
    clear b1
    go_wp2_with (refine wpList_load_row rfl 24 _ rfl _ rfl 24 _ (0, 0) _ (by assumption) Try.underlying24 rfl Try.infoWa ?_)
    refine (H7.out _).mono ?_
    rintro e w12 ⟨rfl, b1⟩
    replace f2 := Below.stays b1 f2
    replace f3 := Below.stays b1 f3
    replace f4 := Below.stays b1 f4
    replace f5 := Below.stays b1 f5
    replace f6 := Below.stays b1 f6
    replace f7 := Below.stays b1 f7
    replace bW := bW.trans (b1.mono bW.size)
    replace sW := Nat.le_trans sW b1.size
    clear b1
    go_upto_region 6 with (refine wpList_store_row rfl 24 (.tmp 7) _ rfl _ _ (wa nr) rfl rfl f7 Try.infoWa rfl wa_one ?_)
    simp only [Act.put]
    replace f2 := blk_row_other (b := b7) (c' := wa nr) f2 (by omega)
    replace f3 := blk_row_other (b := b7) (c' := wa nr) f3 (by omega)
    replace f4 := blk_row_other (b := b7) (c' := wa nr) f4 (by omega)
    replace f5 := blk_row_other (b := b7) (c' := wa nr) f5 (by omega)
    replace f6 := blk_row_other (b := b7) (c' := wa nr) f6 (by omega)
    replace f7 := blk_row (c' := wa nr) f7
    replace bW : Below w.heap.size w (w12.setRow (b7) (wa nr)) := below_setRow bW (by omega) _
    replace sW := Nat.le_trans sW (Nat.le_of_eq (setRow_size w12 (b7) (wa nr)).symm)
    generalize (w12.setRow (b7) (wa nr)) = w13 at *
    have d6 := word_cells f6
    have d7 := word_cells f7
    have fo := fold_wa
    have k1 := store_old (w := w13.drew) (m := q) f4
    have k2 := store_old (m := nr) (blk_row_other (w := w13.drew) (b := w.heap.size + 1 + 1) (c' := wa q) f5 (by omega))
    have d8 := word_cells (blk_row_other (w := w13.drew) (b := w.heap.size + 1 + 1) (c' := wa q) f7 (by omega))
    go_region
    all_goals
      have e4 := word_cells (blk_row_other (b := w.heap.size + 1 + 1 + 1) (c' := wa nr) (blk_row (w := w13.drew) (c' := wa q) f4) (by omega))
      have e5 := word_cells (blk_row (c' := wa nr) (blk_row_other (w := w13.drew) (b := w.heap.size + 1 + 1) (c' := wa q) f5 (by omega)))
      clear k1 k2 d6 d7 d8 fo
      go_wp2_with fail
      exact bodyPost_ret (v := .tuple #[wd q, wd nr]) (by simp [results, Try.results8, go_sem, e4, e5, fold_wa]) rfl ⟨rfl, below_setRow (below_setRow bW.drew (by omega) _) (by omega) _⟩
theorem sdiv_wd (a b : Nat) (w : World) : Calls Try.prog 8 #[wd a, wd b] w fun e w' => e = .returned (.tuple #[wd (sq a b), wd (sr a b)]) ∧ Below w.heap.size w w' := by
  have h1 := Lib.hid fun w => ssize_wd a w
  have h2 := Lib.hid fun w => ssize_wd b w
  have h3 := Lib.hid fun w => div_wd (sz a) (sz b) w
  have h4 := fun w => below_wd a w
  have h5 := fun w => below_wd b w
  unfold sq sr
  cases hA : bel a <;> cases hB : bel b <;> rw [hA] at h4 <;> rw [hB] at h5
  · exact sdiv_walk00 _ _ _ _ _ _ w h1 h2 h3 (Lib.hid h4) (Lib.hid h5)
  · exact sdiv_walk01 _ _ _ _ _ _ _ w h1 h2 h3 (Lib.hid h4) (Lib.hid h5) (Lib.hid fun w => sneg_wd _ w)
  · exact sdiv_walk10 _ _ _ _ _ _ _ _ w h1 h2 h3 (Lib.hid h4) (Lib.hid h5) (Lib.hid fun w => sneg_wd _ w) (Lib.hid fun w => sneg_wd _ w)
  · exact sdiv_walk11 _ _ _ _ _ _ _ w h1 h2 h3 (Lib.hid h4) (Lib.hid h5) (Lib.hid fun w => sneg_wd _ w)
end Go.Proofs.Ytlobchkbkdjccaa
