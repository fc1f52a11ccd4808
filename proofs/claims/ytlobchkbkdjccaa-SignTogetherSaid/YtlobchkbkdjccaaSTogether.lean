/- The statement SignTogether: for every input it returns true, and leaves all older memory as it was. -/
import Derived.Test.YtlobchkbkdjccaaSgF
import Derived.Test.YtlobchkbkdjccaaSgE
import Derived.Test.YtlobchkbkdjccaaRefM
import Derived.Test.YtlobchkbkdjccaaFrame
namespace Go.Proofs.Ytlobchkbkdjccaa
open Go.ChangeShapes Go.WideShapes Go.ChangeAt Go.RowKit SmWord
set_option maxRecDepth 100000

set_option maxHeartbeats 4000000 in
theorem stogether_walkZ (a b q r y z : Nat) (w : World) (hX : Hid ((q * b + r) % M = a % M)) (h0 : Hid (∀ w : World, (Op.equalIn 10000 24 (.agg (wa r)) (.agg #[.int .u64 0, .int .u64 0, .int .u64 0, .int .u64 0])).run Try.prog w = .ok true w)) (hE : Hid (∀ w : World, (Op.equalIn 10000 24 (.agg (wa b)) (.agg (wa 0))).run Try.prog w = .ok false w)) (H1 : Hid (∀ w : World, Calls Try.prog 8 #[wd a, wd b] w fun e w' => e = .returned (.tuple #[wd q, wd r]) ∧ Below w.heap.size w w')) (H2 : Hid (∀ w : World, Calls Try.prog 20 #[wd r] w fun e w' => e = .returned (wd y) ∧ Below w.heap.size w w')) (H3 : Hid (∀ w : World, Calls Try.prog 20 #[wd b] w fun e w' => e = .returned (wd z) ∧ Below w.heap.size w w')) (H4 : Hid (∀ w : World, Calls Try.prog 19 #[.agg (da y), .agg (da z)] w fun e w' => e = .returned (.int .i64 (-1)) ∧ Below w.heap.size w w')) :
    Calls Try.prog 4 #[wd a, wd b] w fun e w' => e = .returned (.bool true) ∧ Below w.heap.size w w' := by
  have hp1 := store_pairA
  have hp2 := store_pairB
  have hsz := wa_size
  go_enter Try.func4, Try.ntmps4
  go_upto_region 1 with fail
  have f2 : ((w.alloc (.cells (wa a) 24)).alloc (.cells (wa b) 24)).heap[w.heap.size]? = some (.cells (wa a) 24) := blk_alloc (blk_new _ rfl)
  have f3 : ((w.alloc (.cells (wa a) 24)).alloc (.cells (wa b) 24)).heap[w.heap.size + 1]? = some (.cells (wa b) 24) := blk_new _ (by simp)
  have bW : Below w.heap.size w ((w.alloc (.cells (wa a) 24)).alloc (.cells (wa b) 24)) := (((Below.refl _ _).alloc (Nat.le_refl _) _).alloc (by simp <;> omega) _)
  have sW : w.heap.size + 2 ≤ ((w.alloc (.cells (wa a) 24)).alloc (.cells (wa b) 24)).heap.size := by simp
  generalize ((w.alloc (.cells (wa a) 24)).alloc (.cells (wa b) 24)) = W at *
  go_wp2_with (refine wpList_load_row rfl 24 _ rfl _ rfl 24 _ (0, 0) _ (by assumption) Try.underlying24 rfl Try.infoWa ?_)
  refine (H1.out _).mono ?_
  rintro e w1 ⟨rfl, b1⟩
  replace f2 := Below.stays b1 f2
  replace f3 := Below.stays b1 f3
  replace bW := bW.trans (b1.mono bW.size)
  replace sW := Nat.le_trans sW b1.size
  clear b1
  go_upto_region 2 with fail
  replace f2 := blk_alloc (o' := .cells (wa r) 24) (blk_alloc (o' := .cells (wa q) 24) f2)
  replace f3 := blk_alloc (o' := .cells (wa r) 24) (blk_alloc (o' := .cells (wa q) 24) f3)
  have f5 : ((w1.alloc (.cells (wa q) 24)).alloc (.cells (wa r) 24)).heap[w1.heap.size]? = some (.cells (wa q) 24) := blk_alloc (blk_new _ rfl)
  have f6 : ((w1.alloc (.cells (wa q) 24)).alloc (.cells (wa r) 24)).heap[w1.heap.size + 1]? = some (.cells (wa r) 24) := blk_new _ (by simp)
  replace bW : Below w.heap.size w ((w1.alloc (.cells (wa q) 24)).alloc (.cells (wa r) 24)) := (bW.alloc (by omega) _).alloc (by simp; omega) _
  replace sW := Nat.le_trans sW (show w1.heap.size ≤ ((w1.alloc (.cells (wa q) 24)).alloc (.cells (wa r) 24)).heap.size by simp; omega)
  generalize ((w1.alloc (.cells (wa q) 24)).alloc (.cells (wa r) 24)) = w2 at *
  generalize w1.heap.size = b5 at *
  clear hp1 hp2 hsz
  have hz := z4_wa
  have he := hE.out
  have eg := Try.guardW
  go_upto_region 4 with (refine wpList_load_row rfl 24 _ rfl _ rfl 24 _ (0, 0) _ (by assumption) Try.underlying24 rfl Try.infoWa ?_)
  clear hz he
  refine region_mk1 (aQ := ?aQ) 8 ⟨8, 9, 31, 7, 36, zD, da (q * b + r)⟩ (by kernel_rfl) (by kernel_rfl) (fun w1x => ?hq) ?hok ?hh
  case hq =>
    simp only [List.take_succ_cons, List.take_zero]
    repeat (first | (go_big_quiet_want; refine quiet_load_row 24 _ rfl _ (wa q) rfl (fun w2 hw2 => by obtain ⟨g, rfl⟩ := hw2; exact g.block (w1x.block f5)) Try.underlying24 Try.infoWa ?_; simp only [Act.put, List.setIfInBounds_toArray, List.set_cons_succ, List.set_cons_zero]; go_big_quiet_on) | (go_big_quiet_want; refine quiet_load_row 24 _ rfl _ (wa b) rfl (fun w2 hw2 => by obtain ⟨g, rfl⟩ := hw2; exact g.block (w1x.block f3)) Try.underlying24 Try.infoWa ?_; simp only [Act.put, List.setIfInBounds_toArray, List.set_cons_succ, List.set_cons_zero]; go_big_quiet_on) | (go_big_quiet_want; refine quiet_load_row 24 _ rfl _ (wa r) rfl (fun w2 hw2 => by obtain ⟨g, rfl⟩ := hw2; exact g.block (w1x.block f6)) Try.underlying24 Try.infoWa ?_; simp only [Act.put, List.setIfInBounds_toArray, List.set_cons_succ, List.set_cons_zero]; go_big_quiet_on) | go_big_quiet_step (first | (go_at_call 15; with_reducible exact calls_ext (of_ref _ _)) | (go_at_call 18; with_reducible exact calls_ext (mul_ref _ _ _)) | (go_at_call 17; with_reducible exact calls_ext (add_ref _ _ _))))
    refine wpQuiet_nil ?_
    rfl
  case hok => exact ⟨zD_run, infoArr _, rfl, arr_one _ _ _, by simp, rfl⟩
  case hh =>
    intro b7 w4 b1 _ f7
    simp only [Act.put, List.setIfInBounds_toArray, List.set_cons_succ, List.set_cons_zero]
    dsimp only at f7
    replace f2 := Below.stays b1 f2
    replace f3 := Below.stays b1 f3
    replace f5 := Below.stays b1 f5
    replace f6 := Below.stays b1 f6
    replace bW := bW.trans (b1.mono bW.size)
    replace sW := Nat.le_trans sW b1.size
    clear b1
    go_upto_region 5 with fail
    have gf3 := fun g : Ext w4 => g.word f3
    have gf6 := fun g : Ext w4 => g.word f6
    have fo := fold_wa
    refine region_ext (by kernel_rfl) (by kernel_rfl) ?_
    repeat (go_big_quiet_step (first | (go_at_call 20; first | with_reducible exact calls_ext (H2.out _) | with_reducible exact calls_ext (H3.out _)) | (go_at_call 15; with_reducible exact calls_ext (of_ref _ _)) | (go_at_call 19; with_reducible exact calls_ext (H4.out _))))
    refine wpQuiet_nil ?_
    rintro _ ⟨g, rfl⟩
    clear gf3 gf6
    have b1 := g.below
    replace f2 := Below.stays b1 f2
    replace f3 := Below.stays b1 f3
    replace f5 := Below.stays b1 f5
    replace f6 := Below.stays b1 f6
    replace f7 := Below.stays b1 f7
    replace bW := bW.trans (b1.mono bW.size)
    replace sW := Nat.le_trans sW b1.size
    clear b1
    generalize g.on = w5 at *
    go_upto_region 6 with fail
    have gf2 := fun g : Ext w5 => g.word f2
    have gf6 := fun g : Ext w5 => g.word f6
    have e1 := fun w => eqw_yes hX.out w
    have e0 := h0.out
    refine region_ext (by kernel_rfl) (by kernel_rfl) ?_
    repeat (first | (go_big_quiet_want; refine quiet_load_row 31 _ rfl _ (da (q * b + r)) rfl (fun w2 hw2 => by obtain ⟨g, rfl⟩ := hw2; exact g.block ( f7)) Try.underlying31 (infoArr _) ?_; simp only [Act.put, List.setIfInBounds_toArray, List.set_cons_succ, List.set_cons_zero]; go_big_quiet_on) | go_big_quiet_step (first | (go_at_call 10; exact calls_ext (fixed3_walk _)) | (go_at_call 16; with_reducible exact calls_ext (word_ref _ _))))
    refine wpQuiet_nil ?_
    rintro _ ⟨g, rfl⟩
    go_wp2
    go_ret
    exact ⟨rfl, bW.trans (g.below.mono bW.size)⟩

set_option maxHeartbeats 4000000 in
theorem stogether_walkN0 (a b q r y z : Nat) (w : World) (hX : Hid ((q * b + r) % M = a % M)) (h0 : Hid (∀ w : World, (Op.equalIn 10000 24 (.agg (wa r)) (.agg #[.int .u64 0, .int .u64 0, .int .u64 0, .int .u64 0])).run Try.prog w = .ok false w)) (hE : Hid (∀ w : World, (Op.equalIn 10000 24 (.agg (wa b)) (.agg (wa 0))).run Try.prog w = .ok false w)) (H1 : Hid (∀ w : World, Calls Try.prog 8 #[wd a, wd b] w fun e w' => e = .returned (.tuple #[wd q, wd r]) ∧ Below w.heap.size w w')) (H2 : Hid (∀ w : World, Calls Try.prog 20 #[wd r] w fun e w' => e = .returned (wd y) ∧ Below w.heap.size w w')) (H3 : Hid (∀ w : World, Calls Try.prog 20 #[wd b] w fun e w' => e = .returned (wd z) ∧ Below w.heap.size w w')) (H4 : Hid (∀ w : World, Calls Try.prog 19 #[.agg (da y), .agg (da z)] w fun e w' => e = .returned (.int .i64 (-1)) ∧ Below w.heap.size w w')) (H5 : Hid (∀ w : World, Calls Try.prog 12 #[wd r] w fun e w' => e = .returned (.bool false) ∧ Below w.heap.size w w')) (H6 : Hid (∀ w : World, Calls Try.prog 12 #[wd a] w fun e w' => e = .returned (.bool false) ∧ Below w.heap.size w w')) :
    Calls Try.prog 4 #[wd a, wd b] w fun e w' => e = .returned (.bool true) ∧ Below w.heap.size w w' := by
  have hp1 := store_pairA
  have hp2 := store_pairB
  have hsz := wa_size
  go_enter Try.func4, Try.ntmps4
  go_upto_region 1 with fail
  have f2 : ((w.alloc (.cells (wa a) 24)).alloc (.cells (wa b) 24)).heap[w.heap.size]? = some (.cells (wa a) 24) := blk_alloc (blk_new _ rfl)
  have f3 : ((w.alloc (.cells (wa a) 24)).alloc (.cells (wa b) 24)).heap[w.heap.size + 1]? = some (.cells (wa b) 24) := blk_new _ (by simp)
  have bW : Below w.heap.size w ((w.alloc (.cells (wa a) 24)).alloc (.cells (wa b) 24)) := (((Below.refl _ _).alloc (Nat.le_refl _) _).alloc (by simp <;> omega) _)
  have sW : w.heap.size + 2 ≤ ((w.alloc (.cells (wa a) 24)).alloc (.cells (wa b) 24)).heap.size := by simp
  generalize ((w.alloc (.cells (wa a) 24)).alloc (.cells (wa b) 24)) = W at *
  go_wp2_with (refine wpList_load_row rfl 24 _ rfl _ rfl 24 _ (0, 0) _ (by assumption) Try.underlying24 rfl Try.infoWa ?_)
  refine (H1.out _).mono ?_
  rintro e w1 ⟨rfl, b1⟩
  replace f2 := Below.stays b1 f2
  replace f3 := Below.stays b1 f3
  replace bW := bW.trans (b1.mono bW.size)
  replace sW := Nat.le_trans sW b1.size
  clear b1
  go_upto_region 2 with fail
  replace f2 := blk_alloc (o' := .cells (wa r) 24) (blk_alloc (o' := .cells (wa q) 24) f2)
  replace f3 := blk_alloc (o' := .cells (wa r) 24) (blk_alloc (o' := .cells (wa q) 24) f3)
  have f5 : ((w1.alloc (.cells (wa q) 24)).alloc (.cells (wa r) 24)).heap[w1.heap.size]? = some (.cells (wa q) 24) := blk_alloc (blk_new _ rfl)
  have f6 : ((w1.alloc (.cells (wa q) 24)).alloc (.cells (wa r) 24)).heap[w1.heap.size + 1]? = some (.cells (wa r) 24) := blk_new _ (by simp)
  replace bW : Below w.heap.size w ((w1.alloc (.cells (wa q) 24)).alloc (.cells (wa r) 24)) := (bW.alloc (by omega) _).alloc (by simp; omega) _
  replace sW := Nat.le_trans sW (show w1.heap.size ≤ ((w1.alloc (.cells (wa q) 24)).alloc (.cells (wa r) 24)).heap.size by simp; omega)
  generalize ((w1.alloc (.cells (wa q) 24)).alloc (.cells (wa r) 24)) = w2 at *
  generalize w1.heap.size = b5 at *
  clear hp1 hp2 hsz
  have hz := z4_wa
  have he := hE.out
  have eg := Try.guardW
  go_upto_region 4 with (refine wpList_load_row rfl 24 _ rfl _ rfl 24 _ (0, 0) _ (by assumption) Try.underlying24 rfl Try.infoWa ?_)
  clear hz he
  refine region_mk1 (aQ := ?aQ) 8 ⟨8, 9, 31, 7, 36, zD, da (q * b + r)⟩ (by kernel_rfl) (by kernel_rfl) (fun w1x => ?hq) ?hok ?hh
  case hq =>
    simp only [List.take_succ_cons, List.take_zero]
    repeat (first | (go_big_quiet_want; refine quiet_load_row 24 _ rfl _ (wa q) rfl (fun w2 hw2 => by obtain ⟨g, rfl⟩ := hw2; exact g.block (w1x.block f5)) Try.underlying24 Try.infoWa ?_; simp only [Act.put, List.setIfInBounds_toArray, List.set_cons_succ, List.set_cons_zero]; go_big_quiet_on) | (go_big_quiet_want; refine quiet_load_row 24 _ rfl _ (wa b) rfl (fun w2 hw2 => by obtain ⟨g, rfl⟩ := hw2; exact g.block (w1x.block f3)) Try.underlying24 Try.infoWa ?_; simp only [Act.put, List.setIfInBounds_toArray, List.set_cons_succ, List.set_cons_zero]; go_big_quiet_on) | (go_big_quiet_want; refine quiet_load_row 24 _ rfl _ (wa r) rfl (fun w2 hw2 => by obtain ⟨g, rfl⟩ := hw2; exact g.block (w1x.block f6)) Try.underlying24 Try.infoWa ?_; simp only [Act.put, List.setIfInBounds_toArray, List.set_cons_succ, List.set_cons_zero]; go_big_quiet_on) | go_big_quiet_step (first | (go_at_call 15; with_reducible exact calls_ext (of_ref _ _)) | (go_at_call 18; with_reducible exact calls_ext (mul_ref _ _ _)) | (go_at_call 17; with_reducible exact calls_ext (add_ref _ _ _))))
    refine wpQuiet_nil ?_
    rfl
  case hok => exact ⟨zD_run, infoArr _, rfl, arr_one _ _ _, by simp, rfl⟩
  case hh =>
    intro b7 w4 b1 _ f7
    simp only [Act.put, List.setIfInBounds_toArray, List.set_cons_succ, List.set_cons_zero]
    dsimp only at f7
    replace f2 := Below.stays b1 f2
    replace f3 := Below.stays b1 f3
    replace f5 := Below.stays b1 f5
    replace f6 := Below.stays b1 f6
    replace bW := bW.trans (b1.mono bW.size)
    replace sW := Nat.le_trans sW b1.size
    clear b1
    go_upto_region 5 with fail
    have gf3 := fun g : Ext w4 => g.word f3
    have gf6 := fun g : Ext w4 => g.word f6
    have fo := fold_wa
    refine region_ext (by kernel_rfl) (by kernel_rfl) ?_
    repeat (go_big_quiet_step (first | (go_at_call 20; first | with_reducible exact calls_ext (H2.out _) | with_reducible exact calls_ext (H3.out _)) | (go_at_call 15; with_reducible exact calls_ext (of_ref _ _)) | (go_at_call 19; with_reducible exact calls_ext (H4.out _))))
    refine wpQuiet_nil ?_
    rintro _ ⟨g, rfl⟩
    clear gf3 gf6
    have b1 := g.below
    replace f2 := Below.stays b1 f2
    replace f3 := Below.stays b1 f3
    replace f5 := Below.stays b1 f5
    replace f6 := Below.stays b1 f6
    replace f7 := Below.stays b1 f7
    replace bW := bW.trans (b1.mono bW.size)
    replace sW := Nat.le_trans sW b1.size
    clear b1
    generalize g.on = w5 at *
    go_upto_region 6 with fail
    have gf2 := fun g : Ext w5 => g.word f2
    have gf6 := fun g : Ext w5 => g.word f6
    have e1 := fun w => eqw_yes hX.out w
    have e0 := h0.out
    refine region_ext (by kernel_rfl) (by kernel_rfl) ?_
    repeat (first | (go_big_quiet_want; refine quiet_load_row 31 _ rfl _ (da (q * b + r)) rfl (fun w2 hw2 => by obtain ⟨g, rfl⟩ := hw2; exact g.block ( f7)) Try.underlying31 (infoArr _) ?_; simp only [Act.put, List.setIfInBounds_toArray, List.set_cons_succ, List.set_cons_zero]; go_big_quiet_on) | go_big_quiet_step (first | (go_at_call 10; exact calls_ext (fixed3_walk _)) | (go_at_call 16; with_reducible exact calls_ext (word_ref _ _)) | (go_at_call 12; first | with_reducible exact calls_ext (H5.out _) | with_reducible exact calls_ext (H6.out _))))
    refine wpQuiet_nil ?_
    rintro _ ⟨g, rfl⟩
    go_wp2
    go_ret
    exact ⟨rfl, bW.trans (g.below.mono bW.size)⟩

set_option maxHeartbeats 4000000 in
theorem stogether_walkN1 (a b q r y z : Nat) (w : World) (hX : Hid ((q * b + r) % M = a % M)) (h0 : Hid (∀ w : World, (Op.equalIn 10000 24 (.agg (wa r)) (.agg #[.int .u64 0, .int .u64 0, .int .u64 0, .int .u64 0])).run Try.prog w = .ok false w)) (hE : Hid (∀ w : World, (Op.equalIn 10000 24 (.agg (wa b)) (.agg (wa 0))).run Try.prog w = .ok false w)) (H1 : Hid (∀ w : World, Calls Try.prog 8 #[wd a, wd b] w fun e w' => e = .returned (.tuple #[wd q, wd r]) ∧ Below w.heap.size w w')) (H2 : Hid (∀ w : World, Calls Try.prog 20 #[wd r] w fun e w' => e = .returned (wd y) ∧ Below w.heap.size w w')) (H3 : Hid (∀ w : World, Calls Try.prog 20 #[wd b] w fun e w' => e = .returned (wd z) ∧ Below w.heap.size w w')) (H4 : Hid (∀ w : World, Calls Try.prog 19 #[.agg (da y), .agg (da z)] w fun e w' => e = .returned (.int .i64 (-1)) ∧ Below w.heap.size w w')) (H5 : Hid (∀ w : World, Calls Try.prog 12 #[wd r] w fun e w' => e = .returned (.bool true) ∧ Below w.heap.size w w')) (H6 : Hid (∀ w : World, Calls Try.prog 12 #[wd a] w fun e w' => e = .returned (.bool true) ∧ Below w.heap.size w w')) :
    Calls Try.prog 4 #[wd a, wd b] w fun e w' => e = .returned (.bool true) ∧ Below w.heap.size w w' := by
  have hp1 := store_pairA
  have hp2 := store_pairB
  have hsz := wa_size
  go_enter Try.func4, Try.ntmps4
  go_upto_region 1 with fail
  have f2 : ((w.alloc (.cells (wa a) 24)).alloc (.cells (wa b) 24)).heap[w.heap.size]? = some (.cells (wa a) 24) := blk_alloc (blk_new _ rfl)
  have f3 : ((w.alloc (.cells (wa a) 24)).alloc (.cells (wa b) 24)).heap[w.heap.size + 1]? = some (.cells (wa b) 24) := blk_new _ (by simp)
  have bW : Below w.heap.size w ((w.alloc (.cells (wa a) 24)).alloc (.cells (wa b) 24)) := (((Below.refl _ _).alloc (Nat.le_refl _) _).alloc (by simp <;> omega) _)
  have sW : w.heap.size + 2 ≤ ((w.alloc (.cells (wa a) 24)).alloc (.cells (wa b) 24)).heap.size := by simp
  generalize ((w.alloc (.cells (wa a) 24)).alloc (.cells (wa b) 24)) = W at *
  go_wp2_with (refine wpList_load_row rfl 24 _ rfl _ rfl 24 _ (0, 0) _ (by assumption) Try.underlying24 rfl Try.infoWa ?_)
  refine (H1.out _).mono ?_
  rintro e w1 ⟨rfl, b1⟩
  replace f2 := Below.stays b1 f2
  replace f3 := Below.stays b1 f3
  replace bW := bW.trans (b1.mono bW.size)
  replace sW := Nat.le_trans sW b1.size
  clear b1
  go_upto_region 2 with fail
  replace f2 := blk_alloc (o' := .cells (wa r) 24) (blk_alloc (o' := .cells (wa q) 24) f2)
  replace f3 := blk_alloc (o' := .cells (wa r) 24) (blk_alloc (o' := .cells (wa q) 24) f3)
  have f5 : ((w1.alloc (.cells (wa q) 24)).alloc (.cells (wa r) 24)).heap[w1.heap.size]? = some (.cells (wa q) 24) := blk_alloc (blk_new _ rfl)
  have f6 : ((w1.alloc (.cells (wa q) 24)).alloc (.cells (wa r) 24)).heap[w1.heap.size + 1]? = some (.cells (wa r) 24) := blk_new _ (by simp)
  replace bW : Below w.heap.size w ((w1.alloc (.cells (wa q) 24)).alloc (.cells (wa r) 24)) := (bW.alloc (by omega) _).alloc (by simp; omega) _
  replace sW := Nat.le_trans sW (show w1.heap.size ≤ ((w1.alloc (.cells (wa q) 24)).alloc (.cells (wa r) 24)).heap.size by simp; omega)
  generalize ((w1.alloc (.cells (wa q) 24)).alloc (.cells (wa r) 24)) = w2 at *
  generalize w1.heap.size = b5 at *
  clear hp1 hp2 hsz
  have hz := z4_wa
  have he := hE.out
  have eg := Try.guardW
  go_upto_region 4 with (refine wpList_load_row rfl 24 _ rfl _ rfl 24 _ (0, 0) _ (by assumption) Try.underlying24 rfl Try.infoWa ?_)
  clear hz he
  refine region_mk1 (aQ := ?aQ) 8 ⟨8, 9, 31, 7, 36, zD, da (q * b + r)⟩ (by kernel_rfl) (by kernel_rfl) (fun w1x => ?hq) ?hok ?hh
  case hq =>
    simp only [List.take_succ_cons, List.take_zero]
    repeat (first | (go_big_quiet_want; refine quiet_load_row 24 _ rfl _ (wa q) rfl (fun w2 hw2 => by obtain ⟨g, rfl⟩ := hw2; exact g.block (w1x.block f5)) Try.underlying24 Try.infoWa ?_; simp only [Act.put, List.setIfInBounds_toArray, List.set_cons_succ, List.set_cons_zero]; go_big_quiet_on) | (go_big_quiet_want; refine quiet_load_row 24 _ rfl _ (wa b) rfl (fun w2 hw2 => by obtain ⟨g, rfl⟩ := hw2; exact g.block (w1x.block f3)) Try.underlying24 Try.infoWa ?_; simp only [Act.put, List.setIfInBounds_toArray, List.set_cons_succ, List.set_cons_zero]; go_big_quiet_on) | (go_big_quiet_want; refine quiet_load_row 24 _ rfl _ (wa r) rfl (fun w2 hw2 => by obtain ⟨g, rfl⟩ := hw2; exact g.block (w1x.block f6)) Try.underlying24 Try.infoWa ?_; simp only [Act.put, List.setIfInBounds_toArray, List.set_cons_succ, List.set_cons_zero]; go_big_quiet_on) | go_big_quiet_step (first | (go_at_call 15; with_reducible exact calls_ext (of_ref _ _)) | (go_at_call 18; with_reducible exact calls_ext (mul_ref _ _ _)) | (go_at_call 17; with_reducible exact calls_ext (add_ref _ _ _))))
    refine wpQuiet_nil ?_
    rfl
  case hok => exact ⟨zD_run, infoArr _, rfl, arr_one _ _ _, by simp, rfl⟩
  case hh =>
    intro b7 w4 b1 _ f7
    simp only [Act.put, List.setIfInBounds_toArray, List.set_cons_succ, List.set_cons_zero]
    dsimp only at f7
    replace f2 := Below.stays b1 f2
    replace f3 := Below.stays b1 f3
    replace f5 := Below.stays b1 f5
    replace f6 := Below.stays b1 f6
    replace bW := bW.trans (b1.mono bW.size)
    replace sW := Nat.le_trans sW b1.size
    clear b1
    go_upto_region 5 with fail
    have gf3 := fun g : Ext w4 => g.word f3
    have gf6 := fun g : Ext w4 => g.word f6
    have fo := fold_wa
    refine region_ext (by kernel_rfl) (by kernel_rfl) ?_
    repeat (go_big_quiet_step (first | (go_at_call 20; first | with_reducible exact calls_ext (H2.out _) | with_reducible exact calls_ext (H3.out _)) | (go_at_call 15; with_reducible exact calls_ext (of_ref _ _)) | (go_at_call 19; with_reducible exact calls_ext (H4.out _))))
    refine wpQuiet_nil ?_
    rintro _ ⟨g, rfl⟩
    clear gf3 gf6
    have b1 := g.below
    replace f2 := Below.stays b1 f2
    replace f3 := Below.stays b1 f3
    replace f5 := Below.stays b1 f5
    replace f6 := Below.stays b1 f6
    replace f7 := Below.stays b1 f7
    replace bW := bW.trans (b1.mono bW.size)
    replace sW := Nat.le_trans sW b1.size
    clear b1
    generalize g.on = w5 at *
    go_upto_region 6 with fail
    have gf2 := fun g : Ext w5 => g.word f2
    have gf6 := fun g : Ext w5 => g.word f6
    have e1 := fun w => eqw_yes hX.out w
    have e0 := h0.out
    refine region_ext (by kernel_rfl) (by kernel_rfl) ?_
    repeat (first | (go_big_quiet_want; refine quiet_load_row 31 _ rfl _ (da (q * b + r)) rfl (fun w2 hw2 => by obtain ⟨g, rfl⟩ := hw2; exact g.block ( f7)) Try.underlying31 (infoArr _) ?_; simp only [Act.put, List.setIfInBounds_toArray, List.set_cons_succ, List.set_cons_zero]; go_big_quiet_on) | go_big_quiet_step (first | (go_at_call 10; exact calls_ext (fixed3_walk _)) | (go_at_call 16; with_reducible exact calls_ext (word_ref _ _)) | (go_at_call 12; first | with_reducible exact calls_ext (H5.out _) | with_reducible exact calls_ext (H6.out _))))
    refine wpQuiet_nil ?_
    rintro _ ⟨g, rfl⟩
    go_wp2
    go_ret
    exact ⟨rfl, bW.trans (g.below.mono bW.size)⟩

set_option maxHeartbeats 4000000 in
theorem stogether_walk0 (a b q r : Nat) (w : World) (hq : Hid (q % M = b % M)) (hr : Hid (r % M = b % M)) (hE : Hid (∀ w : World, (Op.equalIn 10000 24 (.agg (wa b)) (.agg (wa 0))).run Try.prog w = .ok true w)) (H1 : Hid (∀ w : World, Calls Try.prog 8 #[wd a, wd b] w fun e w' => e = .returned (.tuple #[wd q, wd r]) ∧ Below w.heap.size w w')) :
    Calls Try.prog 4 #[wd a, wd b] w fun e w' => e = .returned (.bool true) ∧ Below w.heap.size w w' := by
  have hp1 := store_pairA
  have hp2 := store_pairB
  have hsz := wa_size
  go_enter Try.func4, Try.ntmps4
  go_upto_region 1 with fail
  have f2 : ((w.alloc (.cells (wa a) 24)).alloc (.cells (wa b) 24)).heap[w.heap.size]? = some (.cells (wa a) 24) := blk_alloc (blk_new _ rfl)
  have f3 : ((w.alloc (.cells (wa a) 24)).alloc (.cells (wa b) 24)).heap[w.heap.size + 1]? = some (.cells (wa b) 24) := blk_new _ (by simp)
  have bW : Below w.heap.size w ((w.alloc (.cells (wa a) 24)).alloc (.cells (wa b) 24)) := (((Below.refl _ _).alloc (Nat.le_refl _) _).alloc (by simp <;> omega) _)
  have sW : w.heap.size + 2 ≤ ((w.alloc (.cells (wa a) 24)).alloc (.cells (wa b) 24)).heap.size := by simp
  generalize ((w.alloc (.cells (wa a) 24)).alloc (.cells (wa b) 24)) = W at *
  go_wp2_with (refine wpList_load_row rfl 24 _ rfl _ rfl 24 _ (0, 0) _ (by assumption) Try.underlying24 rfl Try.infoWa ?_)
  refine (H1.out _).mono ?_
  rintro e w1 ⟨rfl, b1⟩
  replace f2 := Below.stays b1 f2
  replace f3 := Below.stays b1 f3
  replace bW := bW.trans (b1.mono bW.size)
  replace sW := Nat.le_trans sW b1.size
  clear b1
  go_upto_region 2 with fail
  replace f2 := blk_alloc (o' := .cells (wa r) 24) (blk_alloc (o' := .cells (wa q) 24) f2)
  replace f3 := blk_alloc (o' := .cells (wa r) 24) (blk_alloc (o' := .cells (wa q) 24) f3)
  have f5 : ((w1.alloc (.cells (wa q) 24)).alloc (.cells (wa r) 24)).heap[w1.heap.size]? = some (.cells (wa q) 24) := blk_alloc (blk_new _ rfl)
  have f6 : ((w1.alloc (.cells (wa q) 24)).alloc (.cells (wa r) 24)).heap[w1.heap.size + 1]? = some (.cells (wa r) 24) := blk_new _ (by simp)
  replace bW : Below w.heap.size w ((w1.alloc (.cells (wa q) 24)).alloc (.cells (wa r) 24)) := (bW.alloc (by omega) _).alloc (by simp; omega) _
  replace sW := Nat.le_trans sW (show w1.heap.size ≤ ((w1.alloc (.cells (wa q) 24)).alloc (.cells (wa r) 24)).heap.size by simp; omega)
  generalize ((w1.alloc (.cells (wa q) 24)).alloc (.cells (wa r) 24)) = w2 at *
  generalize w1.heap.size = b5 at *
  clear hp1 hp2 hsz
  have hz := z4_wa
  have he := hE.out
  have eg := Try.guardW
  go_upto_region 3 with (refine wpList_load_row rfl 24 _ rfl _ rfl 24 _ (0, 0) _ (by assumption) Try.underlying24 rfl Try.infoWa ?_)
  clear hz he
  have gf3 := fun g : Ext w2 => g.word f3
  have gf5 := fun g : Ext w2 => g.word f5
  have gf6 := fun g : Ext w2 => g.word f6
  have fo := fold_wa
  have e1 := fun w => eqw_yes hq.out w
  have e2 := fun w => eqw_yes hr.out w
  refine region_seq ?_
  repeat (go_big_quiet_step ((go_at_call 10; exact calls_ext (fixed3_walk _))))
  refine wpQuiet_nil ?_
  rintro _ ⟨g, rfl⟩
  go_wp2
  go_ret
  exact ⟨rfl, bW.trans (g.below.mono bW.size)⟩
theorem stogether_walk (a b : Nat) (w : World) : Calls Try.prog 4 #[wd a, wd b] w fun e w' => e = .returned (.bool true) ∧ Below w.heap.size w w' := by
  by_cases hb : b % M = 0
  · obtain ⟨h1, h2⟩ := by_zero a b hb
    exact stogether_walk0 a b _ _ w (Lib.hid h1) (Lib.hid h2) (Lib.hid fun w => eqw_yes (by rw [hb, Nat.zero_mod]) w) (Lib.hid fun w => sdiv_wd a b w)
  · have hE := Lib.hid fun w => eqw_no (m := b) (n := 0) (by rw [Nat.zero_mod]; exact hb) w
    have hc := Lib.hid fun w => compare_ref (sz (sr a b)) (sz b) w
    rw [show cmpN (sz (sr a b) % M) (sz b % M) = -1 from if_pos (rest_near a b hb)] at hc
    by_cases hr : sr a b % M = 0
    · exact stogether_walkZ a b _ _ _ _ w (Lib.hid (put_together a b hb)) (Lib.hid fun w => eqw_yes (n := 0) (by rw [hr, Nat.zero_mod]) w) hE (Lib.hid fun w => sdiv_wd a b w) (Lib.hid fun w => rsize_wd _ w) (Lib.hid fun w => rsize_wd _ w) hc
    · have hs := (rest_sign a b hb).resolve_left hr
      have h5 := fun w => rbelow_wd (sr a b) w
      have h6 := fun w => rbelow_wd a w
      rw [hs] at h5
      cases hp : bel a <;> rw [hp] at h5 h6
      · exact stogether_walkN0 a b _ _ _ _ w (Lib.hid (put_together a b hb)) (Lib.hid fun w => eqw_no (n := 0) (by rw [Nat.zero_mod]; exact hr) w) hE (Lib.hid fun w => sdiv_wd a b w) (Lib.hid fun w => rsize_wd _ w) (Lib.hid fun w => rsize_wd _ w) hc (Lib.hid h5) (Lib.hid h6)
      · exact stogether_walkN1 a b _ _ _ _ w (Lib.hid (put_together a b hb)) (Lib.hid fun w => eqw_no (n := 0) (by rw [Nat.zero_mod]; exact hr) w) hE (Lib.hid fun w => sdiv_wd a b w) (Lib.hid fun w => rsize_wd _ w) (Lib.hid fun w => rsize_wd _ w) hc (Lib.hid h5) (Lib.hid h6)

set_option maxRecDepth 100000 in
theorem stogether_lifted (os : Os) (started : os.Started) (H : Type) (enc : TypeId × Value → H) :
    ReturnsInHanded {} Try.checked os 4 .any (Rows.signTogetherSpec.pre6 enc Try.prog Try.f4 Rows.signTogetherRow.domain false) (Rows.signTogetherSpec.post enc Try.prog Try.f4 false true false false) := by
  refine returnsInHanded_of_change (C := Try.checked) Try.own started (by kernel_rfl) Try.func4
    (ChangeSpec.witness6 (enc := enc) (C := Try.checked) false ⟨#[], #[w0000, w0000], []⟩ 8 (by kernel_rfl) (by kernel_rfl) (by kernel_rfl) (by kernel_rfl)) ?_
  intro W base args ds gs before hval0 hW hcnd _
  have hval : ∀ (j : Nat) t v, Try.f4.params[j]? = some t → args[j]? = some v → Value.okWide Try.prog W .any base t v := hval0
  have hW' := hW
  obtain ⟨p, q, hA0, hV, rfl, hfz, hnd⟩ := hW
  have hA : DataW.TrodAll enc Try.prog W 0 (fun _ => true) true Try.f4.params.toList args.toList ds p := hA0
  rw [Try.params4] at hA hval
  obtain ⟨v0, v1, d0, d1, p0, p1, rfl, rfl, rfl, h0, h1⟩ := trodAll_two hA
  obtain ⟨rfl, rfl⟩ := trodVars_none hV
  obtain ⟨a, rfl, rfl, rfl⟩ := open_word (hval 0 24 v0 rfl rfl) h0
  obtain ⟨b, rfl, rfl, rfl⟩ := open_word (hval 1 24 v1 rfl rfl) h1
  clear hA0 hval0
  simp only [List.append_nil] at hW'
  refine (stogether_walk a b W).mono fun e W' ⟨he, bel⟩ => ?_
  subst he
  exact ⟨_, rfl, _, _, _, [], _, [], hW', trodAll_mk1 (shut_bool Try.underlying4 _), trodAll_mk2 (shut_word a _ _) (shut_word b _ _), rfl, bel.frame _, fun h => by cases h⟩

theorem stogether_holds : Rows.SignTogetherSaid :=
  OpenClaim.holds_of_wide 4 Try.f4 rfl rfl rfl rfl rfl rfl rfl ⟨rfl, rfl, rfl, rfl, rfl⟩ rfl rfl rfl rfl rfl (by kernel_rfl) Try.func4 (by kernel_rfl)
    (of_decide_eq_true (by kernel_rfl)) (by unfold Func.isWrapper; first | (rw [if_pos (by decide +kernel)]; kernel_rfl) | (rw [if_neg (by decide +kernel)]; exact ⟨rfl, rfl⟩))
    (fun os started H enc _ => stogether_lifted os started H enc)
end Go.Proofs.Ytlobchkbkdjccaa
