/- What the function divide of package wide does, walked: its parts are named by contracts; all older memory is as it was. -/
import Derived.Test.YtlobchkbkdjccaaDigitN
import Derived.Test.YtlobchkbkdjccaaPartA
import Derived.Deep.RegionWith
namespace Go.Proofs.Ytlobchkbkdjccaa
open Go.RowKit SmWord
set_option maxRecDepth 100000

theorem store_old {w : World} {b n m : Nat} (hb : w.heap[b]? = some (.cells (wa n) 24)) : (storeCells ⟨b, 0, none⟩ (wa m).toList 0).run Try.prog w = .ok () (w.setRow b (wa m)) := by
  have := run_storeCells_from (P := Try.prog) b _ (wa m).toList 0 (wa n) w hb (by simp [wa_size]) (fun v hv => (Array.all_eq_true_iff_forall_mem.1 (wa_one (n := m))) v (by simpa using hv))
  simpa using this

set_option maxHeartbeats 2000000 in
theorem divide_walk (h l m m1 hs ls L1 : Nat) (s : Nat) (rk qk dk : Nat → Nat) (ro : Nat) (w : World)
   (hE : Hid (∀ w : World, (Op.equalIn 10000 24 (.agg (wa m)) (.agg (wa 0))).run Try.prog w = .ok false w))
   (_hs0 : 0 ≤ s) (_hs1 : s ≤ 255)
   (Hl : Hid (∀ w : World, Calls Try.prog 53 #[wd m] w fun e w' => e = .returned (.int .i64 (256 - (s : Int))) ∧ Below w.heap.size w w'))
   (H1 : Hid (∀ w : World, Calls Try.prog 40 #[wd m, .int .u64 (s : Int)] w fun e w' => e = .returned (wd m1) ∧ Below w.heap.size w w'))
   (H2 : Hid (∀ w : World, Calls Try.prog 40 #[wd h, .int .u64 (s : Int)] w fun e w' => e = .returned (wd hs) ∧ Below w.heap.size w w'))
   (H3 : Hid (∀ w : World, Calls Try.prog 41 #[wd l, .int .u64 (256 - (s : Int))] w fun e w' => e = .returned (wd ls) ∧ Below w.heap.size w w'))
   (H4 : Hid (∀ w : World, Calls Try.prog 54 #[wd hs, wd ls] w fun e w' => e = .returned (wd (rk 4)) ∧ Below w.heap.size w w'))
   (H5 : Hid (∀ w : World, Calls Try.prog 40 #[wd l, .int .u64 (s : Int)] w fun e w' => e = .returned (wd L1) ∧ Below w.heap.size w w'))
   (hq4 : Hid (qk 4 = 0)) (Hd : Hid (∀ j, j < 4 → ∀ w : World, Calls Try.prog 55 #[wd (rk (j + 1)), .int .u64 ((lb L1 j : Nat) : Int), wd m1] w fun e w' => e = .returned (.tuple #[.int .u64 ((dk j : Nat) : Int), wd (rk j)]) ∧ Below w.heap.size w w'))
   (Hq : Hid (∀ j, j < 4 → (wa (qk (j + 1))).setIfInBounds j (.int .u64 ((dk j : Nat) : Int)) = wa (qk j)))
   (H6 : Hid (∀ w : World, Calls Try.prog 41 #[wd (rk 0), .int .u64 (s : Int)] w fun e w' => e = .returned (wd ro) ∧ Below w.heap.size w w')) :
    Calls Try.prog 45 #[wd h, wd l, wd m] w fun e w' => e = .returned (.tuple #[wd (qk 0), wd ro]) ∧ Below w.heap.size w w' := by
  have hz := z4_wa
  have hsz := wa_size
  go_enter Try.func45, Try.ntmps45
  go_upto_region 1 with fail
  have f3 : (((((w.alloc (.cells (wa h) 24)).alloc (.cells (wa l) 24)).alloc (.cells (wa m) 24)).alloc (.cells (wa 0) 24)).alloc (.cells (wa 0) 24)).heap[w.heap.size]? = some (.cells (wa h) 24) := blk_alloc (blk_alloc (blk_alloc (blk_alloc (blk_new _ rfl))))
  have f4 : (((((w.alloc (.cells (wa h) 24)).alloc (.cells (wa l) 24)).alloc (.cells (wa m) 24)).alloc (.cells (wa 0) 24)).alloc (.cells (wa 0) 24)).heap[w.heap.size + 1]? = some (.cells (wa l) 24) := blk_alloc (blk_alloc (blk_alloc (blk_new _ (by simp))))
  have f5 : (((((w.alloc (.cells (wa h) 24)).alloc (.cells (wa l) 24)).alloc (.cells (wa m) 24)).alloc (.cells (wa 0) 24)).alloc (.cells (wa 0) 24)).heap[w.heap.size + 1 + 1]? = some (.cells (wa m) 24) := blk_alloc (blk_alloc (blk_new _ (by simp)))
  have f6 : (((((w.alloc (.cells (wa h) 24)).alloc (.cells (wa l) 24)).alloc (.cells (wa m) 24)).alloc (.cells (wa 0) 24)).alloc (.cells (wa 0) 24)).heap[w.heap.size + 1 + 1 + 1]? = some (.cells (wa 0) 24) := blk_alloc (blk_new _ (by simp))
  have f7 : (((((w.alloc (.cells (wa h) 24)).alloc (.cells (wa l) 24)).alloc (.cells (wa m) 24)).alloc (.cells (wa 0) 24)).alloc (.cells (wa 0) 24)).heap[w.heap.size + 1 + 1 + 1 + 1]? = some (.cells (wa 0) 24) := blk_new _ (by simp)
  have bW : Below w.heap.size w (((((w.alloc (.cells (wa h) 24)).alloc (.cells (wa l) 24)).alloc (.cells (wa m) 24)).alloc (.cells (wa 0) 24)).alloc (.cells (wa 0) 24)) := ((((((Below.refl _ _).alloc (Nat.le_refl _) _).alloc (by simp <;> omega) _).alloc (by simp <;> omega) _).alloc (by simp <;> omega) _).alloc (by simp <;> omega) _)
  have sW : w.heap.size + 5 ≤ (((((w.alloc (.cells (wa h) 24)).alloc (.cells (wa l) 24)).alloc (.cells (wa m) 24)).alloc (.cells (wa 0) 24)).alloc (.cells (wa 0) 24)).heap.size := by simp
  generalize (((((w.alloc (.cells (wa h) 24)).alloc (.cells (wa l) 24)).alloc (.cells (wa m) 24)).alloc (.cells (wa 0) 24)).alloc (.cells (wa 0) 24)) = W at *
  have he := hE.out
  have hg := Try.guardW
  go_upto_region 3 with (refine wpList_load_row rfl 24 _ rfl _ rfl 24 _ (0, 0) _ (by assumption) Try.underlying24 rfl Try.infoWa ?_)
  clear he hg
  go_wp2_with (refine wpList_load_row rfl 24 _ rfl _ rfl 24 _ (0, 0) _ (by assumption) Try.underlying24 rfl Try.infoWa ?_)
  refine (Hl.out _).mono ?_
  rintro e w1 ⟨rfl, b1⟩
  replace f3 := Below.stays b1 f3
  replace f4 := Below.stays b1 f4
  replace f5 := Below.stays b1 f5
  replace f6 := Below.stays b1 f6
  replace f7 := Below.stays b1 f7
  replace bW := bW.trans (b1.mono bW.size)
  replace sW := Nat.le_trans sW b1.size
  clear b1
  go_wp2_with (refine wpList_load_row rfl 24 _ rfl _ rfl 24 _ (0, 0) _ (by assumption) Try.underlying24 rfl Try.infoWa ?_)
  rw [show (256 : Int) - (256 - (s : Int)) = (s : Int) by omega]
  refine (H1.out _).mono ?_
  rintro e w2 ⟨rfl, b1⟩
  replace f3 := Below.stays b1 f3
  replace f4 := Below.stays b1 f4
  replace f5 := Below.stays b1 f5
  replace f6 := Below.stays b1 f6
  replace f7 := Below.stays b1 f7
  replace bW := bW.trans (b1.mono bW.size)
  replace sW := Nat.le_trans sW b1.size
  clear b1
  go_upto_region 5 with (refine wpList_store_row rfl 24 _ _ rfl _ _ (wa m1) rfl rfl f5 Try.infoWa rfl wa_one ?_)
  simp only [Act.put]
  replace f3 := blk_row_other (b := w.heap.size + 1 + 1) (c' := wa m1) f3 (by omega)
  replace f4 := blk_row_other (b := w.heap.size + 1 + 1) (c' := wa m1) f4 (by omega)
  replace f6 := blk_row_other (b := w.heap.size + 1 + 1) (c' := wa m1) f6 (by omega)
  replace f7 := blk_row_other (b := w.heap.size + 1 + 1) (c' := wa m1) f7 (by omega)
  replace f5 := blk_row (c' := wa m1) f5
  replace bW : Below w.heap.size w (w2.setRow (w.heap.size + 1 + 1) (wa m1)) := below_setRow bW (by omega) _
  replace sW := Nat.le_trans sW (Nat.le_of_eq (setRow_size w2 (w.heap.size + 1 + 1) (wa m1)).symm)
  generalize (w2.setRow (w.heap.size + 1 + 1) (wa m1)) = w3 at *
  refine region_mk1 (aQ := ?aQ) 8 ⟨8, 9, 24, 9, 31, #[.int .u64 0, .int .u64 0, .int .u64 0, .int .u64 0], wa (rk 4)⟩ (by kernel_rfl) (by kernel_rfl) (fun w1x => ?hq) ?hok ?hh
  case hq =>
    simp only [List.take_succ_cons, List.take_zero]
    repeat (first | (go_big_quiet_want; refine quiet_load_row 24 _ rfl _ (wa h) rfl (fun w2 hw2 => by obtain ⟨g, rfl⟩ := hw2; exact g.block (w1x.block f3)) Try.underlying24 Try.infoWa ?_; simp only [Act.put, List.setIfInBounds_toArray, List.set_cons_succ, List.set_cons_zero]; go_big_quiet_on) | (go_big_quiet_want; refine quiet_load_row 24 _ rfl _ (wa l) rfl (fun w2 hw2 => by obtain ⟨g, rfl⟩ := hw2; exact g.block (w1x.block f4)) Try.underlying24 Try.infoWa ?_; simp only [Act.put, List.setIfInBounds_toArray, List.set_cons_succ, List.set_cons_zero]; go_big_quiet_on) | go_big_quiet_step (first | (go_at_call 40; with_reducible exact calls_ext (H2.out _)) | (go_at_call 41; with_reducible exact calls_ext (H3.out _)) | (go_at_call 54; with_reducible exact calls_ext (H4.out _))))
    refine wpQuiet_nil ?_
    rfl
  case hok => exact ⟨Try.zeroValue24, Try.infoW, rfl, by simp [wa, Value.oneCell'], by simp, rfl⟩
  case hh =>
    intro b9 w4 b1 lb9 f9
    simp only [Act.put, List.setIfInBounds_toArray, List.set_cons_succ, List.set_cons_zero]
    replace lb9 := Nat.le_trans sW lb9
    replace f3 := Below.stays b1 f3
    replace f4 := Below.stays b1 f4
    replace f5 := Below.stays b1 f5
    replace f6 := Below.stays b1 f6
    replace f7 := Below.stays b1 f7
    replace bW := bW.trans (b1.mono bW.size)
    replace sW := Nat.le_trans sW b1.size
    clear b1
    go_wp2_with (refine wpList_load_row rfl 24 _ rfl _ rfl 24 _ (0, 0) _ (by assumption) Try.underlying24 rfl Try.infoWa ?_)
    refine (H5.out _).mono ?_
    rintro e w5 ⟨rfl, b1⟩
    replace f3 := Below.stays b1 f3
    replace f4 := Below.stays b1 f4
    replace f5 := Below.stays b1 f5
    replace f6 := Below.stays b1 f6
    replace f7 := Below.stays b1 f7
    replace f9 := Below.stays b1 f9
    replace bW := bW.trans (b1.mono bW.size)
    replace sW := Nat.le_trans sW b1.size
    clear b1
    go_upto_region 7 with (refine wpList_store_row rfl 24 _ _ rfl _ _ (wa L1) rfl rfl f4 Try.infoWa rfl wa_one ?_)
    simp only [Act.put]
    replace f3 := blk_row_other (b := w.heap.size + 1) (c' := wa L1) f3 (by omega)
    replace f5 := blk_row_other (b := w.heap.size + 1) (c' := wa L1) f5 (by omega)
    replace f6 := blk_row_other (b := w.heap.size + 1) (c' := wa L1) f6 (by omega)
    replace f7 := blk_row_other (b := w.heap.size + 1) (c' := wa L1) f7 (by omega)
    replace f9 := blk_row_other (b := w.heap.size + 1) (c' := wa L1) f9 (by omega)
    replace f4 := blk_row (c' := wa L1) f4
    replace bW : Below w.heap.size w (w5.setRow (w.heap.size + 1) (wa L1)) := below_setRow bW (by omega) _
    replace sW := Nat.le_trans sW (Nat.le_of_eq (setRow_size w5 (w.heap.size + 1) (wa L1)).symm)
    generalize (w5.setRow (w.heap.size + 1) (wa L1)) = w6 at *
    go_upto_block 0 with fail
    have ub9 : b9 + 1 ≤ w6.heap.size := (Array.getElem?_eq_some_iff.1 f9).1
    replace f3 := blk_alloc (o' := .cells (wa 0) 24) f3
    replace f4 := blk_alloc (o' := .cells (wa 0) 24) f4
    replace f5 := blk_alloc (o' := .cells (wa 0) 24) f5
    replace f6 := blk_alloc (o' := .cells (wa 0) 24) f6
    replace f7 := blk_alloc (o' := .cells (wa 0) 24) f7
    replace f9 := blk_alloc (o' := .cells (wa 0) 24) f9
    have f10 : (w6.alloc (.cells (wa 0) 24)).heap[w6.heap.size]? = some (.cells (wa 0) 24) := heap_alloc_new _ _
    replace bW : Below w.heap.size w (w6.alloc (.cells (wa 0) 24)) := bW.alloc (by omega) _
    have sb10 : w6.heap.size + 1 ≤ (w6.alloc (.cells (wa 0) 24)).heap.size := by simp
    generalize (w6.alloc (.cells (wa 0) 24)) = w7 at *
    generalize w6.heap.size = b10 at *
    have lb10 := sW
    replace sW := Nat.le_trans (Nat.le_succ_of_le sW) sb10
    clear hz hsz f3
    go_wp2_with fail
    go_loopw [11] (fun i wr => ∃ n : Nat, n ≤ 4 ∧ i = .int .i64 ((n : Int) - 1) ∧ wr.heap[b9]? = some (.cells (wa (rk n)) 24) ∧ wr.heap[b10]? = some (.cells (wa (qk n)) 24) ∧ wr.heap[w.heap.size + 1]? = some (.cells (wa L1) 24) ∧ wr.heap[w.heap.size + 1 + 1]? = some (.cells (wa m1) 24) ∧ wr.heap[w.heap.size + 1 + 1 + 1]? = some (.cells (wa 0) 24) ∧ wr.heap[w.heap.size + 1 + 1 + 1 + 1]? = some (.cells (wa 0) 24) ∧ Below w.heap.size w wr) (fun i _ => (intOf i + 1).toNat)
    case atStart => exact ⟨4, Nat.le_refl _, rfl, f9, by rw [hq4.out]; exact f10, f4, f5, f6, f7, bW⟩
    case round =>
      clear f4 f5 f6 f7 f9 f10 bW sW
      obtain ⟨n, hn, rfl, f9, f10, f4, f5, f6, f7, bW⟩ := hrel
      cases n with
      | zero =>
        go_wp2_with fail
        have d9 := word_cells f9
        have d10 := word_cells f10
        have fo := fold_wa
        go_region_with (first | (go_at_call 41; refine (H6.out _).mono ?_; rintro e w8 ⟨rfl, hb⟩; have g10 := word_cells (Below.stays hb f10); have g6 := Below.stays hb f6; have g7 := Below.stays hb f7; have k1 := store_old (m := qk 0) g6; have k2 := store_old (m := ro) (blk_row_other (b := w.heap.size + 1 + 1 + 1) (c' := wa (qk 0)) g7 (by omega)); clear g6 g7))
        all_goals
          have g6 := Below.stays hb f6
          have g7 := Below.stays hb f7
          have bX : Below w.heap.size w w8 := bW.drew.trans (hb.mono bW.size)
          have e6 := word_cells (blk_row_other (b := w.heap.size + 1 + 1 + 1 + 1) (c' := wa ro) (blk_row (c' := wa (qk 0)) g6) (by omega))
          have e7 := word_cells (blk_row (c' := wa ro) (blk_row_other (b := w.heap.size + 1 + 1 + 1) (c' := wa (qk 0)) g7 (by omega)))
          clear k1 k2 d9 d10 hb f4 f5 f6 f7 f9 f10 bW
          go_wp2_with fail
          refine bodyPost_ret (v := .tuple #[wd (qk 0), wd ro]) (by simp [results, Try.results45, go_sem, e6, e7, fo]) rfl ⟨rfl, below_setRow (below_setRow bX (by omega) _) (by omega) _⟩
      | succ j =>
        rw [show (((j + 1 : Nat) : Int) - 1) = (j : Int) by omega]
        have hj : j < 4 := by omega
        have c4 := blk_cell f4 (wa_lb L1 j hj)
        have d9 := word_cells f9
        have d5 := word_cells f5
        have fo := fold_wa
        go_wp2_with fail
        go_region_with (first | (go_at_call 55; refine (Hd.out j hj _).mono ?_; rintro e w8 ⟨rfl, hb⟩; have g10 := Below.stays hb f10; have g9 := Below.stays hb f9; have k1 := blk_cell g10 (wa_lb (qk (j + 1)) j hj); have k2 := blk_frozen (j := j) g10; have k3 := store_old (m := rk j) (blk_other (b := b10) (j := j) g9 (by omega) (.int .u64 ((dk j : Nat) : Int))); clear g10 g9))
        all_goals
          have g4 := Below.stays hb f4
          have g5 := Below.stays hb f5
          have g6 := Below.stays hb f6
          have g7 := Below.stays hb f7
          have g9 := Below.stays hb f9
          have g10 := Below.stays hb f10
          have bX : Below w.heap.size w w8 := bW.drew.trans (hb.mono bW.size)
          clear k1 k2 k3 c4 d9 d5 fo hb f4 f5 f6 f7 f9 f10 bW
          go_wp2_with fail
          refine ⟨⟨j, by omega, rfl, blk_row (blk_other (j := j) g9 (by omega) _), ?_, blk_row_other (blk_other (j := j) g4 (by omega) _) (by omega), blk_row_other (blk_other (j := j) g5 (by omega) _) (by omega), blk_row_other (blk_other (j := j) g6 (by omega) _) (by omega), blk_row_other (blk_other (j := j) g7 (by omega) _) (by omega), below_setRow (bX.setCell (by show _ ≤ b10; omega) _) (by omega) _⟩, by simp only [intOf]; omega⟩
          rw [← Hq.out j hj]
          exact blk_row_other (blk_set g10 _) (by omega)
    
end Go.Proofs.Ytlobchkbkdjccaa
