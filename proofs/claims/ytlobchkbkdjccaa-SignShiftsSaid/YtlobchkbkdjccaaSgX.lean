/- What the document's Sar and Extend return; all older memory is as it was. -/
import Derived.Test.YtlobchkbkdjccaaSgE
import Derived.Test.YtlobchkbkdjccaaShiftR
namespace Go.Proofs.Ytlobchkbkdjccaa
open Go.RowKit SmWord
set_option maxRecDepth 100000

set_option maxHeartbeats 2000000 in
theorem rsar_walk (a n t : Nat) (w : World) (hn : n ≤ 300) (ht : Hid (∀ i : Nat, i < 256 → (i + n < 256 → bitI a ((i : Int) + (n : Int)) = ((bitN t i : Nat) : Int)) ∧ (256 ≤ i + n → bitI a 255 = ((bitN t i : Nat) : Int)))) :
    Calls Try.prog 26 #[wd a, .int .i64 (n : Int)] w fun e w' => e = .returned (wd t) ∧ Below w.heap.size w w' := by
  have hz := z4_wa
  have hsz := wa_size
  have hds : (da a).size = 32 := arr_size _ _ _
  go_enter Try.func26, Try.ntmps26
  go_upto_region 1 with fail
  have f2 : ((w.alloc (.cells (wa a) 24)).alloc (.cells (wa 0) 24)).heap[w.heap.size]? = some (.cells (wa a) 24) := blk_alloc (blk_new _ rfl)
  have f4 : ((w.alloc (.cells (wa a) 24)).alloc (.cells (wa 0) 24)).heap[w.heap.size + 1]? = some (.cells (wa 0) 24) := blk_new _ (by simp)
  have bW : Below w.heap.size w ((w.alloc (.cells (wa a) 24)).alloc (.cells (wa 0) 24)) := (((Below.refl _ _).alloc (Nat.le_refl _) _).alloc (by simp <;> omega) _)
  have sW : w.heap.size + 2 ≤ ((w.alloc (.cells (wa a) 24)).alloc (.cells (wa 0) 24)).heap.size := by simp
  generalize ((w.alloc (.cells (wa a) 24)).alloc (.cells (wa 0) 24)) = W at *
  clear hz
  go_wp2_with (refine wpList_load_row rfl 24 _ rfl _ rfl 24 _ (0, 0) _ (by assumption) Try.underlying24 rfl Try.infoWa ?_)
  refine (of_ref a _).mono ?_
  rintro e w1 ⟨rfl, b1⟩
  replace f2 := Below.stays b1 f2
  replace f4 := Below.stays b1 f4
  replace bW := bW.trans (b1.mono bW.size)
  replace sW := Nat.le_trans sW b1.size
  clear b1
  go_upto_region 2 with (first | (refine wpList_alloc_row rfl 31 rfl zD zD_run ?_) | (refine wpList_store_row rfl 31 (.tmp 5) _ rfl _ zD (da a) rfl rfl (heap_alloc_new _ _) (infoArr _) rfl (arr_one _ _ _) ?_))
  simp only [Act.put, List.setIfInBounds_toArray, List.set_cons_succ, List.set_cons_zero]
  rw [World.setRow_alloc_new]
  replace f2 := blk_alloc (o' := .cells (da a) 31) f2
  replace f4 := blk_alloc (o' := .cells (da a) 31) f4
  have f5 : (w1.alloc (.cells (da a) 31)).heap[w1.heap.size]? = some (.cells (da a) 31) := heap_alloc_new _ _
  replace bW : Below w.heap.size w (w1.alloc (.cells (da a) 31)) := bW.alloc (by omega) _
  have sb5 : w1.heap.size + 1 ≤ (w1.alloc (.cells (da a) 31)).heap.size := by simp
  generalize (w1.alloc (.cells (da a) 31)) = w2 at *
  generalize w1.heap.size = b5 at *
  have lb5 := sW
  replace sW := Nat.le_trans (Nat.le_succ_of_le sW) sb5
  go_upto_region 3 with (first | (refine wpList_alloc_row rfl 53 rfl zB zB_run ?_) | (refine wpList_build_zero rfl 53 rfl Try.underlying53 Try.sizeOf3 zB zB_run ?_) | (refine wpList_store_row rfl 53 (.tmp 6) _ rfl _ zB zB rfl rfl (heap_alloc_new _ _) (infoArrB _) rfl (arr_one _ _ _) ?_))
  simp only [Act.put, List.setIfInBounds_toArray, List.set_cons_succ, List.set_cons_zero]
  rw [World.setRow_alloc_new]
  have h5o := f5
  replace f2 := blk_alloc (o' := .cells (zB) 53) f2
  replace f4 := blk_alloc (o' := .cells (zB) 53) f4
  replace f5 := blk_alloc (o' := .cells (zB) 53) f5
  have f6 : (w2.alloc (.cells (zB) 53)).heap[w2.heap.size]? = some (.cells (zB) 53) := heap_alloc_new _ _
  replace bW : Below w.heap.size w (w2.alloc (.cells (zB) 53)) := bW.alloc (by omega) _
  have sb6 : w2.heap.size + 1 ≤ (w2.alloc (.cells (zB) 53)).heap.size := by simp
  generalize (w2.alloc (.cells (zB) 53)) = w3 at *
  have hlt56 : b5 < w2.heap.size := (Array.getElem?_eq_some_iff.1 h5o).1
  generalize w2.heap.size = b6 at *
  have lb6 := sW
  replace sW := Nat.le_trans (Nat.le_succ_of_le sW) sb6
  have hb6 : b5 < b6 := hlt56
  clear h5o lb5 sb5 sb6 hlt56
  go_wp2_with fail
  go_loopw [7] (fun i wr => ∃ k : Nat, k ≤ 256 ∧ i = .int .i64 k ∧ Below w.heap.size w wr ∧ wr.heap[b5]? = some (.cells (da a) 31) ∧ wr.heap[w.heap.size + 1]? = some (.cells (wa 0) 24) ∧ wr.heap[b6]? = some (.cells (arr .i64 256 (fun j => if j < k then ((bitN t j : Nat) : Int) else 0)) 53)) (fun i _ => 256 - (intOf i).toNat)
  case atStart => exact ⟨0, Nat.zero_le _, rfl, bW, f5, f4, by rw [fillB_start]; exact f6⟩
  case round =>
    obtain ⟨k, hk, rfl, hb, ha, hr, hd⟩ := hrel
    clear f2 f4 f5 f6 bW
    by_cases hlt : k < 256
    · obtain ⟨ht1, ht2⟩ := ht.out k hlt
      have HA := Lib.hid ha
      have HR := Lib.hid hr
      have HD := Lib.hid hd
      have HB := Lib.hid hb
      clear ha hr hd hb
      go_wp2_with (refine wpList_load_row rfl 31 _ rfl _ rfl 31 (da a) (0, 0) _ HA.out Try.underlying31 rfl (infoArr _) ?_)
      refine (bit_ref a _ _).mono ?_
      rintro e w1 ⟨rfl, b1⟩
      have ha := stay b1 HA.out
      have hr := stay b1 HR.out
      have hd := stay b1 HD.out
      have hb := HB.out.trans (b1.mono HB.out.size)
      have c2 := blk_cell hd (arr_get .i64 _ hlt)
      have c3 := blk_frozen (j := k) hd
      clear HA HR HD HB b1
      have HA := Lib.hid ha
      have HR := Lib.hid hr
      have HD := Lib.hid hd
      have HB := Lib.hid hb
      clear ha hr hd hb
      go_upto_region 7 with fail
      clear c2 c3
      have ha := blk_other (j := k) HA.out (show b5 ≠ b6 by omega) (.int .i64 (bitI a 255))
      have hr := blk_other (j := k) HR.out (show w.heap.size + 1 ≠ b6 by omega) (.int .i64 (bitI a 255))
      have hd := blk_set (j := k) HD.out (.int .i64 (bitI a 255))
      have hb := Below.setCell (p := ⟨b6, k, none⟩) HB.out (by show _ ≤ b6; omega) (.int .i64 (bitI a 255))
      clear HA HR HD HB
      generalize World.setCell _ _ _ = w2' at *
      have HA := Lib.hid ha
      have HR := Lib.hid hr
      have HD := Lib.hid hd
      have HB := Lib.hid hb
      clear ha hr hd hb
      by_cases hc : k + n < 256
      · have HT := Lib.hid (ht1 hc)
        clear ht1 ht2
        go_wp2_with (refine wpList_load_row rfl 31 _ rfl _ rfl 31 (da a) (0, 0) _ HA.out Try.underlying31 rfl (infoArr _) ?_)
        refine (bit_ref a _ _).mono ?_
        rintro e w1' ⟨rfl, b1⟩
        have ha := stay b1 HA.out
        have hr := stay b1 HR.out
        have hd := stay b1 HD.out
        have hb := HB.out.trans (b1.mono HB.out.size)
        have c2 := blk_cell (j := k) (v := .int .i64 (bitI a 255)) hd (by rw [Array.getElem?_setIfInBounds_self_of_lt (by rw [arr_size]; exact hlt)])
        have c3 := blk_frozen (j := k) hd
        clear HA HR HD HB b1
        have HA := Lib.hid ha
        have HR := Lib.hid hr
        have HD := Lib.hid hd
        have HB := Lib.hid hb
        clear ha hr hd hb
        rw [HT.out]
        go_wp2_with fail
        refine ⟨⟨k + 1, by omega, by go_num, HB.out.setCell (by show _ ≤ b6; omega) _, blk_other HA.out (by omega) _, blk_other HR.out (by omega) _, ?_⟩, by simp [intOf]; omega⟩
        rw [← fillB_step (fun j => ((bitN t j : Nat) : Int)) k hlt _ rfl]
        have := blk_set (j := k) HD.out (.int .i64 ((bitN t k : Nat) : Int))
        rw [Array.setIfInBounds_setIfInBounds] at this
        exact this
      · have HT := Lib.hid (ht2 (by omega))
        clear ht1 ht2
        go_wp2_with fail
        refine ⟨⟨k + 1, by omega, by go_num, HB.out, HA.out, HR.out, ?_⟩, by simp [intOf]; omega⟩
        rw [← fillB_step (fun j => ((bitN t j : Nat) : Int)) k hlt _ rfl, ← HT.out]
        exact HD.out
    · obtain rfl : k = 256 := by omega
      rw [fillB_end] at hd
      have HB := Lib.hid hb
      clear hb ha
      go_wp2_with (refine wpList_load_row rfl 53 _ rfl _ rfl 53 (ba t) (0, 0) _ hd Try.underlying53 rfl (infoArrB _) ?_)
      refine (bits_ref t _).mono ?_
      rintro e w1 ⟨rfl, b1⟩
      have hr1 := stay b1 hr
      have hb1 := HB.out.trans (b1.mono HB.out.size)
      clear hr HB b1
      go_wp2_with fail
      refine (word_ref t _).mono ?_
      rintro e w2 ⟨rfl, b1⟩
      have hr := stay b1 hr1
      have hb := hb1.trans (b1.mono hb1.size)
      clear hr1 hb1 b1
      go_wp2_with (refine wpList_store_row rfl 24 (.tmp 4) _ rfl _ _ (wa t) rfl rfl hr Try.infoWa rfl wa_one ?_)
      have e4 := word_cells (blk_row (c' := wa t) hr)
      exact bodyPost_ret (v := wd t) (by simp [results, Try.results26, go_sem, e4, fold_wa]) rfl ⟨rfl, below_setRow hb (by omega) _⟩
end Go.Proofs.Ytlobchkbkdjccaa
