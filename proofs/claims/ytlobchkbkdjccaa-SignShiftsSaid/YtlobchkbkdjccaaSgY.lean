/- What the document's Extend and Sar return, in numbers; all older memory is as it was. -/
import Derived.Test.YtlobchkbkdjccaaSgX
namespace Go.Proofs.Ytlobchkbkdjccaa
open Go.RowKit SmWord
set_option maxRecDepth 100000

/-- The bytes ahead of place k behind place v are F. -/
def fillE (a v k : Nat) (F : Int) : Array Value := arr .i64 32 (fun j => if v < j ∧ j < k then F else ((dig a j : Nat) : Int))
theorem fillE_start (a v : Nat) (F : Int) : fillE a v (v + 1) F = da a := arr_congr fun i _ => by rw [if_neg (by omega)]
theorem fillE_step (a v k : Nat) (F : Int) (hk : k < 32) (hv : v < k) : (fillE a v k F).setIfInBounds k (.int .i64 F) = fillE a v (k + 1) F := by
  unfold fillE
  rw [arr_set _ _ _ hk]
  refine arr_congr fun i _ => ?_
  by_cases h : i = k
  · rw [if_pos h, if_pos (by omega)]
  · rw [if_neg h]
    by_cases h2 : v < i ∧ i < k
    · rw [if_pos h2, if_pos (by omega)]
    · rw [if_neg h2, if_neg (by omega)]

set_option maxHeartbeats 1000000 in
theorem rext_plain0 (n a : Nat) (w : World) (h1 : (((l1 n : Nat) : Int) != 0) = true) :
    Calls Try.prog 24 #[wd n, wd a] w fun e w' => e = .returned (wd a) ∧ Below w.heap.size w w' := by
  have hz := z4_wa
  have hsz := wa_size
  go_enter Try.func24, Try.ntmps24
  go_upto_region 1 with fail
  have f2 : (((w.alloc (.cells (wa n) 24)).alloc (.cells (wa a) 24)).alloc (.cells (wa 0) 24)).heap[w.heap.size]? = some (.cells (wa n) 24) := blk_alloc (blk_alloc (blk_new _ rfl))
  have f3 : (((w.alloc (.cells (wa n) 24)).alloc (.cells (wa a) 24)).alloc (.cells (wa 0) 24)).heap[w.heap.size + 1]? = some (.cells (wa a) 24) := blk_alloc (blk_new _ (by simp))
  have f4 : (((w.alloc (.cells (wa n) 24)).alloc (.cells (wa a) 24)).alloc (.cells (wa 0) 24)).heap[w.heap.size + 1 + 1]? = some (.cells (wa 0) 24) := blk_new _ (by simp)
  have bW : Below w.heap.size w (((w.alloc (.cells (wa n) 24)).alloc (.cells (wa a) 24)).alloc (.cells (wa 0) 24)) := ((((Below.refl _ _).alloc (Nat.le_refl _) _).alloc (by simp <;> omega) _).alloc (by simp <;> omega) _)
  have sW : w.heap.size + 3 ≤ (((w.alloc (.cells (wa n) 24)).alloc (.cells (wa a) 24)).alloc (.cells (wa 0) 24)).heap.size := by simp
  generalize (((w.alloc (.cells (wa n) 24)).alloc (.cells (wa a) 24)).alloc (.cells (wa 0) 24)) = W at *
  obtain ⟨c0, c1, c2, c3⟩ := word_cells f2
  go_wp2_with (first | (refine wpList_load_row rfl 24 _ rfl _ rfl 24 _ (0, 0) _ (by assumption) Try.underlying24 rfl Try.infoWa ?_) | (refine wpList_store_row rfl 24 (.tmp 4) _ rfl _ _ (wa a) rfl rfl f4 Try.infoWa rfl wa_one ?_))
  have e2 := word_cells (blk_row (c' := wa a) f4)
  exact bodyPost_ret (v := wd a) (by simp [results, Try.results24, go_sem, e2, fold_wa]) rfl ⟨rfl, below_setRow bW (by omega) _⟩

set_option maxHeartbeats 1000000 in
theorem rext_plain1 (n a : Nat) (w : World) (h1 : (((l1 n : Nat) : Int) != 0) = false) (h2 : (((l2 n : Nat) : Int) != 0) = true) :
    Calls Try.prog 24 #[wd n, wd a] w fun e w' => e = .returned (wd a) ∧ Below w.heap.size w w' := by
  have hz := z4_wa
  have hsz := wa_size
  go_enter Try.func24, Try.ntmps24
  go_upto_region 1 with fail
  have f2 : (((w.alloc (.cells (wa n) 24)).alloc (.cells (wa a) 24)).alloc (.cells (wa 0) 24)).heap[w.heap.size]? = some (.cells (wa n) 24) := blk_alloc (blk_alloc (blk_new _ rfl))
  have f3 : (((w.alloc (.cells (wa n) 24)).alloc (.cells (wa a) 24)).alloc (.cells (wa 0) 24)).heap[w.heap.size + 1]? = some (.cells (wa a) 24) := blk_alloc (blk_new _ (by simp))
  have f4 : (((w.alloc (.cells (wa n) 24)).alloc (.cells (wa a) 24)).alloc (.cells (wa 0) 24)).heap[w.heap.size + 1 + 1]? = some (.cells (wa 0) 24) := blk_new _ (by simp)
  have bW : Below w.heap.size w (((w.alloc (.cells (wa n) 24)).alloc (.cells (wa a) 24)).alloc (.cells (wa 0) 24)) := ((((Below.refl _ _).alloc (Nat.le_refl _) _).alloc (by simp <;> omega) _).alloc (by simp <;> omega) _)
  have sW : w.heap.size + 3 ≤ (((w.alloc (.cells (wa n) 24)).alloc (.cells (wa a) 24)).alloc (.cells (wa 0) 24)).heap.size := by simp
  generalize (((w.alloc (.cells (wa n) 24)).alloc (.cells (wa a) 24)).alloc (.cells (wa 0) 24)) = W at *
  obtain ⟨c0, c1, c2, c3⟩ := word_cells f2
  go_wp2_with (first | (refine wpList_load_row rfl 24 _ rfl _ rfl 24 _ (0, 0) _ (by assumption) Try.underlying24 rfl Try.infoWa ?_) | (refine wpList_store_row rfl 24 (.tmp 4) _ rfl _ _ (wa a) rfl rfl f4 Try.infoWa rfl wa_one ?_))
  have e2 := word_cells (blk_row (c' := wa a) f4)
  exact bodyPost_ret (v := wd a) (by simp [results, Try.results24, go_sem, e2, fold_wa]) rfl ⟨rfl, below_setRow bW (by omega) _⟩

set_option maxHeartbeats 1000000 in
theorem rext_plain2 (n a : Nat) (w : World) (h1 : (((l1 n : Nat) : Int) != 0) = false) (h2 : (((l2 n : Nat) : Int) != 0) = false) (h3 : (((l3 n : Nat) : Int) != 0) = true) :
    Calls Try.prog 24 #[wd n, wd a] w fun e w' => e = .returned (wd a) ∧ Below w.heap.size w w' := by
  have hz := z4_wa
  have hsz := wa_size
  go_enter Try.func24, Try.ntmps24
  go_upto_region 1 with fail
  have f2 : (((w.alloc (.cells (wa n) 24)).alloc (.cells (wa a) 24)).alloc (.cells (wa 0) 24)).heap[w.heap.size]? = some (.cells (wa n) 24) := blk_alloc (blk_alloc (blk_new _ rfl))
  have f3 : (((w.alloc (.cells (wa n) 24)).alloc (.cells (wa a) 24)).alloc (.cells (wa 0) 24)).heap[w.heap.size + 1]? = some (.cells (wa a) 24) := blk_alloc (blk_new _ (by simp))
  have f4 : (((w.alloc (.cells (wa n) 24)).alloc (.cells (wa a) 24)).alloc (.cells (wa 0) 24)).heap[w.heap.size + 1 + 1]? = some (.cells (wa 0) 24) := blk_new _ (by simp)
  have bW : Below w.heap.size w (((w.alloc (.cells (wa n) 24)).alloc (.cells (wa a) 24)).alloc (.cells (wa 0) 24)) := ((((Below.refl _ _).alloc (Nat.le_refl _) _).alloc (by simp <;> omega) _).alloc (by simp <;> omega) _)
  have sW : w.heap.size + 3 ≤ (((w.alloc (.cells (wa n) 24)).alloc (.cells (wa a) 24)).alloc (.cells (wa 0) 24)).heap.size := by simp
  generalize (((w.alloc (.cells (wa n) 24)).alloc (.cells (wa a) 24)).alloc (.cells (wa 0) 24)) = W at *
  obtain ⟨c0, c1, c2, c3⟩ := word_cells f2
  go_wp2_with (first | (refine wpList_load_row rfl 24 _ rfl _ rfl 24 _ (0, 0) _ (by assumption) Try.underlying24 rfl Try.infoWa ?_) | (refine wpList_store_row rfl 24 (.tmp 4) _ rfl _ _ (wa a) rfl rfl f4 Try.infoWa rfl wa_one ?_))
  have e2 := word_cells (blk_row (c' := wa a) f4)
  exact bodyPost_ret (v := wd a) (by simp [results, Try.results24, go_sem, e2, fold_wa]) rfl ⟨rfl, below_setRow bW (by omega) _⟩

set_option maxHeartbeats 1000000 in
theorem rext_plain3 (n a : Nat) (w : World) (h1 : (((l1 n : Nat) : Int) != 0) = false) (h2 : (((l2 n : Nat) : Int) != 0) = false) (h3 : (((l3 n : Nat) : Int) != 0) = false) (h0 : (30 : Int) < ((l0 n : Nat) : Int)) :
    Calls Try.prog 24 #[wd n, wd a] w fun e w' => e = .returned (wd a) ∧ Below w.heap.size w w' := by
  have hz := z4_wa
  have hsz := wa_size
  go_enter Try.func24, Try.ntmps24
  go_upto_region 1 with fail
  have f2 : (((w.alloc (.cells (wa n) 24)).alloc (.cells (wa a) 24)).alloc (.cells (wa 0) 24)).heap[w.heap.size]? = some (.cells (wa n) 24) := blk_alloc (blk_alloc (blk_new _ rfl))
  have f3 : (((w.alloc (.cells (wa n) 24)).alloc (.cells (wa a) 24)).alloc (.cells (wa 0) 24)).heap[w.heap.size + 1]? = some (.cells (wa a) 24) := blk_alloc (blk_new _ (by simp))
  have f4 : (((w.alloc (.cells (wa n) 24)).alloc (.cells (wa a) 24)).alloc (.cells (wa 0) 24)).heap[w.heap.size + 1 + 1]? = some (.cells (wa 0) 24) := blk_new _ (by simp)
  have bW : Below w.heap.size w (((w.alloc (.cells (wa n) 24)).alloc (.cells (wa a) 24)).alloc (.cells (wa 0) 24)) := ((((Below.refl _ _).alloc (Nat.le_refl _) _).alloc (by simp <;> omega) _).alloc (by simp <;> omega) _)
  have sW : w.heap.size + 3 ≤ (((w.alloc (.cells (wa n) 24)).alloc (.cells (wa a) 24)).alloc (.cells (wa 0) 24)).heap.size := by simp
  generalize (((w.alloc (.cells (wa n) 24)).alloc (.cells (wa a) 24)).alloc (.cells (wa 0) 24)) = W at *
  obtain ⟨c0, c1, c2, c3⟩ := word_cells f2
  go_wp2_with (first | (refine wpList_load_row rfl 24 _ rfl _ rfl 24 _ (0, 0) _ (by assumption) Try.underlying24 rfl Try.infoWa ?_) | (refine wpList_store_row rfl 24 (.tmp 4) _ rfl _ _ (wa a) rfl rfl f4 Try.infoWa rfl wa_one ?_))
  have e2 := word_cells (blk_row (c' := wa a) f4)
  exact bodyPost_ret (v := wd a) (by simp [results, Try.results24, go_sem, e2, fold_wa]) rfl ⟨rfl, below_setRow bW (by omega) _⟩

set_option maxHeartbeats 2000000 in
theorem rext_walk0 (n a v t : Nat) (w : World) (hv : v ≤ 30) (hl : Hid (l0 n = v)) (h1 : (((l1 n : Nat) : Int) != 0) = false) (h2 : (((l2 n : Nat) : Int) != 0) = false) (h3 : (((l3 n : Nat) : Int) != 0) = false) (hd : Hid (((dig a v : Nat) : Int) < 128)) (hT : Hid (fillE a v 32 0 = da t)) :
    Calls Try.prog 24 #[wd n, wd a] w fun e w' => e = .returned (wd t) ∧ Below w.heap.size w w' := by
  have hz := z4_wa
  have hsz := wa_size
  have hds : (da a).size = 32 := arr_size _ _ _
  go_enter Try.func24, Try.ntmps24
  go_upto_region 1 with fail
  have f2 : (((w.alloc (.cells (wa n) 24)).alloc (.cells (wa a) 24)).alloc (.cells (wa 0) 24)).heap[w.heap.size]? = some (.cells (wa n) 24) := blk_alloc (blk_alloc (blk_new _ rfl))
  have f3 : (((w.alloc (.cells (wa n) 24)).alloc (.cells (wa a) 24)).alloc (.cells (wa 0) 24)).heap[w.heap.size + 1]? = some (.cells (wa a) 24) := blk_alloc (blk_new _ (by simp))
  have f4 : (((w.alloc (.cells (wa n) 24)).alloc (.cells (wa a) 24)).alloc (.cells (wa 0) 24)).heap[w.heap.size + 1 + 1]? = some (.cells (wa 0) 24) := blk_new _ (by simp)
  have bW : Below w.heap.size w (((w.alloc (.cells (wa n) 24)).alloc (.cells (wa a) 24)).alloc (.cells (wa 0) 24)) := ((((Below.refl _ _).alloc (Nat.le_refl _) _).alloc (by simp <;> omega) _).alloc (by simp <;> omega) _)
  have sW : w.heap.size + 3 ≤ (((w.alloc (.cells (wa n) 24)).alloc (.cells (wa a) 24)).alloc (.cells (wa 0) 24)).heap.size := by simp
  generalize (((w.alloc (.cells (wa n) 24)).alloc (.cells (wa a) 24)).alloc (.cells (wa 0) 24)) = W at *
  clear hz
  obtain ⟨c0, c1, c2, c3⟩ := word_cells f2
  rw [hl.out] at c0
  go_wp2_with (refine wpList_load_row rfl 24 _ rfl _ rfl 24 _ (0, 0) _ (by assumption) Try.underlying24 rfl Try.infoWa ?_)
  clear c0 c1 c2 c3
  refine (of_ref a _).mono ?_
  rintro e w1 ⟨rfl, b1⟩
  replace f2 := Below.stays b1 f2
  replace f3 := Below.stays b1 f3
  replace f4 := Below.stays b1 f4
  replace bW := bW.trans (b1.mono bW.size)
  replace sW := Nat.le_trans sW b1.size
  clear b1
  go_upto_region 4 with (first | (refine wpList_alloc_row rfl 31 rfl zD zD_run ?_) | (refine wpList_store_row rfl 31 (.tmp 5) _ rfl _ zD (da a) rfl rfl (heap_alloc_new _ _) (infoArr _) rfl (arr_one _ _ _) ?_))
  simp only [Act.put, List.setIfInBounds_toArray, List.set_cons_succ, List.set_cons_zero]
  rw [World.setRow_alloc_new]
  replace f2 := blk_alloc (o' := .cells (da a) 31) f2
  replace f3 := blk_alloc (o' := .cells (da a) 31) f3
  replace f4 := blk_alloc (o' := .cells (da a) 31) f4
  have f5 : (w1.alloc (.cells (da a) 31)).heap[w1.heap.size]? = some (.cells (da a) 31) := heap_alloc_new _ _
  replace bW : Below w.heap.size w (w1.alloc (.cells (da a) 31)) := bW.alloc (by omega) _
  have sb5 : w1.heap.size + 1 ≤ (w1.alloc (.cells (da a) 31)).heap.size := by simp
  generalize (w1.alloc (.cells (da a) 31)) = w2 at *
  generalize w1.heap.size = b5 at *
  have lb5 := sW
  replace sW := Nat.le_trans (Nat.le_succ_of_le sW) sb5
  have c0 := (word_cells f2).1
  rw [hl.out] at c0
  have c5 := blk_cell f5 (arr_get .i64 (fun i => ((dig a i : Nat) : Int)) (show v < 32 by omega))
  have hd5 := hd.out
  go_wp2_with fail
  clear c0 c5 hd5
  go_loopw [7] (fun i wr => ∃ k : Nat, v < k ∧ k ≤ 32 ∧ i = .int .i64 k ∧ Below w.heap.size w wr ∧ wr.heap[w.heap.size + 1 + 1]? = some (.cells (wa 0) 24) ∧ wr.heap[b5]? = some (.cells (fillE a v k 0) 31)) (fun i _ => 32 - (intOf i).toNat)
  case atStart => exact ⟨v + 1, by omega, by omega, by first | rfl | go_num, bW, f4, by rw [fillE_start]; exact f5⟩
  case round =>
    obtain ⟨k, hvk, hk, rfl, hb, hr, hd5⟩ := hrel
    clear f2 f3 f4 f5 bW
    have HR := Lib.hid hr
    have HD := Lib.hid hd5
    have HB := Lib.hid hb
    clear hr hd5 hb
    by_cases hlt : k < 32
    · have c2 := blk_cell HD.out (arr_get .i64 _ hlt)
      have c3 := blk_frozen (j := k) HD.out
      go_wp2_with fail
      refine ⟨⟨k + 1, by omega, by omega, by go_num, HB.out.setCell (by show _ ≤ b5; omega) _, blk_other HR.out (by omega) _, ?_⟩, by simp [intOf]; omega⟩
      rw [← fillE_step a v k _ hlt hvk]
      exact blk_set HD.out _
    · obtain rfl : k = 32 := by omega
      have hd := HD.out
      rw [hT.out] at hd
      clear HD
      go_wp2_with (refine wpList_load_row rfl 31 _ rfl _ rfl 31 (da t) (0, 0) _ hd Try.underlying31 rfl (infoArr _) ?_)
      refine (word_ref t _).mono ?_
      rintro e w2 ⟨rfl, b1⟩
      have hr := stay b1 HR.out
      have hb := HB.out.trans (b1.mono HB.out.size)
      clear HR HB b1
      go_wp2_with (refine wpList_store_row rfl 24 (.tmp 4) _ rfl _ _ (wa t) rfl rfl hr Try.infoWa rfl wa_one ?_)
      have e4 := word_cells (blk_row (c' := wa t) hr)
      exact bodyPost_ret (v := wd t) (by simp [results, Try.results24, go_sem, e4, fold_wa]) rfl ⟨rfl, below_setRow hb (by omega) _⟩

set_option maxHeartbeats 2000000 in
theorem rext_walk255 (n a v t : Nat) (w : World) (hv : v ≤ 30) (hl : Hid (l0 n = v)) (h1 : (((l1 n : Nat) : Int) != 0) = false) (h2 : (((l2 n : Nat) : Int) != 0) = false) (h3 : (((l3 n : Nat) : Int) != 0) = false) (hd : Hid ((128 : Int) ≤ ((dig a v : Nat) : Int))) (hT : Hid (fillE a v 32 255 = da t)) :
    Calls Try.prog 24 #[wd n, wd a] w fun e w' => e = .returned (wd t) ∧ Below w.heap.size w w' := by
  have hz := z4_wa
  have hsz := wa_size
  have hds : (da a).size = 32 := arr_size _ _ _
  go_enter Try.func24, Try.ntmps24
  go_upto_region 1 with fail
  have f2 : (((w.alloc (.cells (wa n) 24)).alloc (.cells (wa a) 24)).alloc (.cells (wa 0) 24)).heap[w.heap.size]? = some (.cells (wa n) 24) := blk_alloc (blk_alloc (blk_new _ rfl))
  have f3 : (((w.alloc (.cells (wa n) 24)).alloc (.cells (wa a) 24)).alloc (.cells (wa 0) 24)).heap[w.heap.size + 1]? = some (.cells (wa a) 24) := blk_alloc (blk_new _ (by simp))
  have f4 : (((w.alloc (.cells (wa n) 24)).alloc (.cells (wa a) 24)).alloc (.cells (wa 0) 24)).heap[w.heap.size + 1 + 1]? = some (.cells (wa 0) 24) := blk_new _ (by simp)
  have bW : Below w.heap.size w (((w.alloc (.cells (wa n) 24)).alloc (.cells (wa a) 24)).alloc (.cells (wa 0) 24)) := ((((Below.refl _ _).alloc (Nat.le_refl _) _).alloc (by simp <;> omega) _).alloc (by simp <;> omega) _)
  have sW : w.heap.size + 3 ≤ (((w.alloc (.cells (wa n) 24)).alloc (.cells (wa a) 24)).alloc (.cells (wa 0) 24)).heap.size := by simp
  generalize (((w.alloc (.cells (wa n) 24)).alloc (.cells (wa a) 24)).alloc (.cells (wa 0) 24)) = W at *
  clear hz
  obtain ⟨c0, c1, c2, c3⟩ := word_cells f2
  rw [hl.out] at c0
  go_wp2_with (refine wpList_load_row rfl 24 _ rfl _ rfl 24 _ (0, 0) _ (by assumption) Try.underlying24 rfl Try.infoWa ?_)
  clear c0 c1 c2 c3
  refine (of_ref a _).mono ?_
  rintro e w1 ⟨rfl, b1⟩
  replace f2 := Below.stays b1 f2
  replace f3 := Below.stays b1 f3
  replace f4 := Below.stays b1 f4
  replace bW := bW.trans (b1.mono bW.size)
  replace sW := Nat.le_trans sW b1.size
  clear b1
  go_upto_region 4 with (first | (refine wpList_alloc_row rfl 31 rfl zD zD_run ?_) | (refine wpList_store_row rfl 31 (.tmp 5) _ rfl _ zD (da a) rfl rfl (heap_alloc_new _ _) (infoArr _) rfl (arr_one _ _ _) ?_))
  simp only [Act.put, List.setIfInBounds_toArray, List.set_cons_succ, List.set_cons_zero]
  rw [World.setRow_alloc_new]
  replace f2 := blk_alloc (o' := .cells (da a) 31) f2
  replace f3 := blk_alloc (o' := .cells (da a) 31) f3
  replace f4 := blk_alloc (o' := .cells (da a) 31) f4
  have f5 : (w1.alloc (.cells (da a) 31)).heap[w1.heap.size]? = some (.cells (da a) 31) := heap_alloc_new _ _
  replace bW : Below w.heap.size w (w1.alloc (.cells (da a) 31)) := bW.alloc (by omega) _
  have sb5 : w1.heap.size + 1 ≤ (w1.alloc (.cells (da a) 31)).heap.size := by simp
  generalize (w1.alloc (.cells (da a) 31)) = w2 at *
  generalize w1.heap.size = b5 at *
  have lb5 := sW
  replace sW := Nat.le_trans (Nat.le_succ_of_le sW) sb5
  have c0 := (word_cells f2).1
  rw [hl.out] at c0
  have c5 := blk_cell f5 (arr_get .i64 (fun i => ((dig a i : Nat) : Int)) (show v < 32 by omega))
  have hd5 := hd.out
  go_wp2_with fail
  clear c0 c5 hd5
  go_loopw [7] (fun i wr => ∃ k : Nat, v < k ∧ k ≤ 32 ∧ i = .int .i64 k ∧ Below w.heap.size w wr ∧ wr.heap[w.heap.size + 1 + 1]? = some (.cells (wa 0) 24) ∧ wr.heap[b5]? = some (.cells (fillE a v k 255) 31)) (fun i _ => 32 - (intOf i).toNat)
  case atStart => exact ⟨v + 1, by omega, by omega, by first | rfl | go_num, bW, f4, by rw [fillE_start]; exact f5⟩
  case round =>
    obtain ⟨k, hvk, hk, rfl, hb, hr, hd5⟩ := hrel
    clear f2 f3 f4 f5 bW
    have HR := Lib.hid hr
    have HD := Lib.hid hd5
    have HB := Lib.hid hb
    clear hr hd5 hb
    by_cases hlt : k < 32
    · have c2 := blk_cell HD.out (arr_get .i64 _ hlt)
      have c3 := blk_frozen (j := k) HD.out
      go_wp2_with fail
      refine ⟨⟨k + 1, by omega, by omega, by go_num, HB.out.setCell (by show _ ≤ b5; omega) _, blk_other HR.out (by omega) _, ?_⟩, by simp [intOf]; omega⟩
      rw [← fillE_step a v k _ hlt hvk]
      exact blk_set HD.out _
    · obtain rfl : k = 32 := by omega
      have hd := HD.out
      rw [hT.out] at hd
      clear HD
      go_wp2_with (refine wpList_load_row rfl 31 _ rfl _ rfl 31 (da t) (0, 0) _ hd Try.underlying31 rfl (infoArr _) ?_)
      refine (word_ref t _).mono ?_
      rintro e w2 ⟨rfl, b1⟩
      have hr := stay b1 HR.out
      have hb := HB.out.trans (b1.mono HB.out.size)
      clear HR HB b1
      go_wp2_with (refine wpList_store_row rfl 24 (.tmp 4) _ rfl _ _ (wa t) rfl rfl hr Try.infoWa rfl wa_one ?_)
      have e4 := word_cells (blk_row (c' := wa t) hr)
      exact bodyPost_ret (v := wd t) (by simp [results, Try.results24, go_sem, e4, fold_wa]) rfl ⟨rfl, below_setRow hb (by omega) _⟩
theorem small_cases (a : Nat) : (smallB a = true ∧ l1 a = 0 ∧ l2 a = 0 ∧ l3 a = 0) ∨ (smallB a = false ∧ (l1 a ≠ 0 ∨ (l1 a = 0 ∧ l2 a ≠ 0) ∨ (l1 a = 0 ∧ l2 a = 0 ∧ l3 a ≠ 0))) := by
  obtain ⟨A0, A1, A2, A3⟩ := l_lt a
  have e0 : l0 a % M = l0 a := Nat.mod_eq_of_lt (Nat.lt_trans A0 (by decide))
  have e1 := num_parts a
  unfold smallB
  rw [e0, ← e1, decide_eq_true_iff, decide_eq_false_iff_not]
  unfold num
  generalize l0 a = x at *
  generalize l1 a = y at *
  generalize l2 a = z at *
  generalize l3 a = u at *
  simp only [B] at *
  omega
theorem rext_wd (n a : Nat) (w : World) : Calls Try.prog 24 #[wd n, wd a] w fun e w' => e = .returned (wd (exn n a)) ∧ Below w.heap.size w w' := by
  have hf : ∀ x : Nat, x ≠ 0 → ((x : Int) != 0) = true := fun x hx => by simp [hx]
  have hg : ∀ x : Nat, x = 0 → ((x : Int) != 0) = false := fun x hx => by simp [hx]
  unfold exn
  rcases small_cases n with ⟨hs, h1, h2, h3⟩ | ⟨hs, h1 | ⟨h1, h2⟩ | ⟨h1, h2, h3⟩⟩
  · by_cases hv : l0 n ≤ 30
    · rw [if_pos ⟨hs, hv⟩]
      have key : ∀ j, j < 32 → ((dig (ext (l0 n) a) j : Nat) : Int) = if j ≤ l0 n then ((dig a j : Nat) : Int) else if 128 ≤ dig a (l0 n) then 255 else 0 := fun j hj => by
        rw [ext_dig _ _ _ hv hj]
        split
        · rfl
        · split <;> rfl
      by_cases hd : 128 ≤ dig a (l0 n)
      · refine rext_walk255 n a _ _ w hv (Lib.hid rfl) (hg _ h1) (hg _ h2) (hg _ h3) (Lib.hid (by omega)) (Lib.hid (arr_congr fun j hj => ?_))
        rw [key j hj, if_pos hd]
        by_cases hh : j ≤ l0 n
        · rw [if_pos hh, if_neg (by omega)]
        · rw [if_neg hh, if_pos (by omega)]
      · refine rext_walk0 n a _ _ w hv (Lib.hid rfl) (hg _ h1) (hg _ h2) (hg _ h3) (Lib.hid (by omega)) (Lib.hid (arr_congr fun j hj => ?_))
        rw [key j hj, if_neg hd]
        by_cases hh : j ≤ l0 n
        · rw [if_pos hh, if_neg (by omega)]
        · rw [if_neg hh, if_pos (by omega)]
    · rw [if_neg (fun h => hv h.2)]
      exact rext_plain3 n a w (hg _ h1) (hg _ h2) (hg _ h3) (by omega)
  · rw [if_neg (fun h => by rw [hs] at h; exact Bool.false_ne_true h.1)]
    exact rext_plain0 n a w (hf _ h1)
  · rw [if_neg (fun h => by rw [hs] at h; exact Bool.false_ne_true h.1)]
    exact rext_plain1 n a w (hg _ h1) (hf _ h2)
  · rw [if_neg (fun h => by rw [hs] at h; exact Bool.false_ne_true h.1)]
    exact rext_plain2 n a w (hg _ h1) (hg _ h2) (hf _ h3)
theorem rsar_wd (a n k : Nat) (hk : k = min n 300) (w : World) : Calls Try.prog 26 #[wd a, .int .i64 (k : Int)] w fun e w' => e = .returned (wd (sar a n)) ∧ Below w.heap.size w w' := by
  have hI : ∀ j : Nat, j < 256 → bitI a (j : Int) = ((bitN a j : Nat) : Int) := fun j hj => by
    unfold bitI
    rw [if_neg (by omega), Int.toNat_natCast]
  refine rsar_walk a k _ w (by omega) (Lib.hid fun i hi => ⟨fun h => ?_, fun h => ?_⟩)
  · rw [sar_bits a n k i hk hi, if_pos h, ← hI _ h]
    rfl
  · rw [sar_bits a n k i hk hi, if_neg (by omega), ← hI 255 (by omega)]
    rfl
end Go.Proofs.Ytlobchkbkdjccaa
