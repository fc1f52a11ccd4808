/- What the function Logic of the document's digits does: the digits of the number whose bits both have, one has, or just one has. -/
import Derived.Test.YtfgfggnbdnbgfaaShiftR
namespace Go.Proofs.Ytfgfggnbdnbgfaa
open Go.RowKit SmWord
set_option maxRecDepth 100000
theorem fillB_none (f : Nat → Int) (k : Nat) (hv : f k = 0) : arr .i64 256 (fun j => if j < k then f j else 0) = arr .i64 256 (fun j => if j < k + 1 then f j else 0) :=
  arr_congr fun i _ => by
    by_cases h1 : i = k
    · subst h1; simp [hv]
    · by_cases h2 : i < k
      · simp [h2, show i < k + 1 by omega]
      · simp [h2, show ¬ i < k + 1 by omega]

set_option maxHeartbeats 4000000 in
theorem logic_ref0 (m n t : Nat) (w : World) (ht : Hid (∀ i : Nat, i < 256 → bitN t i = if bitN m i + bitN n i = 2 then 1 else 0)) :
    Calls Try.prog 21 #[.agg (da m), .agg (da n), .int .i64 0] w fun e w' => e = .returned (.agg (da t)) ∧ Below w.heap.size w w' := by
  have hds : ∀ x, (da x).size = 32 := fun x => arr_size _ _ _
  go_enter Try.func21, Try.ntmps21
  go_wp2_with (first | (refine wpList_alloc_row rfl 26 rfl zD zD_run ?_) | (refine wpList_alloc_row rfl 61 rfl zB zB_run ?_) | (refine wpList_build_zero rfl 61 rfl Try.underlying61 Try.sizeOf3 zB zB_run ?_) | (refine wpList_store_row rfl 61 _ _ rfl _ zB zB rfl rfl (heap_alloc_new _ _) (infoArrB _) rfl (arr_one _ _ _) ?_))
  clear hds
  have f0 : (((((w.alloc (.cells (da m) 26)).alloc (.cells (da n) 26)).alloc (.cells zD 26)).alloc (.cells zB 61)).setRow (w.heap.size + 1 + 1 + 1) zB).heap[w.heap.size]? = some (.cells (da m) 26) := blk_row_other (blk_alloc (blk_alloc (blk_alloc (by have := heap_alloc_new w (.cells (da m) 26); simpa using this)))) (by omega)
  have f1 : (((((w.alloc (.cells (da m) 26)).alloc (.cells (da n) 26)).alloc (.cells zD 26)).alloc (.cells zB 61)).setRow (w.heap.size + 1 + 1 + 1) zB).heap[w.heap.size + 1]? = some (.cells (da n) 26) := blk_row_other (blk_alloc (blk_alloc (by have := heap_alloc_new (w.alloc (.cells (da m) 26)) (.cells (da n) 26); simpa using this))) (by omega)
  have f2 : (((((w.alloc (.cells (da m) 26)).alloc (.cells (da n) 26)).alloc (.cells zD 26)).alloc (.cells zB 61)).setRow (w.heap.size + 1 + 1 + 1) zB).heap[w.heap.size + 1 + 1]? = some (.cells zD 26) := blk_row_other (blk_alloc (by have := heap_alloc_new ((w.alloc (.cells (da m) 26)).alloc (.cells (da n) 26)) (.cells zD 26); simpa using this)) (by omega)
  have f3 : (((((w.alloc (.cells (da m) 26)).alloc (.cells (da n) 26)).alloc (.cells zD 26)).alloc (.cells zB 61)).setRow (w.heap.size + 1 + 1 + 1) zB).heap[w.heap.size + 1 + 1 + 1]? = some (.cells zB 61) := blk_row (by have := heap_alloc_new (((w.alloc (.cells (da m) 26)).alloc (.cells (da n) 26)).alloc (.cells zD 26)) (.cells zB 61); simpa using this)
  have bW : Below w.heap.size w (((((w.alloc (.cells (da m) 26)).alloc (.cells (da n) 26)).alloc (.cells zD 26)).alloc (.cells zB 61)).setRow (w.heap.size + 1 + 1 + 1) zB) := below_setRow (((((Below.refl _ _).alloc (by simp; try omega) _).alloc (by simp; try omega) _).alloc (by simp; try omega) _).alloc (by simp; try omega) _) (by omega) _
  generalize (((((w.alloc (.cells (da m) 26)).alloc (.cells (da n) 26)).alloc (.cells zD 26)).alloc (.cells zB 61)).setRow (w.heap.size + 1 + 1 + 1) zB) = W at *
  go_loopw [8, 9] (fun i _ wr => ∃ k : Nat, k ≤ 256 ∧ i = .int .i64 k ∧ Below w.heap.size w wr ∧ wr.heap[w.heap.size]? = some (.cells (da m) 26) ∧ wr.heap[w.heap.size + 1]? = some (.cells (da n) 26) ∧ wr.heap[w.heap.size + 1 + 1]? = some (.cells zD 26) ∧
      wr.heap[w.heap.size + 1 + 1 + 1]? = some (.cells (arr .i64 256 (fun j => if j < k then ((bitN t j : Nat) : Int) else 0)) 61)) (fun i _ _ => 256 - (intOf i).toNat)
  case atStart => exact ⟨0, Nat.zero_le _, rfl, bW, f0, f1, f2, by rw [fillB_start]; exact f3⟩
  case round =>
    obtain ⟨k, hk, rfl, hb, ha, hn, hr, hd⟩ := hrel
    clear f0 f1 f2 f3 bW
    by_cases hlt : k < 256
    · have HT := Lib.hid (ht.out k hlt)
      have b1 := bitN_lt m k
      have b2 := bitN_lt n k
      have HA := Lib.hid ha
      have HN := Lib.hid hn
      have HR := Lib.hid hr
      have HD := Lib.hid hd
      have HB := Lib.hid hb
      clear ha hn hr hd hb
      have h0 : bitN m k = 0 ∨ bitN m k = 1 := by omega
      have h1 : bitN n k = 0 ∨ bitN n k = 1 := by omega
      have K1 := fun w => bit_mid m k w hlt
      have K2 := fun w => bit_mid n k w hlt
      rcases h0 with h0 | h0 <;> rcases h1 with h1 | h1
      all_goals
        rw [h0] at K1 HT
        rw [h1] at K2 HT
        have K1 := Lib.hid K1
        have K2 := Lib.hid K2
        clear h0 h1 b1 b2
        simp at HT
        go_wp2_with fail
        refine region_ext (by kernel_rfl) (by kernel_rfl) ?_
        repeat (first | (go_big_quiet_want; refine quiet_load_row 26 _ rfl (w.heap.size) (da m) rfl (fun w2 hw2 => by obtain ⟨g, rfl⟩ := hw2; exact g.block HA.out) Try.underlying26 (infoArr _) ?_; simp only [Act.put, List.setIfInBounds_toArray, List.set_cons_succ, List.set_cons_zero]; go_big_quiet_on) | (go_big_quiet_want; refine quiet_load_row 26 _ rfl (w.heap.size + 1) (da n) rfl (fun w2 hw2 => by obtain ⟨g, rfl⟩ := hw2; exact g.block HN.out) Try.underlying26 (infoArr _) ?_; simp only [Act.put, List.setIfInBounds_toArray, List.set_cons_succ, List.set_cons_zero]; go_big_quiet_on) | go_big_quiet_step (first | (go_at_call 37; first | with_reducible exact calls_ext (K1.out _) | with_reducible exact calls_ext (K2.out _))))
        refine wpQuiet_nil ?_
        rintro _ ⟨g, rfl⟩
        have ha := g.block HA.out
        have hn := g.block HN.out
        have hr := g.block HR.out
        have hd := g.block HD.out
        have hb := HB.out.trans (g.below.mono HB.out.size)
        generalize g.on = W2 at *
        have c2 := blk_cell hd (arr_get .i64 _ hlt)
        have c3 := blk_frozen (j := k) hd
        clear HA HN HR HD HB
        have HA := Lib.hid ha
        have HN := Lib.hid hn
        have HR := Lib.hid hr
        have HD := Lib.hid hd
        have HB := Lib.hid hb
        clear ha hn hr hd hb
        go_wp2_with fail
        first
          | (refine ⟨⟨k + 1, by omega, by go_num, HB.out.setCell (by simp; omega) _, blk_other HA.out (by omega) _, blk_other HN.out (by omega) _, blk_other HR.out (by omega) _, ?_⟩, by simp [intOf]; omega⟩; rw [← fillB_step (fun j => ((bitN t j : Nat) : Int)) k hlt 1 (by rw [HT.out]; rfl)]; exact blk_set HD.out _)
          | (refine ⟨⟨k + 1, by omega, by go_num, HB.out, HA.out, HN.out, HR.out, ?_⟩, by simp [intOf]; omega⟩; rw [← fillB_none (fun j => ((bitN t j : Nat) : Int)) k (by rw [HT.out]; rfl)]; exact HD.out)
    · obtain rfl : k = 256 := by omega
      rw [fillB_end] at hd
      have HB := Lib.hid hb
      clear hb ha hn
      go_wp2_with (refine wpList_load_row rfl 61 _ rfl _ rfl 61 (ba t) (0, 0) _ hd Try.underlying61 rfl (infoArrB _) ?_)
      refine (bits_ref t _).mono ?_
      rintro e w1 ⟨rfl, b1⟩
      have hr1 := stay b1 hr
      go_wp2_with (refine wpList_store_row rfl 26 _ _ rfl _ zD (da t) rfl rfl hr1 (infoArr _) rfl (arr_one _ _ _) ?_)
      exact bodyPost_ret (v := .agg (da t)) (results_cell_row rfl _ _ _ 26 (da t) (0, 0) _ rfl (blk_row hr1) Try.underlying26 rfl (infoArr _)) rfl ⟨rfl, below_setRow (HB.out.trans (b1.mono HB.out.size)) (by omega) _⟩

set_option maxHeartbeats 4000000 in
theorem logic_ref1 (m n t : Nat) (w : World) (ht : Hid (∀ i : Nat, i < 256 → bitN t i = if 0 < bitN m i + bitN n i then 1 else 0)) :
    Calls Try.prog 21 #[.agg (da m), .agg (da n), .int .i64 1] w fun e w' => e = .returned (.agg (da t)) ∧ Below w.heap.size w w' := by
  have hds : ∀ x, (da x).size = 32 := fun x => arr_size _ _ _
  go_enter Try.func21, Try.ntmps21
  go_wp2_with (first | (refine wpList_alloc_row rfl 26 rfl zD zD_run ?_) | (refine wpList_alloc_row rfl 61 rfl zB zB_run ?_) | (refine wpList_build_zero rfl 61 rfl Try.underlying61 Try.sizeOf3 zB zB_run ?_) | (refine wpList_store_row rfl 61 _ _ rfl _ zB zB rfl rfl (heap_alloc_new _ _) (infoArrB _) rfl (arr_one _ _ _) ?_))
  clear hds
  have f0 : (((((w.alloc (.cells (da m) 26)).alloc (.cells (da n) 26)).alloc (.cells zD 26)).alloc (.cells zB 61)).setRow (w.heap.size + 1 + 1 + 1) zB).heap[w.heap.size]? = some (.cells (da m) 26) := blk_row_other (blk_alloc (blk_alloc (blk_alloc (by have := heap_alloc_new w (.cells (da m) 26); simpa using this)))) (by omega)
  have f1 : (((((w.alloc (.cells (da m) 26)).alloc (.cells (da n) 26)).alloc (.cells zD 26)).alloc (.cells zB 61)).setRow (w.heap.size + 1 + 1 + 1) zB).heap[w.heap.size + 1]? = some (.cells (da n) 26) := blk_row_other (blk_alloc (blk_alloc (by have := heap_alloc_new (w.alloc (.cells (da m) 26)) (.cells (da n) 26); simpa using this))) (by omega)
  have f2 : (((((w.alloc (.cells (da m) 26)).alloc (.cells (da n) 26)).alloc (.cells zD 26)).alloc (.cells zB 61)).setRow (w.heap.size + 1 + 1 + 1) zB).heap[w.heap.size + 1 + 1]? = some (.cells zD 26) := blk_row_other (blk_alloc (by have := heap_alloc_new ((w.alloc (.cells (da m) 26)).alloc (.cells (da n) 26)) (.cells zD 26); simpa using this)) (by omega)
  have f3 : (((((w.alloc (.cells (da m) 26)).alloc (.cells (da n) 26)).alloc (.cells zD 26)).alloc (.cells zB 61)).setRow (w.heap.size + 1 + 1 + 1) zB).heap[w.heap.size + 1 + 1 + 1]? = some (.cells zB 61) := blk_row (by have := heap_alloc_new (((w.alloc (.cells (da m) 26)).alloc (.cells (da n) 26)).alloc (.cells zD 26)) (.cells zB 61); simpa using this)
  have bW : Below w.heap.size w (((((w.alloc (.cells (da m) 26)).alloc (.cells (da n) 26)).alloc (.cells zD 26)).alloc (.cells zB 61)).setRow (w.heap.size + 1 + 1 + 1) zB) := below_setRow (((((Below.refl _ _).alloc (by simp; try omega) _).alloc (by simp; try omega) _).alloc (by simp; try omega) _).alloc (by simp; try omega) _) (by omega) _
  generalize (((((w.alloc (.cells (da m) 26)).alloc (.cells (da n) 26)).alloc (.cells zD 26)).alloc (.cells zB 61)).setRow (w.heap.size + 1 + 1 + 1) zB) = W at *
  go_loopw [8, 9] (fun i _ wr => ∃ k : Nat, k ≤ 256 ∧ i = .int .i64 k ∧ Below w.heap.size w wr ∧ wr.heap[w.heap.size]? = some (.cells (da m) 26) ∧ wr.heap[w.heap.size + 1]? = some (.cells (da n) 26) ∧ wr.heap[w.heap.size + 1 + 1]? = some (.cells zD 26) ∧
      wr.heap[w.heap.size + 1 + 1 + 1]? = some (.cells (arr .i64 256 (fun j => if j < k then ((bitN t j : Nat) : Int) else 0)) 61)) (fun i _ _ => 256 - (intOf i).toNat)
  case atStart => exact ⟨0, Nat.zero_le _, rfl, bW, f0, f1, f2, by rw [fillB_start]; exact f3⟩
  case round =>
    obtain ⟨k, hk, rfl, hb, ha, hn, hr, hd⟩ := hrel
    clear f0 f1 f2 f3 bW
    by_cases hlt : k < 256
    · have HT := Lib.hid (ht.out k hlt)
      have b1 := bitN_lt m k
      have b2 := bitN_lt n k
      have HA := Lib.hid ha
      have HN := Lib.hid hn
      have HR := Lib.hid hr
      have HD := Lib.hid hd
      have HB := Lib.hid hb
      clear ha hn hr hd hb
      have h0 : bitN m k = 0 ∨ bitN m k = 1 := by omega
      have h1 : bitN n k = 0 ∨ bitN n k = 1 := by omega
      have K1 := fun w => bit_mid m k w hlt
      have K2 := fun w => bit_mid n k w hlt
      rcases h0 with h0 | h0 <;> rcases h1 with h1 | h1
      all_goals
        rw [h0] at K1 HT
        rw [h1] at K2 HT
        have K1 := Lib.hid K1
        have K2 := Lib.hid K2
        clear h0 h1 b1 b2
        simp at HT
        go_wp2_with fail
        refine region_ext (by kernel_rfl) (by kernel_rfl) ?_
        repeat (first | (go_big_quiet_want; refine quiet_load_row 26 _ rfl (w.heap.size) (da m) rfl (fun w2 hw2 => by obtain ⟨g, rfl⟩ := hw2; exact g.block HA.out) Try.underlying26 (infoArr _) ?_; simp only [Act.put, List.setIfInBounds_toArray, List.set_cons_succ, List.set_cons_zero]; go_big_quiet_on) | (go_big_quiet_want; refine quiet_load_row 26 _ rfl (w.heap.size + 1) (da n) rfl (fun w2 hw2 => by obtain ⟨g, rfl⟩ := hw2; exact g.block HN.out) Try.underlying26 (infoArr _) ?_; simp only [Act.put, List.setIfInBounds_toArray, List.set_cons_succ, List.set_cons_zero]; go_big_quiet_on) | go_big_quiet_step (first | (go_at_call 37; first | with_reducible exact calls_ext (K1.out _) | with_reducible exact calls_ext (K2.out _))))
        refine wpQuiet_nil ?_
        rintro _ ⟨g, rfl⟩
        have ha := g.block HA.out
        have hn := g.block HN.out
        have hr := g.block HR.out
        have hd := g.block HD.out
        have hb := HB.out.trans (g.below.mono HB.out.size)
        generalize g.on = W2 at *
        have c2 := blk_cell hd (arr_get .i64 _ hlt)
        have c3 := blk_frozen (j := k) hd
        clear HA HN HR HD HB
        have HA := Lib.hid ha
        have HN := Lib.hid hn
        have HR := Lib.hid hr
        have HD := Lib.hid hd
        have HB := Lib.hid hb
        clear ha hn hr hd hb
        go_wp2_with fail
        first
          | (refine ⟨⟨k + 1, by omega, by go_num, HB.out.setCell (by simp; omega) _, blk_other HA.out (by omega) _, blk_other HN.out (by omega) _, blk_other HR.out (by omega) _, ?_⟩, by simp [intOf]; omega⟩; rw [← fillB_step (fun j => ((bitN t j : Nat) : Int)) k hlt 1 (by rw [HT.out]; rfl)]; exact blk_set HD.out _)
          | (refine ⟨⟨k + 1, by omega, by go_num, HB.out, HA.out, HN.out, HR.out, ?_⟩, by simp [intOf]; omega⟩; rw [← fillB_none (fun j => ((bitN t j : Nat) : Int)) k (by rw [HT.out]; rfl)]; exact HD.out)
    · obtain rfl : k = 256 := by omega
      rw [fillB_end] at hd
      have HB := Lib.hid hb
      clear hb ha hn
      go_wp2_with (refine wpList_load_row rfl 61 _ rfl _ rfl 61 (ba t) (0, 0) _ hd Try.underlying61 rfl (infoArrB _) ?_)
      refine (bits_ref t _).mono ?_
      rintro e w1 ⟨rfl, b1⟩
      have hr1 := stay b1 hr
      go_wp2_with (refine wpList_store_row rfl 26 _ _ rfl _ zD (da t) rfl rfl hr1 (infoArr _) rfl (arr_one _ _ _) ?_)
      exact bodyPost_ret (v := .agg (da t)) (results_cell_row rfl _ _ _ 26 (da t) (0, 0) _ rfl (blk_row hr1) Try.underlying26 rfl (infoArr _)) rfl ⟨rfl, below_setRow (HB.out.trans (b1.mono HB.out.size)) (by omega) _⟩

set_option maxHeartbeats 4000000 in
theorem logic_ref2 (m n t : Nat) (w : World) (ht : Hid (∀ i : Nat, i < 256 → bitN t i = if bitN m i + bitN n i = 1 then 1 else 0)) :
    Calls Try.prog 21 #[.agg (da m), .agg (da n), .int .i64 2] w fun e w' => e = .returned (.agg (da t)) ∧ Below w.heap.size w w' := by
  have hds : ∀ x, (da x).size = 32 := fun x => arr_size _ _ _
  go_enter Try.func21, Try.ntmps21
  go_wp2_with (first | (refine wpList_alloc_row rfl 26 rfl zD zD_run ?_) | (refine wpList_alloc_row rfl 61 rfl zB zB_run ?_) | (refine wpList_build_zero rfl 61 rfl Try.underlying61 Try.sizeOf3 zB zB_run ?_) | (refine wpList_store_row rfl 61 _ _ rfl _ zB zB rfl rfl (heap_alloc_new _ _) (infoArrB _) rfl (arr_one _ _ _) ?_))
  clear hds
  have f0 : (((((w.alloc (.cells (da m) 26)).alloc (.cells (da n) 26)).alloc (.cells zD 26)).alloc (.cells zB 61)).setRow (w.heap.size + 1 + 1 + 1) zB).heap[w.heap.size]? = some (.cells (da m) 26) := blk_row_other (blk_alloc (blk_alloc (blk_alloc (by have := heap_alloc_new w (.cells (da m) 26); simpa using this)))) (by omega)
  have f1 : (((((w.alloc (.cells (da m) 26)).alloc (.cells (da n) 26)).alloc (.cells zD 26)).alloc (.cells zB 61)).setRow (w.heap.size + 1 + 1 + 1) zB).heap[w.heap.size + 1]? = some (.cells (da n) 26) := blk_row_other (blk_alloc (blk_alloc (by have := heap_alloc_new (w.alloc (.cells (da m) 26)) (.cells (da n) 26); simpa using this))) (by omega)
  have f2 : (((((w.alloc (.cells (da m) 26)).alloc (.cells (da n) 26)).alloc (.cells zD 26)).alloc (.cells zB 61)).setRow (w.heap.size + 1 + 1 + 1) zB).heap[w.heap.size + 1 + 1]? = some (.cells zD 26) := blk_row_other (blk_alloc (by have := heap_alloc_new ((w.alloc (.cells (da m) 26)).alloc (.cells (da n) 26)) (.cells zD 26); simpa using this)) (by omega)
  have f3 : (((((w.alloc (.cells (da m) 26)).alloc (.cells (da n) 26)).alloc (.cells zD 26)).alloc (.cells zB 61)).setRow (w.heap.size + 1 + 1 + 1) zB).heap[w.heap.size + 1 + 1 + 1]? = some (.cells zB 61) := blk_row (by have := heap_alloc_new (((w.alloc (.cells (da m) 26)).alloc (.cells (da n) 26)).alloc (.cells zD 26)) (.cells zB 61); simpa using this)
  have bW : Below w.heap.size w (((((w.alloc (.cells (da m) 26)).alloc (.cells (da n) 26)).alloc (.cells zD 26)).alloc (.cells zB 61)).setRow (w.heap.size + 1 + 1 + 1) zB) := below_setRow (((((Below.refl _ _).alloc (by simp; try omega) _).alloc (by simp; try omega) _).alloc (by simp; try omega) _).alloc (by simp; try omega) _) (by omega) _
  generalize (((((w.alloc (.cells (da m) 26)).alloc (.cells (da n) 26)).alloc (.cells zD 26)).alloc (.cells zB 61)).setRow (w.heap.size + 1 + 1 + 1) zB) = W at *
  go_loopw [8, 9] (fun i _ wr => ∃ k : Nat, k ≤ 256 ∧ i = .int .i64 k ∧ Below w.heap.size w wr ∧ wr.heap[w.heap.size]? = some (.cells (da m) 26) ∧ wr.heap[w.heap.size + 1]? = some (.cells (da n) 26) ∧ wr.heap[w.heap.size + 1 + 1]? = some (.cells zD 26) ∧
      wr.heap[w.heap.size + 1 + 1 + 1]? = some (.cells (arr .i64 256 (fun j => if j < k then ((bitN t j : Nat) : Int) else 0)) 61)) (fun i _ _ => 256 - (intOf i).toNat)
  case atStart => exact ⟨0, Nat.zero_le _, rfl, bW, f0, f1, f2, by rw [fillB_start]; exact f3⟩
  case round =>
    obtain ⟨k, hk, rfl, hb, ha, hn, hr, hd⟩ := hrel
    clear f0 f1 f2 f3 bW
    by_cases hlt : k < 256
    · have HT := Lib.hid (ht.out k hlt)
      have b1 := bitN_lt m k
      have b2 := bitN_lt n k
      have HA := Lib.hid ha
      have HN := Lib.hid hn
      have HR := Lib.hid hr
      have HD := Lib.hid hd
      have HB := Lib.hid hb
      clear ha hn hr hd hb
      have h0 : bitN m k = 0 ∨ bitN m k = 1 := by omega
      have h1 : bitN n k = 0 ∨ bitN n k = 1 := by omega
      have K1 := fun w => bit_mid m k w hlt
      have K2 := fun w => bit_mid n k w hlt
      rcases h0 with h0 | h0 <;> rcases h1 with h1 | h1
      all_goals
        rw [h0] at K1 HT
        rw [h1] at K2 HT
        have K1 := Lib.hid K1
        have K2 := Lib.hid K2
        clear h0 h1 b1 b2
        simp at HT
        go_wp2_with fail
        refine region_ext (by kernel_rfl) (by kernel_rfl) ?_
        repeat (first | (go_big_quiet_want; refine quiet_load_row 26 _ rfl (w.heap.size) (da m) rfl (fun w2 hw2 => by obtain ⟨g, rfl⟩ := hw2; exact g.block HA.out) Try.underlying26 (infoArr _) ?_; simp only [Act.put, List.setIfInBounds_toArray, List.set_cons_succ, List.set_cons_zero]; go_big_quiet_on) | (go_big_quiet_want; refine quiet_load_row 26 _ rfl (w.heap.size + 1) (da n) rfl (fun w2 hw2 => by obtain ⟨g, rfl⟩ := hw2; exact g.block HN.out) Try.underlying26 (infoArr _) ?_; simp only [Act.put, List.setIfInBounds_toArray, List.set_cons_succ, List.set_cons_zero]; go_big_quiet_on) | go_big_quiet_step (first | (go_at_call 37; first | with_reducible exact calls_ext (K1.out _) | with_reducible exact calls_ext (K2.out _))))
        refine wpQuiet_nil ?_
        rintro _ ⟨g, rfl⟩
        have ha := g.block HA.out
        have hn := g.block HN.out
        have hr := g.block HR.out
        have hd := g.block HD.out
        have hb := HB.out.trans (g.below.mono HB.out.size)
        generalize g.on = W2 at *
        have c2 := blk_cell hd (arr_get .i64 _ hlt)
        have c3 := blk_frozen (j := k) hd
        clear HA HN HR HD HB
        have HA := Lib.hid ha
        have HN := Lib.hid hn
        have HR := Lib.hid hr
        have HD := Lib.hid hd
        have HB := Lib.hid hb
        clear ha hn hr hd hb
        go_wp2_with fail
        first
          | (refine ⟨⟨k + 1, by omega, by go_num, HB.out.setCell (by simp; omega) _, blk_other HA.out (by omega) _, blk_other HN.out (by omega) _, blk_other HR.out (by omega) _, ?_⟩, by simp [intOf]; omega⟩; rw [← fillB_step (fun j => ((bitN t j : Nat) : Int)) k hlt 1 (by rw [HT.out]; rfl)]; exact blk_set HD.out _)
          | (refine ⟨⟨k + 1, by omega, by go_num, HB.out, HA.out, HN.out, HR.out, ?_⟩, by simp [intOf]; omega⟩; rw [← fillB_none (fun j => ((bitN t j : Nat) : Int)) k (by rw [HT.out]; rfl)]; exact HD.out)
    · obtain rfl : k = 256 := by omega
      rw [fillB_end] at hd
      have HB := Lib.hid hb
      clear hb ha hn
      go_wp2_with (refine wpList_load_row rfl 61 _ rfl _ rfl 61 (ba t) (0, 0) _ hd Try.underlying61 rfl (infoArrB _) ?_)
      refine (bits_ref t _).mono ?_
      rintro e w1 ⟨rfl, b1⟩
      have hr1 := stay b1 hr
      go_wp2_with (refine wpList_store_row rfl 26 _ _ rfl _ zD (da t) rfl rfl hr1 (infoArr _) rfl (arr_one _ _ _) ?_)
      exact bodyPost_ret (v := .agg (da t)) (results_cell_row rfl _ _ _ 26 (da t) (0, 0) _ rfl (blk_row hr1) Try.underlying26 rfl (infoArr _)) rfl ⟨rfl, below_setRow (HB.out.trans (b1.mono HB.out.size)) (by omega) _⟩
end Go.Proofs.Ytfgfggnbdnbgfaa
