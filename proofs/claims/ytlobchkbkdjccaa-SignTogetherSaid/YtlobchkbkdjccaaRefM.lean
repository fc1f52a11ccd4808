/- What the function Mul of the document's digits does: the digits of the product, going round. -/
import Derived.Test.YtlobchkbkdjccaaRefA
namespace Go.Proofs.Ytlobchkbkdjccaa
open Go.RowKit SmWord
set_option maxRecDepth 100000

/-- The digits while row i is under way: k of its steps are done. -/
def rowA (m n i k : Nat) : Array Value := arr .i64 32 (fun j => if j < i + k then ((dig (rowT m n i k) j : Nat) : Int) else ((dig (m % 256 ^ i * n) j : Nat) : Int))
theorem rowA_start (m n i : Nat) : rowA m n i 0 = da (m % 256 ^ i * n) := arr_congr fun j _ => by rw [rowT_zero]; simp
theorem rowA_zero (n m : Nat) : da (m % 256 ^ 0 * n) = zD := arr_congr fun j _ => by simp [dig, Nat.mod_one]
theorem rowA_step (m n i k : Nat) (hk : i + k < 32) : (rowA m n i k).setIfInBounds (i + k) (.int .i64 ((dig (rowT m n i (k + 1)) (i + k) : Nat) : Int)) = rowA m n i (k + 1) := by
  unfold rowA
  rw [arr_set _ _ _ hk]
  refine arr_congr fun j _ => ?_
  by_cases h1 : j = i + k
  · subst h1; simp [show i + k < i + (k + 1) by omega]
  · by_cases h2 : j < i + k
    · simp [h1, h2, show j < i + (k + 1) by omega, row_low m n i k h2]
    · simp [h1, h2, show ¬ j < i + (k + 1) by omega]
theorem rowA_end (m n i : Nat) (hi : i < 32) : rowA m n i (32 - i) = da (m % 256 ^ (i + 1) * n) := arr_congr fun j hj => by
  rw [if_pos (by omega), row_end m n i hi hj]
theorem rowA_last (m n : Nat) : da (m % 256 ^ 32 * n) = da (m * n) := arr_congr fun j hj => by rw [row_last m n hj]

set_option maxHeartbeats 4000000 in
theorem mul_ref (m n : Nat) (w : World) : Calls Try.prog 18 #[.agg (da m), .agg (da n)] w fun e w' => e = .returned (.agg (da (m * n))) ∧ Below w.heap.size w w' := by
  have hds : ∀ x, (da x).size = 32 := fun x => arr_size _ _ _
  go_enter Try.func18, Try.ntmps18
  go_wp2_with (first | (refine wpList_alloc_row rfl 31 rfl zD zD_run ?_) | (refine wpList_build_zero rfl 31 rfl Try.underlying31 Try.sizeOf3 zD zD_run ?_) | (refine wpList_store_row rfl 31 _ _ rfl _ zD zD rfl rfl (heap_alloc_new _ _) (infoArr _) rfl (arr_one _ _ _) ?_))
  clear hds
  have f0 : (((((w.alloc (.cells (da m) 31)).alloc (.cells (da n) 31)).alloc (.cells zD 31)).alloc (.cells zD 31)).setRow (w.heap.size + 1 + 1 + 1) zD).heap[w.heap.size]? = some (.cells (da m) 31) := blk_row_other (blk_alloc (blk_alloc (blk_alloc (by have := heap_alloc_new w (.cells (da m) 31); simpa using this)))) (by omega)
  have f1 : (((((w.alloc (.cells (da m) 31)).alloc (.cells (da n) 31)).alloc (.cells zD 31)).alloc (.cells zD 31)).setRow (w.heap.size + 1 + 1 + 1) zD).heap[w.heap.size + 1]? = some (.cells (da n) 31) := blk_row_other (blk_alloc (blk_alloc (by have := heap_alloc_new (w.alloc (.cells (da m) 31)) (.cells (da n) 31); simpa using this))) (by omega)
  have f2 : (((((w.alloc (.cells (da m) 31)).alloc (.cells (da n) 31)).alloc (.cells zD 31)).alloc (.cells zD 31)).setRow (w.heap.size + 1 + 1 + 1) zD).heap[w.heap.size + 1 + 1]? = some (.cells zD 31) := blk_row_other (blk_alloc (by have := heap_alloc_new ((w.alloc (.cells (da m) 31)).alloc (.cells (da n) 31)) (.cells zD 31); simpa using this)) (by omega)
  have f3 : (((((w.alloc (.cells (da m) 31)).alloc (.cells (da n) 31)).alloc (.cells zD 31)).alloc (.cells zD 31)).setRow (w.heap.size + 1 + 1 + 1) zD).heap[w.heap.size + 1 + 1 + 1]? = some (.cells zD 31) := blk_row (by have := heap_alloc_new (((w.alloc (.cells (da m) 31)).alloc (.cells (da n) 31)).alloc (.cells zD 31)) (.cells zD 31); simpa using this)
  have bW : Below w.heap.size w (((((w.alloc (.cells (da m) 31)).alloc (.cells (da n) 31)).alloc (.cells zD 31)).alloc (.cells zD 31)).setRow (w.heap.size + 1 + 1 + 1) zD) := below_setRow (((((Below.refl _ _).alloc (by simp; try omega) _).alloc (by simp; try omega) _).alloc (by simp; try omega) _).alloc (by simp; try omega) _) (by omega) _
  generalize (((((w.alloc (.cells (da m) 31)).alloc (.cells (da n) 31)).alloc (.cells zD 31)).alloc (.cells zD 31)).setRow (w.heap.size + 1 + 1 + 1) zD) = W at *
  go_loopw [6, 7, 8, 9] (fun i _ _ _ wr => ∃ k : Nat, k ≤ 32 ∧ i = .int .i64 k ∧ Below w.heap.size w wr ∧ wr.heap[w.heap.size]? = some (.cells (da m) 31) ∧ wr.heap[w.heap.size + 1]? = some (.cells (da n) 31) ∧ wr.heap[w.heap.size + 1 + 1]? = some (.cells zD 31) ∧
      wr.heap[w.heap.size + 1 + 1 + 1]? = some (.cells (da (m % 256 ^ k * n)) 31)) (fun i _ _ _ _ => 32 - (intOf i).toNat)
  case atStart => exact ⟨0, Nat.zero_le _, rfl, bW, f0, f1, f2, by rw [rowA_zero]; exact f3⟩
  case round =>
    obtain ⟨i, hi, rfl, hb, ha, hn, hr, hd⟩ := hrel
    clear f0 f1 f2 f3 bW
    obtain ⟨wo, rfl⟩ : ∃ wo : World, wo = wr := ⟨_, rfl⟩
    by_cases hlt : i < 32
    · rw [← rowA_start] at hd
      have HA := Lib.hid ha
      have HN := Lib.hid hn
      have HR := Lib.hid hr
      have HD := Lib.hid hd
      have HB := Lib.hid hb
      clear ha hn hr hd hb
      go_wp2_with fail
      go_loopw [7, 8, 9] (fun c k _ wr => ∃ q : Nat, i + q ≤ 32 ∧ k = .int .i64 q ∧ c = .int .i64 ((rowC m n i q : Nat) : Int) ∧ Below w.heap.size w wr ∧ wr.heap[w.heap.size]? = some (.cells (da m) 31) ∧ wr.heap[w.heap.size + 1]? = some (.cells (da n) 31) ∧ wr.heap[w.heap.size + 1 + 1]? = some (.cells zD 31) ∧
          wr.heap[w.heap.size + 1 + 1 + 1]? = some (.cells (rowA m n i q) 31)) (fun _ k _ _ => 32 - (intOf k).toNat)
      case atStart => exact ⟨0, by omega, rfl, by rw [rowC_zero]; rfl, HB.out, HA.out, HN.out, HR.out, HD.out⟩
      case round =>
        obtain ⟨q, hq, rfl, rfl, hb, ha, hn, hr, hd⟩ := hrel
        clear HA HN HR HD HB
        by_cases hq2 : i + q < 32
        · have c1 := blk_cell ha (arr_get .i64 _ hlt)
          have c2 := blk_cell hn (arr_get .i64 _ (show q < 32 by omega))
          have c3 : wr.cell? ⟨w.heap.size + 1 + 1 + 1, i + q, none⟩ = some (.int .i64 ((dig (m % 256 ^ i * n) (i + q) : Nat) : Int)) := blk_cell hd (by unfold rowA; rw [arr_get .i64 _ hq2, if_neg (by omega)])
          have c4 := blk_frozen (j := i + q) hd
          have d1 := dig_lt m i
          have d2 := dig_lt n q
          have d3 := rowC_le m n i q
          have d4 := dig_lt (m % 256 ^ i * n) (i + q)
          have d5 : dig m i * dig n q ≤ 65025 := by
            have := Nat.mul_le_mul (show dig m i ≤ 255 by omega) (show dig n q ≤ 255 by omega)
            omega
          have d6 : ((dig m i : Nat) : Int) * ((dig n q : Nat) : Int) ≤ 65025 := by rw [← Int.natCast_mul]; omega
          have d7 : 0 ≤ ((dig m i : Nat) : Int) * ((dig n q : Nat) : Int) := by rw [← Int.natCast_mul]; omega
          clear d5
          obtain ⟨s1, s2⟩ := row_step m n i q
          have S1 := Lib.hid s1
          have S2 := Lib.hid s2
          have HA := Lib.hid ha
          have HN := Lib.hid hn
          have HR := Lib.hid hr
          have HD := Lib.hid hd
          have HB := Lib.hid hb
          clear ha hn hr hd hb s1 s2
          go_wp2_with fail
          go_region
          go_wp2_with fail
          have v1 : (((dig (m % 256 ^ i * n) (i + q) : Nat) : Int) + ((dig m i : Nat) : Int) * ((dig n q : Nat) : Int) + ((rowC m n i q : Nat) : Int)) % 256 = ((dig (rowT m n i (q + 1)) (i + q) : Nat) : Int) := by rw [← S1.out]; rfl
          have v2 : (((dig (m % 256 ^ i * n) (i + q) : Nat) : Int) + ((dig m i : Nat) : Int) * ((dig n q : Nat) : Int) + ((rowC m n i q : Nat) : Int)) / 256 = ((rowC m n i (q + 1) : Nat) : Int) := by rw [← S2.out]; rfl
          rw [v1, v2]
          refine ⟨⟨q + 1, by omega, by go_num, rfl, (HB.out.setCell (by simp; omega) _).drew, blk_other HA.out (by omega) _, blk_other HN.out (by omega) _, blk_other HR.out (by omega) _, ?_⟩, by simp [intOf]; omega⟩
          rw [← rowA_step m n i q hq2]
          exact blk_set HD.out _
        · obtain rfl : q = 32 - i := by omega
          rw [rowA_end m n i hlt] at hd
          have HA := Lib.hid ha
          have HN := Lib.hid hn
          have HR := Lib.hid hr
          have HD := Lib.hid hd
          have HB := Lib.hid hb
          clear ha hn hr hd hb
          have hge : ¬ (i : Int) + ((32 - i : Nat) : Int) < 32 := by omega
          go_wp2_with fail
          exact ⟨⟨i + 1, by omega, by go_num, HB.out, HA.out, HN.out, HR.out, HD.out⟩, by simp [intOf]; omega⟩
    · obtain rfl : i = 32 := by omega
      rw [rowA_last] at hd
      have HB := Lib.hid hb
      clear hb ha hn
      go_wp2_with (first | (refine wpList_load_row rfl 31 _ rfl _ rfl 31 (da (m * n)) (0, 0) _ hd Try.underlying31 rfl (infoArr _) ?_) | (refine wpList_store_row rfl 31 _ _ rfl _ zD (da (m * n)) rfl rfl hr (infoArr _) rfl (arr_one _ _ _) ?_))
      refine bodyPost_ret (v := .agg (da (m * n))) (results_cell_row rfl _ _ _ 31 (da (m * n)) (0, 0) _ rfl (blk_row hr) Try.underlying31 rfl (infoArr _)) rfl ⟨rfl, below_setRow HB.out (by omega) _⟩
end Go.Proofs.Ytlobchkbkdjccaa
