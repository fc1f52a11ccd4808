/- What the method Word of the document's digits does: the word of digits. -/
import Derived.Test.YtgejfdbbapjpmaaDoorRefA
namespace Go.Proofs.YtgejfdbbapjpmaaDoor
open Go.RowKit SmWord
set_option maxRecDepth 100000
theorem acc_start (m : Nat) : arr .u64 4 (fun q => ((acc m 32 q : Nat) : Int)) = #[Value.int .u64 0, .int .u64 0, .int .u64 0, .int .u64 0] := by
  have : arr .u64 4 (fun _ => 0) = #[Value.int .u64 0, .int .u64 0, .int .u64 0, .int .u64 0] := rfl
  rw [← this]
  exact arr_congr fun q hq => by rw [acc_end m q hq]; rfl
theorem acc_last (m : Nat) : arr .u64 4 (fun q => ((acc m 0 q : Nat) : Int)) = wa m := by
  apply Array.ext_getElem?
  intro i
  by_cases hi : i < 4
  · rw [arr_get _ _ hi, wa_lb m i hi, acc_zero]
  · rw [Array.getElem?_eq_none (by simp [arr_size]; omega), Array.getElem?_eq_none (by rw [wa_size]; omega)]
theorem acc_val (m j : Nat) : IntKind.u64.wrap (IntKind.u64.wrap (((acc m (j + 1) (j / 8) : Nat) : Int) * 256) + IntKind.u64.wrap ((dig m j : Nat) : Int)) = ((acc m j (j / 8) : Nat) : Int) := by
  obtain ⟨h1, h2⟩ := acc_step m j
  have h3 := dig_lt m j
  rw [IntKind.wrap_u64, IntKind.wrap_u64, IntKind.wrap_u64]
  generalize acc m (j + 1) (j / 8) = x at *
  generalize acc m j (j / 8) = y at *
  generalize dig m j = d at *
  simp only [B] at h2
  omega
theorem acc_put (m j : Nat) (hj : j / 8 < 4) : (arr .u64 4 (fun q => ((acc m (j + 1) q : Nat) : Int))).setIfInBounds (j / 8) (.int .u64 ((acc m j (j / 8) : Nat) : Int)) = arr .u64 4 (fun q => ((acc m j q : Nat) : Int)) := by
  rw [arr_set _ _ _ hj]
  refine arr_congr fun q _ => ?_
  by_cases h : q = j / 8
  · subst h; simp
  · rw [if_neg h, acc_other m j q (fun e => h e.symm)]
theorem Tryd.infoWa {n : Nat} : (Tryd.prog.info? 32).map (·.size) = some (wa n).size := by rw [wa_size]; kernel_rfl
theorem wa_one {n : Nat} : (wa n).all (·.oneCell') = true := by simp [wa, Value.oneCell']
set_option maxHeartbeats 2000000 in
theorem word_ref (m : Nat) (w : World) : Calls Tryd.prog 20 #[.agg (da m)] w fun e w' => e = .returned (wd m) ∧ Below w.heap.size w w' := by
  have hds : (da m).size = 32 := arr_size _ _ _
  go_enter Tryd.func20, Tryd.ntmps20
  go_wp2_with fail
  clear hds
  have f0 : (((w.alloc (.cells (da m) 45)).alloc (.cells #[Value.int .u64 0, .int .u64 0, .int .u64 0, .int .u64 0] 32)).alloc (.cells #[Value.int .u64 0, .int .u64 0, .int .u64 0, .int .u64 0] 32)).heap[w.heap.size]? = some (.cells (da m) 45) := blk_alloc (blk_alloc (heap_alloc_new _ _))
  have f1 : (((w.alloc (.cells (da m) 45)).alloc (.cells #[Value.int .u64 0, .int .u64 0, .int .u64 0, .int .u64 0] 32)).alloc (.cells #[Value.int .u64 0, .int .u64 0, .int .u64 0, .int .u64 0] 32)).heap[w.heap.size + 1]? = some (.cells #[Value.int .u64 0, .int .u64 0, .int .u64 0, .int .u64 0] 32) := blk_alloc (heap_alloc2_new _ _ _)
  have f2 : (((w.alloc (.cells (da m) 45)).alloc (.cells #[Value.int .u64 0, .int .u64 0, .int .u64 0, .int .u64 0] 32)).alloc (.cells #[Value.int .u64 0, .int .u64 0, .int .u64 0, .int .u64 0] 32)).heap[w.heap.size + 1 + 1]? = some (.cells #[Value.int .u64 0, .int .u64 0, .int .u64 0, .int .u64 0] 32) := by
    have := heap_alloc_new ((w.alloc (.cells (da m) 45)).alloc (.cells #[Value.int .u64 0, .int .u64 0, .int .u64 0, .int .u64 0] 32)) (.cells #[Value.int .u64 0, .int .u64 0, .int .u64 0, .int .u64 0] 32)
    simpa using this
  have bW : Below w.heap.size w (((w.alloc (.cells (da m) 45)).alloc (.cells #[Value.int .u64 0, .int .u64 0, .int .u64 0, .int .u64 0] 32)).alloc (.cells #[Value.int .u64 0, .int .u64 0, .int .u64 0, .int .u64 0] 32)) := (((Below.refl _ _).alloc (Nat.le_refl _) _).alloc (by simp) _).alloc (by simp; omega) _
  generalize (((w.alloc (.cells (da m) 45)).alloc (.cells #[Value.int .u64 0, .int .u64 0, .int .u64 0, .int .u64 0] 32)).alloc (.cells #[Value.int .u64 0, .int .u64 0, .int .u64 0, .int .u64 0] 32)) = W at *
  go_loopw [4] (fun i wr => ∃ k : Nat, k ≤ 32 ∧ i = .int .i64 ((k : Int) - 1) ∧ Below w.heap.size w wr ∧ wr.heap[w.heap.size]? = some (.cells (da m) 45) ∧ wr.heap[w.heap.size + 1]? = some (.cells #[Value.int .u64 0, .int .u64 0, .int .u64 0, .int .u64 0] 32) ∧
      wr.heap[w.heap.size + 1 + 1]? = some (.cells (arr .u64 4 (fun q => ((acc m k q : Nat) : Int))) 32)) (fun i _ => (intOf i + 1).toNat)
  case atStart => exact ⟨32, Nat.le_refl _, rfl, bW, f0, f1, by rw [acc_start]; exact f2⟩
  case round =>
    obtain ⟨k, hk, rfl, hb, ha, hr, hd⟩ := hrel
    clear f0 f1 f2 bW
    by_cases hlt : 0 < k
    · obtain ⟨j, rfl⟩ : ∃ j, k = j + 1 := ⟨k - 1, by omega⟩
      have e1 : ((j + 1 : Nat) : Int) - 1 = (j : Int) := by omega
      rw [e1]
      have hj4 : j / 8 < 4 := by omega
      have c1 := blk_cell ha (arr_get .i64 _ (show j < 32 by omega))
      have c2 := blk_cell hd (arr_get .u64 _ hj4)
      have c3 := blk_frozen (j := j / 8) hd
      have HA := Lib.hid ha
      have HR := Lib.hid hr
      have HD := Lib.hid hd
      have HB := Lib.hid hb
      have HE := Lib.hid e1
      clear ha hr hd hb e1
      go_wp2_with fail
      go_region
      go_wp2_with fail
      rw [acc_val]
      refine ⟨⟨j, by omega, rfl, (HB.out.setCell (by simp; omega) _).drew, blk_other HA.out (by omega) _, blk_other HR.out (by omega) _, ?_⟩, by simp [intOf]⟩
      rw [← acc_put m j hj4]
      exact blk_set HD.out _
    · obtain rfl : k = 0 := by omega
      rw [acc_last] at hd
      have HB := Lib.hid hb
      clear hb
      go_wp2_with (first | (refine wpList_load_row rfl 32 _ rfl _ rfl 32 (wa m) (0, 0) _ hd Tryd.underlying32 rfl Tryd.infoWa ?_) | (refine wpList_store_row rfl 32 _ _ rfl _ #[Value.int .u64 0, .int .u64 0, .int .u64 0, .int .u64 0] (wa m) rfl rfl hr Tryd.infoWa rfl wa_one ?_))
      refine bodyPost_ret (v := wd m) (results_cell_row rfl _ _ _ 32 (wa m) (0, 0) _ rfl (blk_row hr) Tryd.underlying32 rfl Tryd.infoWa) rfl ⟨rfl, below_setRow HB.out (by omega) _⟩
end Go.Proofs.YtgejfdbbapjpmaaDoor
