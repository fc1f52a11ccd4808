/- What the function Bytes of package word does: the bytes of a word, the highest first; all older memory is as it was. -/
import Derived.Test.YtfpeliolngfkpaaPartB
namespace Go.Proofs.Ytfpeliolngfkpaa
open Go.RowKit SmWord
set_option maxRecDepth 100000
theorem fillY_step (f : Nat → Int) (k : Nat) (hk : k < 32) (v : Int) (hv : v = f k) :
    (arr .u8 32 (fun j => if j < k then f j else 0)).setIfInBounds k (.int .u8 v) = arr .u8 32 (fun j => if j < k + 1 then f j else 0) := by
  rw [arr_set _ _ _ hk]
  refine arr_congr fun i _ => ?_
  by_cases h1 : i = k
  · subst h1; simp [hv]
  · by_cases h2 : i < k
    · simp [h1, h2, show i < k + 1 by omega]
    · simp [h1, h2, show ¬ i < k + 1 by omega]
theorem fillY_start (f : Nat → Int) : arr .u8 32 (fun j => if j < 0 then f j else 0) = zY := arr_congr fun i _ => by simp
theorem fillY_end (f : Nat → Int) : arr .u8 32 (fun j => if j < 32 then f j else 0) = arr .u8 32 f := arr_congr fun i hi => by simp [hi]
set_option maxHeartbeats 2000000 in
theorem bytes_wd (m : Nat) (w : World) : Calls Try.prog 24 #[wd m] w fun e w' => e = .returned (.agg (ya m)) ∧ Below w.heap.size w w' := by
  go_enter Try.func24, Try.ntmps24
  go_wp2_with (refine wpList_alloc_row rfl 59 rfl zY zY_run ?_)
  have f0 : (((w.alloc (.cells (wa m) 39)).alloc (.cells zY 59)).alloc (.cells zY 59)).heap[w.heap.size]? = some (.cells (wa m) 39) := blk_alloc (blk_alloc (heap_alloc_new _ _))
  have f1 : (((w.alloc (.cells (wa m) 39)).alloc (.cells zY 59)).alloc (.cells zY 59)).heap[w.heap.size + 1]? = some (.cells zY 59) := blk_alloc (heap_alloc2_new _ _ _)
  have f2 : (((w.alloc (.cells (wa m) 39)).alloc (.cells zY 59)).alloc (.cells zY 59)).heap[w.heap.size + 1 + 1]? = some (.cells zY 59) := by
    have := heap_alloc_new ((w.alloc (.cells (wa m) 39)).alloc (.cells zY 59)) (.cells zY 59)
    simpa using this
  have bW : Below w.heap.size w (((w.alloc (.cells (wa m) 39)).alloc (.cells zY 59)).alloc (.cells zY 59)) := (((Below.refl _ _).alloc (Nat.le_refl _) _).alloc (by simp) _).alloc (by simp; omega) _
  generalize (((w.alloc (.cells (wa m) 39)).alloc (.cells zY 59)).alloc (.cells zY 59)) = W at *
  go_loopw [5] (fun i wr => ∃ k : Nat, k ≤ 32 ∧ i = .int .i64 k ∧ Below w.heap.size w wr ∧ wr.heap[w.heap.size]? = some (.cells (wa m) 39) ∧ wr.heap[w.heap.size + 1]? = some (.cells zY 59) ∧
      wr.heap[w.heap.size + 1 + 1]? = some (.cells (arr .u8 32 (fun j => if j < k then ((dig m (31 - j) : Nat) : Int) else 0)) 59)) (fun i _ => 32 - (intOf i).toNat)
  case atStart => exact ⟨0, Nat.zero_le _, rfl, bW, f0, f1, by rw [fillY_start]; exact f2⟩
  case round =>
    obtain ⟨k, hk, rfl, hb, ha, hr, hd⟩ := hrel
    clear f0 f1 f2 bW
    by_cases hlt : k < 32
    · have fo := fold_wa
      obtain ⟨c0, c1, c2, c3⟩ := Ext.word (w := wr) ⟨wr, Below.refl _ _⟩ ha
      have HA := Lib.hid ha
      have HR := Lib.hid hr
      have HD := Lib.hid hd
      have HB := Lib.hid hb
      clear ha hr hd hb
      go_wp2_with fail
      refine (byte_walk m k _ hlt).mono ?_
      rintro e w1 ⟨rfl, b1⟩
      have ha := stay b1 HA.out
      have hr := stay b1 HR.out
      have hd := stay b1 HD.out
      have hb := HB.out.trans (b1.mono HB.out.size)
      have d2 := blk_cell hd (arr_get .u8 _ hlt)
      have d3 := blk_frozen (j := k) hd
      clear HA HR HD HB c0 c1 c2 c3 fo
      have HA := Lib.hid ha
      have HR := Lib.hid hr
      have HD := Lib.hid hd
      have HB := Lib.hid hb
      clear ha hr hd hb b1
      go_wp2_with fail
      refine ⟨⟨k + 1, by omega, by go_num, HB.out.setCell (by simp; omega) _, blk_other HA.out (by omega) _, blk_other HR.out (by omega) _, ?_⟩, by simp [intOf]; omega⟩
      rw [← fillY_step (fun j => ((dig m (31 - j) : Nat) : Int)) k hlt _ rfl]
      exact blk_set HD.out _
    · obtain rfl : k = 32 := by omega
      rw [fillY_end] at hd
      have HB := Lib.hid hb
      clear hb
      go_wp2_with (first | (refine wpList_load_row rfl 59 _ rfl _ rfl 59 (ya m) (0, 0) _ hd Try.underlying59 rfl (infoArrY _) ?_) | (refine wpList_store_row rfl 59 _ _ rfl _ zY (ya m) rfl rfl hr (infoArrY _) rfl (arr_one _ _ _) ?_))
      refine bodyPost_ret (v := .agg (ya m)) (results_cell_row rfl _ _ _ 59 (ya m) (0, 0) _ rfl (blk_row hr) Try.underlying59 rfl (infoArrY _)) rfl ⟨rfl, below_setRow HB.out (by omega) _⟩
end Go.Proofs.Ytfpeliolngfkpaa
