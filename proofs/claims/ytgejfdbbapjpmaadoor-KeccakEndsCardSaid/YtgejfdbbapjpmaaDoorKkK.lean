/- What the function Turn of the document's own answers for keccak does: 24 rounds. -/
import Derived.Test.YtgejfdbbapjpmaaDoorKkJ
namespace Go.Proofs.YtgejfdbbapjpmaaDoor
open Go.RowKit SmWord
set_option maxRecDepth 100000

set_option maxHeartbeats 2000000 in
theorem rturn_walk (S : Nat → Nat) (w : World) (hS : okS S) :
    Calls Tryd.prog 8 #[.agg (sa S)] w fun e w' => e = .returned (.agg (sa (tn S 24))) ∧ Below w.heap.size w w' := by
  have HS := Lib.hid hS
  clear hS
  go_enter Tryd.func8, Tryd.ntmps8
  go_wp2_with (first | (refine wpList_alloc_row rfl 23 rfl zS zS_run ?_))
  have f0 : ((w.alloc (.cells (sa S) 23)).alloc (.cells zS 23)).heap[w.heap.size]? = some (.cells (sa S) 23) := blk_alloc (heap_alloc_new _ _)
  have f1 : ((w.alloc (.cells (sa S) 23)).alloc (.cells zS 23)).heap[w.heap.size + 1]? = some (.cells zS 23) := heap_alloc2_new _ _ _
  have bW : Below w.heap.size w ((w.alloc (.cells (sa S) 23)).alloc (.cells zS 23)) := ((Below.refl _ _).alloc (Nat.le_refl _) _).alloc (by simp) _
  generalize ((w.alloc (.cells (sa S) 23)).alloc (.cells zS 23)) = W at *
  have F0 := Lib.hid f0
  have F1 := Lib.hid f1
  have HB := Lib.hid bW
  clear f0 f1 bW
  refine (const_walk W).mono ?_
  rintro e w1 ⟨rfl, b1⟩
  replace F0 := Lib.hid (stay b1 F0.out)
  replace F1 := Lib.hid (stay b1 F1.out)
  replace HB := Lib.hid (HB.out.trans (b1.mono HB.out.size))
  have h1 : w.heap.size + 1 < w1.heap.size := (Array.getElem?_eq_some_iff.1 F1.out).1
  clear b1
  have WWf0 : ((w1.alloc (.cells zC 38)).setRow w1.heap.size (ca kc)).heap[w.heap.size]? = some (.cells (sa (tn S 0)) 23) := blk_row_other (blk_alloc F0.out) (by omega)
  have WWf1 : ((w1.alloc (.cells zC 38)).setRow w1.heap.size (ca kc)).heap[w.heap.size + 1]? = some (.cells zS 23) := blk_row_other (blk_alloc F1.out) (by omega)
  have WWf2 : ((w1.alloc (.cells zC 38)).setRow w1.heap.size (ca kc)).heap[w1.heap.size]? = some (.cells (ca kc) 38) := blk_row (heap_alloc_new _ _)
  have bW : Below w.heap.size w ((w1.alloc (.cells zC 38)).setRow w1.heap.size (ca kc)) := below_setRow (HB.out.alloc HB.out.size _) (by omega) _
  clear HB F0 F1
  go_wp2_with (first | (refine wpList_alloc_row rfl 38 rfl zC zC_run ?_) | (refine wpList_store_row rfl 38 _ _ rfl _ zC (ca kc) rfl rfl (heap_alloc_new _ _) (infoArrC _) rfl (arr_one _ _ _) ?_))
  generalize ((w1.alloc (.cells zC 38)).setRow w1.heap.size (ca kc)) = W1 at *
  obtain ⟨nC, hnC⟩ : ∃ nC, w1.heap.size = nC := ⟨_, rfl⟩
  rw [hnC] at WWf2 h1 ⊢
  clear hnC
  go_loopw [4] (fun i wr => ∃ k : Nat, k ≤ 24 ∧ i = .int .i64 k ∧ Below w.heap.size w wr ∧ wr.heap[w.heap.size]? = some (.cells (sa (tn S k)) 23) ∧ wr.heap[w.heap.size + 1]? = some (.cells zS 23) ∧ wr.heap[nC]? = some (.cells (ca kc) 38)) (fun i _ => 24 - (intOf i).toNat)
  case atStart => exact ⟨0, by omega, rfl, bW, WWf0, WWf1, WWf2⟩
  case round =>
    clear bW WWf0 WWf1 WWf2
    obtain ⟨k, hk, rfl, bW, f0, f1, f2⟩ := hrel
    by_cases hlt : k < 24
    · obtain ⟨T, hTk⟩ : ∃ T, T = tn S k := ⟨_, rfl⟩
      have hok : okS T := by rw [hTk]; exact tn_lt HS.out k hk
      rw [← hTk] at f0
      have HK := Lib.hid hTk
      have HO := Lib.hid hok
      have F0 := Lib.hid f0
      have F1 := Lib.hid f1
      have F2 := Lib.hid f2
      have HB := Lib.hid bW
      have hkc := kc_lt k hlt
      clear hTk hok f0 f1 f2 bW
      go_wp2_with fail
      refine region_last2 (aQ := ?aQ) 5 (by kernel_rfl) (by kernel_rfl) (fun w1 => ?hq) (fun w0' hb' => ?hh)
      case hq =>
        have ck : ∀ g : Ext w1.on, g.on.cell? ⟨nC, k, none⟩ = some (.int .u64 ((kc k : Nat) : Int)) := fun g => blk_cell (g.block (w1.block F2.out)) (arr_get .u64 (fun i => ((kc i : Nat) : Int)) hlt)
        simp only [List.take_succ_cons, List.take_zero]
        repeat (first | (go_big_quiet_want; refine quiet_load_row 23 _ rfl _ (sa T) rfl (fun w2 hw2 => by obtain ⟨g, rfl⟩ := hw2; exact g.block (w1.block F0.out)) Tryd.underlying23 (infoArrS _) ?_; simp only [Act.put, List.setIfInBounds_toArray, List.set_cons_succ, List.set_cons_zero]; go_big_quiet_on) | go_big_quiet_step ((go_at_call 15; exact calls_ext (round_walk T (kc k) _ HO.out hkc))))
        refine wpQuiet_nil ?_
        rfl
      have g0 := stay hb' F0.out
      have g1 := stay hb' F1.out
      have g2 := stay hb' F2.out
      replace HB := Lib.hid (HB.out.trans (hb'.mono HB.out.size))
      clear F0 F1 F2 hb'
      have F0 := Lib.hid (blk_row (c' := sa (rd (kc k) T)) g0)
      have F1 := Lib.hid (blk_row_other (b := w.heap.size) (c' := sa (rd (kc k) T)) g1 (by omega))
      have F2 := Lib.hid (blk_row_other (b := w.heap.size) (c' := sa (rd (kc k) T)) g2 (by omega))
      simp only [List.drop_succ_cons, List.drop_zero]
      refine wpList_store_row rfl 23 _ _ rfl _ (sa T) (sa (rd (kc k) T)) rfl rfl g0 (infoArrS _) rfl (arr_one _ _ _) ?_
      refine wpList_nil ?_
      clear g0 g1 g2
      go_wp2_with fail
      exact ⟨⟨k + 1, by omega, by go_num, below_setRow HB.out (Nat.le_refl _) _, by rw [tn, ← HK.out]; exact F0.out, F1.out, F2.out⟩, by simp [intOf]; omega⟩
    · obtain rfl : k = 24 := by omega
      have HB := Lib.hid bW
      clear bW f2
      go_wp2_with (first | (refine wpList_load_row rfl 23 _ rfl _ rfl 23 (sa (tn S 24)) (0, 0) _ f0 Tryd.underlying23 rfl (infoArrS _) ?_) | (refine wpList_store_row rfl 23 _ _ rfl _ zS (sa (tn S 24)) rfl rfl f1 (infoArrS _) rfl (arr_one _ _ _) ?_))
      refine bodyPost_ret (v := .agg (sa (tn S 24))) (results_cell_row rfl _ _ _ 23 (sa (tn S 24)) (0, 0) _ rfl (blk_row f1) Tryd.underlying23 rfl (infoArrS _)) rfl ⟨rfl, below_setRow HB.out (by omega) _⟩
end Go.Proofs.YtgejfdbbapjpmaaDoor
