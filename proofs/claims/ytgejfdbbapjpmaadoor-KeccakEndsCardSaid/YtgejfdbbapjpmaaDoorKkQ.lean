/- The statement KeccakTurns at every state. -/
import Derived.Test.YtgejfdbbapjpmaaDoorKkP
namespace Go.Proofs.YtgejfdbbapjpmaaDoor
open Go.RowKit SmWord
set_option maxRecDepth 100000

theorem Tryd.guardS : Tryd.prog.eqGuardType Tryd.prog.depth 23 = false := by kernel_rfl
theorem equal_sa (S : Nat → Nat) (w : World) : (Op.equalIn 10000 23 (.agg (sa S)) (.agg (sa S))).run Tryd.prog w = .ok true w := by
  obtain ⟨r, hr, hiff⟩ := equal_ints (k := .u64) Tryd.underlying23 Tryd.underlying22 Tryd.cells22 (sa S) (sa S) (arr_size _ _ _) (arr_size _ _ _) (fun i hi => ⟨_, _, arr_get .u64 _ hi, arr_get .u64 _ hi⟩) w
  rw [hr, hiff.2 rfl]
set_option maxHeartbeats 2000000 in
theorem turns_walk (S : Nat → Nat) (w : World) (hS : okS S) (hT : Tab w) :
    Calls Tryd.prog 3 #[.agg (sa S)] w fun e w' => e = .returned (.bool true) ∧ Below w.heap.size w w' := by
  have HS := Lib.hid hS
  have bW : Below w.heap.size w (w.alloc (.cells (sa S) 23)) := (Below.refl _ _).alloc (Nat.le_refl _) _
  have f0 : (w.alloc (.cells (sa S) 23)).heap[w.heap.size]? = some (.cells (sa S) 23) := heap_alloc_new _ _
  have HT := Lib.hid (hT.below bW)
  clear hS hT
  go_enter Tryd.func3, Tryd.ntmps3
  go_wp2_with fail
  generalize w.alloc (.cells (sa S) 23) = W at *
  have HB := Lib.hid bW
  clear bW
  have heq := fun w => equal_sa (tn S 24) w
  have hgu := Tryd.guardS
  refine region_ext (by kernel_rfl) (by kernel_rfl) ?_
  repeat (first | (go_big_quiet_want; refine quiet_load_row 23 _ rfl w.heap.size (sa S) rfl (fun w2 hw2 => by obtain ⟨g, rfl⟩ := hw2; exact g.block f0) Tryd.underlying23 (infoArrS _) ?_; simp only [Act.put, List.setIfInBounds_toArray, List.set_cons_succ, List.set_cons_zero]; go_big_quiet_on) | go_big_quiet_step (first | (go_at_call 6; exact calls_ext (fixed_walk _ (HT.out.below (Ext.below _)))) | (go_at_call 7; exact calls_ext (Turn_walk S _ HS.out (HT.out.below (Ext.below _)))) | (go_at_call 8; exact calls_ext (rturn_walk S _ HS.out))))
  refine wpQuiet_nil ?_
  rintro _ ⟨g, rfl⟩
  go_wp2_with fail
  go_ret
  exact ⟨rfl, HB.out.trans (g.below.mono HB.out.size)⟩
end Go.Proofs.YtgejfdbbapjpmaaDoor
