/- The chapter's example, as the function fixed of the statements has it: it returns true, and leaves all older memory as it was; and hashes compared. -/
import Derived.Test.YtgejfdbbapjpmaaDoorKkO
import Derived.Test.YtgejfdbbapjpmaaDoorKkF
namespace Go.Proofs.YtgejfdbbapjpmaaDoor
open Go.RowKit SmWord
set_option maxRecDepth 100000

set_option maxHeartbeats 1000000 in
theorem fixed_core (w : World) (V : Nat → Nat) (h5 : V 0 = 197 ∧ V 1 = 210 ∧ V 2 = 70 ∧ V 30 = 164 ∧ V 31 = 112)
    (H : Hid (∀ w : World, Tab w → Calls Tryd.prog 9 #[.slice none 0 0] w fun e w' => e = .returned (.agg (ha V)) ∧ Below w.heap.size w w')) (hT : Tab w) :
    Calls Tryd.prog 6 #[] w fun e w' => e = .returned (.bool true) ∧ Below w.heap.size w w' := by
  have HT := Lib.hid hT
  have H5 := Lib.hid h5
  clear hT h5
  go_enter Tryd.func6, Tryd.ntmps6
  go_wp2_with fail
  refine (H.out w HT.out).mono ?_
  rintro e w1 ⟨rfl, b1⟩
  have HB := Lib.hid b1
  clear b1
  have f1 : ((w1.alloc (.cells zH 29)).setRow w1.heap.size (ha V)).heap[w1.heap.size]? = some (.cells (ha V) 29) := blk_row (heap_alloc_new _ _)
  have bW : Below w.heap.size w ((w1.alloc (.cells zH 29)).setRow w1.heap.size (ha V)) := below_setRow (HB.out.alloc HB.out.size _) HB.out.size _
  clear HB
  go_upto_region 2 with (first | (refine wpList_alloc_row rfl 29 rfl zH zH_run ?_) | (refine wpList_store_row rfl 29 _ _ rfl _ zH (ha V) rfl rfl (heap_alloc_new _ _) (infoArrH _) rfl (arr_one _ _ _) ?_))
  generalize ((w1.alloc (.cells zH 29)).setRow w1.heap.size (ha V)) = W2 at *
  have cc : ∀ i x, i < 32 → V i = x → W2.cell? ⟨w1.heap.size, i, none⟩ = some (.int .u8 ((x : Nat) : Int)) := fun i x hi hx => by
    have := blk_cell f1 (arr_get .u8 (fun i => ((V i : Nat) : Int)) hi)
    simp only [hx] at this
    exact this
  have c0 := cc 0 197 (by decide) H5.out.1
  have c1 := cc 1 210 (by decide) H5.out.2.1
  have c2 := cc 2 70 (by decide) H5.out.2.2.1
  have c30 := cc 30 164 (by decide) H5.out.2.2.2.1
  have c31 := cc 31 112 (by decide) H5.out.2.2.2.2
  have HB := Lib.hid bW
  clear cc f1 bW
  go_wp2_with fail
  go_ret
  exact ⟨rfl, HB.out⟩
theorem fixed_walk (w : World) (hT : Tab w) : Calls Tryd.prog 6 #[] w fun e w' => e = .returned (.bool true) ∧ Below w.heap.size w w' :=
  fixed_core w (kk (fun _ => 0) 0) (none_five _) (Lib.hid fun w hT => sum_walk none 0 0 (fun _ => 0) w (Nat.zero_le _) (Nat.le_refl _) hT ⟨fun _ h => absurd h (by omega), fun h => absurd h (by omega)⟩) hT
end Go.Proofs.YtgejfdbbapjpmaaDoor
