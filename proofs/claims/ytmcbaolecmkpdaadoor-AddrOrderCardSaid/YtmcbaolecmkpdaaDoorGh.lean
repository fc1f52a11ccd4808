/- The statement AddrOrder at every two addresses: it returns true. -/
import Derived.Test.YtmcbaolecmkpdaaDoorGg
namespace Go.Proofs.YtmcbaolecmkpdaaDoor
open Go.RowKit SmWord
set_option maxRecDepth 100000

set_option maxHeartbeats 2000000 in
theorem order_core (f g : Nat → Nat) (L N : Int) (b1 b2 : Bool) (P : Nat) (w : World) (hT : Tab w) (hL : (L = -1 ∧ N = 1 ∧ b1 = true ∧ b2 = false) ∨ (L = 0 ∧ N = 0 ∧ b1 = false ∧ b2 = false) ∨ (L = 1 ∧ N = -1 ∧ b1 = false ∧ b2 = true))
    (H1 : Hid (∀ w : World, Calls Tryd.prog 16 #[.agg (aa f), .agg (aa g)] w fun e w' => e = .returned (.bool b1) ∧ Below w.heap.size w w'))
    (H2 : Hid (∀ w : World, Calls Tryd.prog 16 #[.agg (aa g), .agg (aa f)] w fun e w' => e = .returned (.bool b2) ∧ Below w.heap.size w w'))
    (H3 : Hid (∀ w : World, Calls Tryd.prog 17 #[.agg (aa f), .agg (aa g)] w fun e w' => e = .returned (.int .i64 L) ∧ Below w.heap.size w w'))
    (H4 : Hid (∀ w : World, Calls Tryd.prog 17 #[.agg (aa g), .agg (aa f)] w fun e w' => e = .returned (.int .i64 N) ∧ Below w.heap.size w w'))
    (H5 : Hid (∀ w : World, Calls Tryd.prog 18 #[.agg (aa f)] w fun e w' => e = .returned (.int .i64 (P : Int)) ∧ Below w.heap.size w w'))
    (H6 : Hid (∀ w : World, Calls Tryd.prog 19 #[.agg (aa f)] w fun e w' => e = .returned (.int .i64 (P : Int)) ∧ Below w.heap.size w w')) :
    Calls Tryd.prog 6 #[.agg (aa f), .agg (aa g)] w fun e w' => e = .returned (.bool true) ∧ Below w.heap.size w w' := by
  have HT := Lib.hid hT
  clear hT
  have f0 : ((w.alloc (.cells (aa f) 23)).alloc (.cells (aa g) 23)).heap[w.heap.size]? = some (.cells (aa f) 23) := blk_alloc (heap_alloc_new _ _)
  have f1 : ((w.alloc (.cells (aa f) 23)).alloc (.cells (aa g) 23)).heap[w.heap.size + 1]? = some (.cells (aa g) 23) := heap_alloc2_new _ _ _
  have bW : Below w.heap.size w ((w.alloc (.cells (aa f) 23)).alloc (.cells (aa g) 23)) := ((Below.refl _ _).alloc (Nat.le_refl _) _).alloc (by simp) _
  rcases hL with ⟨rfl, rfl, rfl, rfl⟩ | ⟨rfl, rfl, rfl, rfl⟩ | ⟨rfl, rfl, rfl, rfl⟩
  · go_enter Tryd.func6, Tryd.ntmps6
    go_wp2_with (first | (refine wpList_load_row rfl 23 _ rfl _ rfl 23 (aa f) (0, 0) _ f0 Tryd.underlying23 rfl (infoArrA _) ?_) | (refine wpList_load_row rfl 23 _ rfl _ rfl 23 (aa g) (0, 0) _ f1 Tryd.underlying23 rfl (infoArrA _) ?_))
    generalize ((w.alloc (.cells (aa f) 23)).alloc (.cells (aa g) 23)) = W at *
    refine (H1.out _).mono ?_
    rintro e w1 ⟨rfl, b1⟩
    have g0 := stay b1 f0
    have g1 := stay b1 f1
    have HB := Lib.hid (bW.trans (b1.mono bW.size))
    replace HT := Lib.hid ((HT.out.below bW).below b1)
    clear b1 f0 f1 bW
    go_wp2_with (first | (refine wpList_load_row rfl 23 _ rfl _ rfl 23 (aa f) (0, 0) _ g0 Tryd.underlying23 rfl (infoArrA _) ?_) | (refine wpList_load_row rfl 23 _ rfl _ rfl 23 (aa g) (0, 0) _ g1 Tryd.underlying23 rfl (infoArrA _) ?_))
    refine (H2.out _).mono ?_
    rintro e w2 ⟨rfl, b2⟩
    have f0 := stay b2 g0
    have f1 := stay b2 g1
    replace HB := Lib.hid (HB.out.trans (b2.mono HB.out.size))
    replace HT := Lib.hid (HT.out.below b2)
    clear b2 g0 g1
    go_wp2_with fail
    refine region_ext (by kernel_rfl) (by kernel_rfl) ?_
    repeat (first | (go_big_quiet_want; refine quiet_load_row 23 _ rfl (w.heap.size) (aa f) rfl (fun w2 hw2 => by obtain ⟨g, rfl⟩ := hw2; exact g.block f0) Tryd.underlying23 (infoArrA _) ?_; simp only [Act.put, List.setIfInBounds_toArray, List.set_cons_succ, List.set_cons_zero]; go_big_quiet_on) | (go_big_quiet_want; refine quiet_load_row 23 _ rfl (w.heap.size + 1) (aa g) rfl (fun w2 hw2 => by obtain ⟨g, rfl⟩ := hw2; exact g.block f1) Tryd.underlying23 (infoArrA _) ?_; simp only [Act.put, List.setIfInBounds_toArray, List.set_cons_succ, List.set_cons_zero]; go_big_quiet_on) | go_big_quiet_step (first | (go_at_call 7; exact calls_ext (afixed_walk _ (HT.out.below (Ext.below _)))) | (go_at_call 17; first | with_reducible exact calls_ext (H3.out _) | with_reducible exact calls_ext (H4.out _)) | (go_at_call 18; exact calls_ext (H5.out _)) | (go_at_call 19; exact calls_ext (H6.out _))))
    refine wpQuiet_nil ?_
    rintro _ ⟨g, rfl⟩
    go_wp2_with fail
    go_ret
    exact ⟨rfl, HB.out.trans (g.below.mono HB.out.size)⟩
  · go_enter Tryd.func6, Tryd.ntmps6
    go_wp2_with (first | (refine wpList_load_row rfl 23 _ rfl _ rfl 23 (aa f) (0, 0) _ f0 Tryd.underlying23 rfl (infoArrA _) ?_) | (refine wpList_load_row rfl 23 _ rfl _ rfl 23 (aa g) (0, 0) _ f1 Tryd.underlying23 rfl (infoArrA _) ?_))
    generalize ((w.alloc (.cells (aa f) 23)).alloc (.cells (aa g) 23)) = W at *
    refine (H1.out _).mono ?_
    rintro e w1 ⟨rfl, b1⟩
    have g0 := stay b1 f0
    have g1 := stay b1 f1
    have HB := Lib.hid (bW.trans (b1.mono bW.size))
    replace HT := Lib.hid ((HT.out.below bW).below b1)
    clear b1 f0 f1 bW
    go_wp2_with (first | (refine wpList_load_row rfl 23 _ rfl _ rfl 23 (aa f) (0, 0) _ g0 Tryd.underlying23 rfl (infoArrA _) ?_) | (refine wpList_load_row rfl 23 _ rfl _ rfl 23 (aa g) (0, 0) _ g1 Tryd.underlying23 rfl (infoArrA _) ?_))
    refine (H2.out _).mono ?_
    rintro e w2 ⟨rfl, b2⟩
    have f0 := stay b2 g0
    have f1 := stay b2 g1
    replace HB := Lib.hid (HB.out.trans (b2.mono HB.out.size))
    replace HT := Lib.hid (HT.out.below b2)
    clear b2 g0 g1
    go_wp2_with fail
    refine region_ext (by kernel_rfl) (by kernel_rfl) ?_
    repeat (first | (go_big_quiet_want; refine quiet_load_row 23 _ rfl (w.heap.size) (aa f) rfl (fun w2 hw2 => by obtain ⟨g, rfl⟩ := hw2; exact g.block f0) Tryd.underlying23 (infoArrA _) ?_; simp only [Act.put, List.setIfInBounds_toArray, List.set_cons_succ, List.set_cons_zero]; go_big_quiet_on) | (go_big_quiet_want; refine quiet_load_row 23 _ rfl (w.heap.size + 1) (aa g) rfl (fun w2 hw2 => by obtain ⟨g, rfl⟩ := hw2; exact g.block f1) Tryd.underlying23 (infoArrA _) ?_; simp only [Act.put, List.setIfInBounds_toArray, List.set_cons_succ, List.set_cons_zero]; go_big_quiet_on) | go_big_quiet_step (first | (go_at_call 7; exact calls_ext (afixed_walk _ (HT.out.below (Ext.below _)))) | (go_at_call 17; first | with_reducible exact calls_ext (H3.out _) | with_reducible exact calls_ext (H4.out _)) | (go_at_call 18; exact calls_ext (H5.out _)) | (go_at_call 19; exact calls_ext (H6.out _))))
    refine wpQuiet_nil ?_
    rintro _ ⟨g, rfl⟩
    go_wp2_with fail
    go_ret
    exact ⟨rfl, HB.out.trans (g.below.mono HB.out.size)⟩
  · go_enter Tryd.func6, Tryd.ntmps6
    go_wp2_with (first | (refine wpList_load_row rfl 23 _ rfl _ rfl 23 (aa f) (0, 0) _ f0 Tryd.underlying23 rfl (infoArrA _) ?_) | (refine wpList_load_row rfl 23 _ rfl _ rfl 23 (aa g) (0, 0) _ f1 Tryd.underlying23 rfl (infoArrA _) ?_))
    generalize ((w.alloc (.cells (aa f) 23)).alloc (.cells (aa g) 23)) = W at *
    refine (H1.out _).mono ?_
    rintro e w1 ⟨rfl, b1⟩
    have g0 := stay b1 f0
    have g1 := stay b1 f1
    have HB := Lib.hid (bW.trans (b1.mono bW.size))
    replace HT := Lib.hid ((HT.out.below bW).below b1)
    clear b1 f0 f1 bW
    go_wp2_with (first | (refine wpList_load_row rfl 23 _ rfl _ rfl 23 (aa f) (0, 0) _ g0 Tryd.underlying23 rfl (infoArrA _) ?_) | (refine wpList_load_row rfl 23 _ rfl _ rfl 23 (aa g) (0, 0) _ g1 Tryd.underlying23 rfl (infoArrA _) ?_))
    refine (H2.out _).mono ?_
    rintro e w2 ⟨rfl, b2⟩
    have f0 := stay b2 g0
    have f1 := stay b2 g1
    replace HB := Lib.hid (HB.out.trans (b2.mono HB.out.size))
    replace HT := Lib.hid (HT.out.below b2)
    clear b2 g0 g1
    go_wp2_with fail
    refine region_ext (by kernel_rfl) (by kernel_rfl) ?_
    repeat (first | (go_big_quiet_want; refine quiet_load_row 23 _ rfl (w.heap.size) (aa f) rfl (fun w2 hw2 => by obtain ⟨g, rfl⟩ := hw2; exact g.block f0) Tryd.underlying23 (infoArrA _) ?_; simp only [Act.put, List.setIfInBounds_toArray, List.set_cons_succ, List.set_cons_zero]; go_big_quiet_on) | (go_big_quiet_want; refine quiet_load_row 23 _ rfl (w.heap.size + 1) (aa g) rfl (fun w2 hw2 => by obtain ⟨g, rfl⟩ := hw2; exact g.block f1) Tryd.underlying23 (infoArrA _) ?_; simp only [Act.put, List.setIfInBounds_toArray, List.set_cons_succ, List.set_cons_zero]; go_big_quiet_on) | go_big_quiet_step (first | (go_at_call 7; exact calls_ext (afixed_walk _ (HT.out.below (Ext.below _)))) | (go_at_call 17; first | with_reducible exact calls_ext (H3.out _) | with_reducible exact calls_ext (H4.out _)) | (go_at_call 18; exact calls_ext (H5.out _)) | (go_at_call 19; exact calls_ext (H6.out _))))
    refine wpQuiet_nil ?_
    rintro _ ⟨g, rfl⟩
    go_wp2_with fail
    go_ret
    exact ⟨rfl, HB.out.trans (g.below.mono HB.out.size)⟩
theorem order_walk (f g : Nat → Nat) (w : World) (hf : ∀ i, i < 20 → f i < 256) (hg : ∀ i, i < 20 → g i < 256) (hT : Tab w) :
    Calls Tryd.prog 6 #[.agg (aa f), .agg (aa g)] w fun e w' => e = .returned (.bool true) ∧ Below w.heap.size w w' := by
  have ht := lx_turn f g 20 0
  refine order_core f g (lx f g 20 0) (lx g f 20 0) (decide (lx f g 20 0 = -1)) (decide (lx g f 20 0 = -1)) (pre f) w hT ?_ (Lib.hid fun w => less_walk f g w) (Lib.hid fun w => less_walk g f w) (Lib.hid fun w => acompare_walk f g w hf hg) (Lib.hid fun w => acompare_walk g f w hg hf) (Lib.hid fun w => pre_walk f w hf) (Lib.hid fun w => rpre_walk f w hf)
  rw [ht]
  rcases lx_three f g 20 0 with h | h | h
  · rw [h]; exact .inl ⟨rfl, rfl, rfl, rfl⟩
  · rw [h]; exact .inr (.inl ⟨rfl, rfl, rfl, rfl⟩)
  · rw [h]; exact .inr (.inr ⟨rfl, rfl, rfl, rfl⟩)
end Go.Proofs.YtmcbaolecmkpdaaDoor
