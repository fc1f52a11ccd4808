/- The statement HexReads, a way each: a text that is no bytes; fewer than 20; 20; more: it returns true, and leaves all older memory as it was. -/
import Derived.Test.YtlplncfonphkeaaDoorHxP
import Derived.Test.YtlplncfonphkeaaDoorHxE
import Derived.Test.YtlplncfonphkeaaDoorHxK
import Derived.Deep.DeepCutAuto
namespace Go.Proofs.YtlplncfonphkeaaDoor
open Go.RowKit SmWord
set_option maxRecDepth 100000

theorem Tryd.guardWo : Tryd.prog.eqGuardType Tryd.prog.depth 25 = false := by kernel_rfl
theorem Tryd.cellsQ : Tryd.prog.cellsOf 23 = 1 := by kernel_rfl
theorem equal_wo (m : Nat) (w : World) : (Op.equalIn 10000 25 (.agg (wa m)) (.agg (wa m))).run Tryd.prog w = .ok true w := by
  obtain ⟨r, hr, hiff⟩ := equal_ints (k := .u64) Tryd.underlying25 Tryd.underlying23 Tryd.cellsQ (wa m) (wa m) (wa_size _) (wa_size _) (fun i hi => ⟨_, _, wa_lb _ _ hi, wa_lb _ _ hi⟩) w
  rw [hr, hiff.2 rfl]
theorem zA_aa : zA = aa (fun _ => 0) := rfl
/-- What a call that answers a slice of bytes and an error leaves. -/
def BytesOf (n : Nat) (f : Nat → Nat) (k : Int) (w : World) (e : Ending) (w' : World) : Prop := ∃ A c, e = .returned (.tuple #[.slice A n c, .int .i64 k]) ∧ Sl w' A n f ∧ Below w.heap.size w w' 
set_option maxHeartbeats 4000000 in
theorem reads_no (s : ByteArray) (n v : Nat) (e2 : Int) (f : Nat → Nat) (w : World) (hs : s.size ≤ 3000) 
    (H1 : Hid (∀ w, Calls Tryd.prog 9 #[.string s] w (BytesOf n f 2 w)))
    (H2 : Hid (∀ w, Calls Tryd.prog 13 #[.string s] w (BytesOf n f 2 w)))
    (H3 : Hid (∀ w : World, Calls Tryd.prog 10 #[.string s] w fun e w' => e = .returned (.tuple #[wd v, .int .i64 e2]) ∧ Below w.heap.size w w'))
    (H4 : Hid (∀ w : World, Calls Tryd.prog 14 #[.string s] w fun e w' => e = .returned (.tuple #[wd v, .int .i64 e2]) ∧ Below w.heap.size w w'))
    (H5 : Hid (∀ w : World, Calls Tryd.prog 15 #[.string s] w fun e w' => e = .returned (.tuple #[.agg (aa (fun _ => 0)), .int .i64 2]) ∧ Below w.heap.size w w')) :
    Calls Tryd.prog 4 #[.string s] w fun e w' => e = .returned (.bool true) ∧ Below w.heap.size w w' := by
  go_enter Tryd.func4, Tryd.ntmps4
  go_wp2_with fail
  refine (H1.out _).mono ?_
  rintro e w1 ⟨A1, c1, rfl, hs1, b1⟩
  have HB := Lib.hid b1
  have HS1 := Lib.hid hs1
  clear b1 hs1
  go_wp2_with fail
  refine (H2.out _).mono ?_
  rintro e w2 ⟨A2, c2, rfl, hs2, b2⟩
  have HB := Lib.hid (HB.out.trans (b2.mono HB.out.size))
  have HS1 := Lib.hid (HS1.out.below b2)
  have HS2 := Lib.hid hs2
  clear b2 hs2
  go_wp2_with fail
  refine (H3.out _).mono ?_
  rintro e w3 ⟨rfl, b3⟩
  have HB := Lib.hid (HB.out.trans (b3.mono HB.out.size))
  have HS1 := Lib.hid (HS1.out.below b3)
  have HS2 := Lib.hid (HS2.out.below b3)
  clear b3
  have hst := store_word w3 v
  go_wp2_with fail
  clear hst
  have hv3 : (w3.alloc (.cells (wa v) 25)).heap[w3.heap.size]? = some (.cells (wa v) 25) := heap_alloc_new _ _
  have HB := Lib.hid (HB.out.alloc HB.out.size (.cells (wa v) 25))
  have HS1 := Lib.hid (HS1.out.below (Joins.below_alloc1 w3 (.cells (wa v) 25)))
  have HS2 := Lib.hid (HS2.out.below (Joins.below_alloc1 w3 (.cells (wa v) 25)))
  generalize w3.alloc (.cells (wa v) 25) = W3 at *
  generalize w3.heap.size = V at *
  have HV := Lib.hid hv3
  clear hv3
  refine (H4.out _).mono ?_
  rintro e w4 ⟨rfl, b4⟩
  have HB := Lib.hid (HB.out.trans (b4.mono HB.out.size))
  have HS1 := Lib.hid (HS1.out.below b4)
  have HS2 := Lib.hid (HS2.out.below b4)
  have HV := Lib.hid (below_of b4 HV.out)
  clear b4
  have hst := store_word w4 v
  go_wp2_with fail
  clear hst
  have hu5 : (w4.alloc (.cells (wa v) 25)).heap[w4.heap.size]? = some (.cells (wa v) 25) := heap_alloc_new _ _
  have HV := Lib.hid (blk_alloc (o' := .cells (wa v) 25) HV.out)
  have HB := Lib.hid (HB.out.alloc HB.out.size (.cells (wa v) 25))
  have HS1 := Lib.hid (HS1.out.below (Joins.below_alloc1 w4 (.cells (wa v) 25)))
  have HS2 := Lib.hid (HS2.out.below (Joins.below_alloc1 w4 (.cells (wa v) 25)))
  generalize w4.alloc (.cells (wa v) 25) = W4 at *
  generalize w4.heap.size = U at *
  have HU := Lib.hid hu5
  clear hu5
  refine (fixed_hex _).mono ?_
  rintro e w5 ⟨rfl, b5⟩
  have HB := Lib.hid (HB.out.trans (b5.mono HB.out.size))
  have HS1 := Lib.hid (HS1.out.below b5)
  have HS2 := Lib.hid (HS2.out.below b5)
  have HV := Lib.hid (below_of b5 HV.out)
  have HU := Lib.hid (below_of b5 HU.out)
  clear b5
  have cv1 := conv_sl (c := c1) HS1.out
  have cv2 := conv_sl (c := c2) HS2.out
  have eg := Tryd.guardWo
  have ee := fun w => equal_wo v w
  generalize str (bs f n) = T at *
  go_wp2_with (first | (refine wpList_load_row_if rfl 25 _ rfl _ rfl 25 (wa v) (0, 0) _ HV.out Tryd.underlying25 rfl Tryd.infoWa ?_) | (refine wpList_load_row_if rfl 25 _ rfl _ rfl 25 (wa v) (0, 0) _ HU.out Tryd.underlying25 rfl Tryd.infoWa ?_))
  clear cv1 cv2
  refine (H5.out _).mono ?_
  rintro e w6 ⟨rfl, b6⟩
  have HB := Lib.hid (HB.out.trans (b6.mono HB.out.size))
  have HS1 := Lib.hid (HS1.out.below b6)
  have HS2 := Lib.hid (HS2.out.below b6)
  clear b6 HV HU eg ee
  have hb7 : Below w.heap.size w ((w6.alloc (.cells zA 40)).setRow w6.heap.size (aa (fun _ => 0))) := below_setRow (HB.out.alloc HB.out.size _) HB.out.size _
  have hr7 : ((w6.alloc (.cells zA 40)).setRow w6.heap.size (aa (fun _ => 0))).heap[w6.heap.size]? = some (.cells (aa (fun _ => 0)) 40) := blk_row (heap_alloc_new _ _)
  have bs7 : Below w6.heap.size w6 ((w6.alloc (.cells zA 40)).setRow w6.heap.size (aa (fun _ => 0))) := below_setRow (Joins.below_alloc1 w6 _) (Nat.le_refl _) _
  have HB := Lib.hid hb7
  have HR := Lib.hid hr7
  have HS2 := Lib.hid (HS2.out.below bs7)
  clear hb7 hr7 bs7 HS1
  have eg := Tryd.guardA
  have ee := fun w => equal_aa (fun _ => 0) w
  go_wp2_with (first | (refine wpList_alloc_row rfl 40 rfl zA zA_run ?_) | (refine wpList_store_row rfl 40 _ _ rfl _ zA (aa (fun _ => 0)) rfl rfl (heap_alloc_new _ _) (infoArrA _) rfl (arr_one _ _ _) ?_) | (refine wpList_load_row_if rfl 40 _ rfl _ rfl 40 (aa (fun _ => 0)) (0, 0) _ HR.out Tryd.underlying40 rfl (infoArrA _) ?_) | (refine wpList_build_zero rfl 40 rfl Tryd.underlying40 Tryd.sizeOf5 (aa (fun _ => 0)) zA_run ?_))
  go_ret
  exact ⟨rfl, HB.out⟩

set_option maxHeartbeats 4000000 in
theorem reads_short (s : ByteArray) (n v : Nat) (e2 : Int) (f : Nat → Nat) (w : World) (hs : s.size ≤ 3000) (hn : n < 20)
    (H1 : Hid (∀ w, Calls Tryd.prog 9 #[.string s] w (BytesOf n f 0 w)))
    (H2 : Hid (∀ w, Calls Tryd.prog 13 #[.string s] w (BytesOf n f 0 w)))
    (H3 : Hid (∀ w : World, Calls Tryd.prog 10 #[.string s] w fun e w' => e = .returned (.tuple #[wd v, .int .i64 e2]) ∧ Below w.heap.size w w'))
    (H4 : Hid (∀ w : World, Calls Tryd.prog 14 #[.string s] w fun e w' => e = .returned (.tuple #[wd v, .int .i64 e2]) ∧ Below w.heap.size w w'))
    (H5 : Hid (∀ w : World, Calls Tryd.prog 15 #[.string s] w fun e w' => e = .returned (.tuple #[.agg (aa (fun _ => 0)), .int .i64 3]) ∧ Below w.heap.size w w')) :
    Calls Tryd.prog 4 #[.string s] w fun e w' => e = .returned (.bool true) ∧ Below w.heap.size w w' := by
  go_enter Tryd.func4, Tryd.ntmps4
  go_wp2_with fail
  refine (H1.out _).mono ?_
  rintro e w1 ⟨A1, c1, rfl, hs1, b1⟩
  have HB := Lib.hid b1
  have HS1 := Lib.hid hs1
  clear b1 hs1
  go_wp2_with fail
  refine (H2.out _).mono ?_
  rintro e w2 ⟨A2, c2, rfl, hs2, b2⟩
  have HB := Lib.hid (HB.out.trans (b2.mono HB.out.size))
  have HS1 := Lib.hid (HS1.out.below b2)
  have HS2 := Lib.hid hs2
  clear b2 hs2
  go_wp2_with fail
  refine (H3.out _).mono ?_
  rintro e w3 ⟨rfl, b3⟩
  have HB := Lib.hid (HB.out.trans (b3.mono HB.out.size))
  have HS1 := Lib.hid (HS1.out.below b3)
  have HS2 := Lib.hid (HS2.out.below b3)
  clear b3
  have hst := store_word w3 v
  go_wp2_with fail
  clear hst
  have hv3 : (w3.alloc (.cells (wa v) 25)).heap[w3.heap.size]? = some (.cells (wa v) 25) := heap_alloc_new _ _
  have HB := Lib.hid (HB.out.alloc HB.out.size (.cells (wa v) 25))
  have HS1 := Lib.hid (HS1.out.below (Joins.below_alloc1 w3 (.cells (wa v) 25)))
  have HS2 := Lib.hid (HS2.out.below (Joins.below_alloc1 w3 (.cells (wa v) 25)))
  generalize w3.alloc (.cells (wa v) 25) = W3 at *
  generalize w3.heap.size = V at *
  have HV := Lib.hid hv3
  clear hv3
  refine (H4.out _).mono ?_
  rintro e w4 ⟨rfl, b4⟩
  have HB := Lib.hid (HB.out.trans (b4.mono HB.out.size))
  have HS1 := Lib.hid (HS1.out.below b4)
  have HS2 := Lib.hid (HS2.out.below b4)
  have HV := Lib.hid (below_of b4 HV.out)
  clear b4
  have hst := store_word w4 v
  go_wp2_with fail
  clear hst
  have hu5 : (w4.alloc (.cells (wa v) 25)).heap[w4.heap.size]? = some (.cells (wa v) 25) := heap_alloc_new _ _
  have HV := Lib.hid (blk_alloc (o' := .cells (wa v) 25) HV.out)
  have HB := Lib.hid (HB.out.alloc HB.out.size (.cells (wa v) 25))
  have HS1 := Lib.hid (HS1.out.below (Joins.below_alloc1 w4 (.cells (wa v) 25)))
  have HS2 := Lib.hid (HS2.out.below (Joins.below_alloc1 w4 (.cells (wa v) 25)))
  generalize w4.alloc (.cells (wa v) 25) = W4 at *
  generalize w4.heap.size = U at *
  have HU := Lib.hid hu5
  clear hu5
  refine (fixed_hex _).mono ?_
  rintro e w5 ⟨rfl, b5⟩
  have HB := Lib.hid (HB.out.trans (b5.mono HB.out.size))
  have HS1 := Lib.hid (HS1.out.below b5)
  have HS2 := Lib.hid (HS2.out.below b5)
  have HV := Lib.hid (below_of b5 HV.out)
  have HU := Lib.hid (below_of b5 HU.out)
  clear b5
  have cv1 := conv_sl (c := c1) HS1.out
  have cv2 := conv_sl (c := c2) HS2.out
  have eg := Tryd.guardWo
  have ee := fun w => equal_wo v w
  generalize str (bs f n) = T at *
  go_wp2_with (first | (refine wpList_load_row_if rfl 25 _ rfl _ rfl 25 (wa v) (0, 0) _ HV.out Tryd.underlying25 rfl Tryd.infoWa ?_) | (refine wpList_load_row_if rfl 25 _ rfl _ rfl 25 (wa v) (0, 0) _ HU.out Tryd.underlying25 rfl Tryd.infoWa ?_))
  clear cv1 cv2
  refine (H5.out _).mono ?_
  rintro e w6 ⟨rfl, b6⟩
  have HB := Lib.hid (HB.out.trans (b6.mono HB.out.size))
  have HS1 := Lib.hid (HS1.out.below b6)
  have HS2 := Lib.hid (HS2.out.below b6)
  clear b6 HV HU eg ee
  have hb7 : Below w.heap.size w ((w6.alloc (.cells zA 40)).setRow w6.heap.size (aa (fun _ => 0))) := below_setRow (HB.out.alloc HB.out.size _) HB.out.size _
  have hr7 : ((w6.alloc (.cells zA 40)).setRow w6.heap.size (aa (fun _ => 0))).heap[w6.heap.size]? = some (.cells (aa (fun _ => 0)) 40) := blk_row (heap_alloc_new _ _)
  have bs7 : Below w6.heap.size w6 ((w6.alloc (.cells zA 40)).setRow w6.heap.size (aa (fun _ => 0))) := below_setRow (Joins.below_alloc1 w6 _) (Nat.le_refl _) _
  have HB := Lib.hid hb7
  have HR := Lib.hid hr7
  have HS2 := Lib.hid (HS2.out.below bs7)
  clear hb7 hr7 bs7 HS1
  have eg := Tryd.guardA
  have ee := fun w => equal_aa (fun _ => 0) w
  go_wp2_with (first | (refine wpList_alloc_row rfl 40 rfl zA zA_run ?_) | (refine wpList_store_row rfl 40 _ _ rfl _ zA (aa (fun _ => 0)) rfl rfl (heap_alloc_new _ _) (infoArrA _) rfl (arr_one _ _ _) ?_) | (refine wpList_load_row_if rfl 40 _ rfl _ rfl 40 (aa (fun _ => 0)) (0, 0) _ HR.out Tryd.underlying40 rfl (infoArrA _) ?_) | (refine wpList_build_zero rfl 40 rfl Tryd.underlying40 Tryd.sizeOf5 (aa (fun _ => 0)) zA_run ?_))
  go_ret
  exact ⟨rfl, HB.out⟩

set_option maxHeartbeats 4000000 in
theorem reads_long (s : ByteArray) (n v : Nat) (e2 : Int) (f : Nat → Nat) (w : World) (hs : s.size ≤ 3000) (hn : 20 < n) (hn2 : n ≤ 1000000)
    (H1 : Hid (∀ w, Calls Tryd.prog 9 #[.string s] w (BytesOf n f 0 w)))
    (H2 : Hid (∀ w, Calls Tryd.prog 13 #[.string s] w (BytesOf n f 0 w)))
    (H3 : Hid (∀ w : World, Calls Tryd.prog 10 #[.string s] w fun e w' => e = .returned (.tuple #[wd v, .int .i64 e2]) ∧ Below w.heap.size w w'))
    (H4 : Hid (∀ w : World, Calls Tryd.prog 14 #[.string s] w fun e w' => e = .returned (.tuple #[wd v, .int .i64 e2]) ∧ Below w.heap.size w w'))
    (H5 : Hid (∀ w : World, Calls Tryd.prog 15 #[.string s] w fun e w' => e = .returned (.tuple #[.agg (aa (fun _ => 0)), .int .i64 4]) ∧ Below w.heap.size w w')) :
    Calls Tryd.prog 4 #[.string s] w fun e w' => e = .returned (.bool true) ∧ Below w.heap.size w w' := by
  go_enter Tryd.func4, Tryd.ntmps4
  go_wp2_with fail
  refine (H1.out _).mono ?_
  rintro e w1 ⟨A1, c1, rfl, hs1, b1⟩
  have HB := Lib.hid b1
  have HS1 := Lib.hid hs1
  clear b1 hs1
  go_wp2_with fail
  refine (H2.out _).mono ?_
  rintro e w2 ⟨A2, c2, rfl, hs2, b2⟩
  have HB := Lib.hid (HB.out.trans (b2.mono HB.out.size))
  have HS1 := Lib.hid (HS1.out.below b2)
  have HS2 := Lib.hid hs2
  clear b2 hs2
  go_wp2_with fail
  refine (H3.out _).mono ?_
  rintro e w3 ⟨rfl, b3⟩
  have HB := Lib.hid (HB.out.trans (b3.mono HB.out.size))
  have HS1 := Lib.hid (HS1.out.below b3)
  have HS2 := Lib.hid (HS2.out.below b3)
  clear b3
  have hst := store_word w3 v
  go_wp2_with fail
  clear hst
  have hv3 : (w3.alloc (.cells (wa v) 25)).heap[w3.heap.size]? = some (.cells (wa v) 25) := heap_alloc_new _ _
  have HB := Lib.hid (HB.out.alloc HB.out.size (.cells (wa v) 25))
  have HS1 := Lib.hid (HS1.out.below (Joins.below_alloc1 w3 (.cells (wa v) 25)))
  have HS2 := Lib.hid (HS2.out.below (Joins.below_alloc1 w3 (.cells (wa v) 25)))
  generalize w3.alloc (.cells (wa v) 25) = W3 at *
  generalize w3.heap.size = V at *
  have HV := Lib.hid hv3
  clear hv3
  refine (H4.out _).mono ?_
  rintro e w4 ⟨rfl, b4⟩
  have HB := Lib.hid (HB.out.trans (b4.mono HB.out.size))
  have HS1 := Lib.hid (HS1.out.below b4)
  have HS2 := Lib.hid (HS2.out.below b4)
  have HV := Lib.hid (below_of b4 HV.out)
  clear b4
  have hst := store_word w4 v
  go_wp2_with fail
  clear hst
  have hu5 : (w4.alloc (.cells (wa v) 25)).heap[w4.heap.size]? = some (.cells (wa v) 25) := heap_alloc_new _ _
  have HV := Lib.hid (blk_alloc (o' := .cells (wa v) 25) HV.out)
  have HB := Lib.hid (HB.out.alloc HB.out.size (.cells (wa v) 25))
  have HS1 := Lib.hid (HS1.out.below (Joins.below_alloc1 w4 (.cells (wa v) 25)))
  have HS2 := Lib.hid (HS2.out.below (Joins.below_alloc1 w4 (.cells (wa v) 25)))
  generalize w4.alloc (.cells (wa v) 25) = W4 at *
  generalize w4.heap.size = U at *
  have HU := Lib.hid hu5
  clear hu5
  refine (fixed_hex _).mono ?_
  rintro e w5 ⟨rfl, b5⟩
  have HB := Lib.hid (HB.out.trans (b5.mono HB.out.size))
  have HS1 := Lib.hid (HS1.out.below b5)
  have HS2 := Lib.hid (HS2.out.below b5)
  have HV := Lib.hid (below_of b5 HV.out)
  have HU := Lib.hid (below_of b5 HU.out)
  clear b5
  have cv1 := conv_sl (c := c1) HS1.out
  have cv2 := conv_sl (c := c2) HS2.out
  have eg := Tryd.guardWo
  have ee := fun w => equal_wo v w
  generalize str (bs f n) = T at *
  go_wp2_with (first | (refine wpList_load_row_if rfl 25 _ rfl _ rfl 25 (wa v) (0, 0) _ HV.out Tryd.underlying25 rfl Tryd.infoWa ?_) | (refine wpList_load_row_if rfl 25 _ rfl _ rfl 25 (wa v) (0, 0) _ HU.out Tryd.underlying25 rfl Tryd.infoWa ?_))
  clear cv1 cv2
  refine (H5.out _).mono ?_
  rintro e w6 ⟨rfl, b6⟩
  have HB := Lib.hid (HB.out.trans (b6.mono HB.out.size))
  have HS1 := Lib.hid (HS1.out.below b6)
  have HS2 := Lib.hid (HS2.out.below b6)
  clear b6 HV HU eg ee
  have hb7 : Below w.heap.size w ((w6.alloc (.cells zA 40)).setRow w6.heap.size (aa (fun _ => 0))) := below_setRow (HB.out.alloc HB.out.size _) HB.out.size _
  have hr7 : ((w6.alloc (.cells zA 40)).setRow w6.heap.size (aa (fun _ => 0))).heap[w6.heap.size]? = some (.cells (aa (fun _ => 0)) 40) := blk_row (heap_alloc_new _ _)
  have bs7 : Below w6.heap.size w6 ((w6.alloc (.cells zA 40)).setRow w6.heap.size (aa (fun _ => 0))) := below_setRow (Joins.below_alloc1 w6 _) (Nat.le_refl _) _
  have HB := Lib.hid hb7
  have HR := Lib.hid hr7
  have HS2 := Lib.hid (HS2.out.below bs7)
  clear hb7 hr7 bs7 HS1
  have eg := Tryd.guardA
  have ee := fun w => equal_aa (fun _ => 0) w
  go_wp2_with (first | (refine wpList_alloc_row rfl 40 rfl zA zA_run ?_) | (refine wpList_store_row rfl 40 _ _ rfl _ zA (aa (fun _ => 0)) rfl rfl (heap_alloc_new _ _) (infoArrA _) rfl (arr_one _ _ _) ?_) | (refine wpList_load_row_if rfl 40 _ rfl _ rfl 40 (aa (fun _ => 0)) (0, 0) _ HR.out Tryd.underlying40 rfl (infoArrA _) ?_) | (refine wpList_build_zero rfl 40 rfl Tryd.underlying40 Tryd.sizeOf5 (aa (fun _ => 0)) zA_run ?_))
  go_ret
  exact ⟨rfl, HB.out⟩

set_option maxHeartbeats 4000000 in
theorem reads_ok (s : ByteArray) (n v : Nat) (e2 : Int) (f : Nat → Nat) (w : World) (hs : s.size ≤ 3000) (hn : n = 20) (hf : Hid (∀ i, i < 20 → f i < 256))
    (H1 : Hid (∀ w, Calls Tryd.prog 9 #[.string s] w (BytesOf n f 0 w)))
    (H2 : Hid (∀ w, Calls Tryd.prog 13 #[.string s] w (BytesOf n f 0 w)))
    (H3 : Hid (∀ w : World, Calls Tryd.prog 10 #[.string s] w fun e w' => e = .returned (.tuple #[wd v, .int .i64 e2]) ∧ Below w.heap.size w w'))
    (H4 : Hid (∀ w : World, Calls Tryd.prog 14 #[.string s] w fun e w' => e = .returned (.tuple #[wd v, .int .i64 e2]) ∧ Below w.heap.size w w'))
    (H5 : Hid (∀ w : World, Calls Tryd.prog 15 #[.string s] w fun e w' => e = .returned (.tuple #[.agg (aa f), .int .i64 0]) ∧ Below w.heap.size w w')) :
    Calls Tryd.prog 4 #[.string s] w fun e w' => e = .returned (.bool true) ∧ Below w.heap.size w w' := by
  subst hn
  go_enter Tryd.func4, Tryd.ntmps4
  go_wp2_with fail
  refine (H1.out _).mono ?_
  rintro e w1 ⟨A1, c1, rfl, hs1, b1⟩
  have HB := Lib.hid b1
  have HS1 := Lib.hid hs1
  clear b1 hs1
  go_wp2_with fail
  refine (H2.out _).mono ?_
  rintro e w2 ⟨A2, c2, rfl, hs2, b2⟩
  have HB := Lib.hid (HB.out.trans (b2.mono HB.out.size))
  have HS1 := Lib.hid (HS1.out.below b2)
  have HS2 := Lib.hid hs2
  clear b2 hs2
  go_wp2_with fail
  refine (H3.out _).mono ?_
  rintro e w3 ⟨rfl, b3⟩
  have HB := Lib.hid (HB.out.trans (b3.mono HB.out.size))
  have HS1 := Lib.hid (HS1.out.below b3)
  have HS2 := Lib.hid (HS2.out.below b3)
  clear b3
  have hst := store_word w3 v
  go_wp2_with fail
  clear hst
  have hv3 : (w3.alloc (.cells (wa v) 25)).heap[w3.heap.size]? = some (.cells (wa v) 25) := heap_alloc_new _ _
  have HB := Lib.hid (HB.out.alloc HB.out.size (.cells (wa v) 25))
  have HS1 := Lib.hid (HS1.out.below (Joins.below_alloc1 w3 (.cells (wa v) 25)))
  have HS2 := Lib.hid (HS2.out.below (Joins.below_alloc1 w3 (.cells (wa v) 25)))
  generalize w3.alloc (.cells (wa v) 25) = W3 at *
  generalize w3.heap.size = V at *
  have HV := Lib.hid hv3
  clear hv3
  refine (H4.out _).mono ?_
  rintro e w4 ⟨rfl, b4⟩
  have HB := Lib.hid (HB.out.trans (b4.mono HB.out.size))
  have HS1 := Lib.hid (HS1.out.below b4)
  have HS2 := Lib.hid (HS2.out.below b4)
  have HV := Lib.hid (below_of b4 HV.out)
  clear b4
  have hst := store_word w4 v
  go_wp2_with fail
  clear hst
  have hu5 : (w4.alloc (.cells (wa v) 25)).heap[w4.heap.size]? = some (.cells (wa v) 25) := heap_alloc_new _ _
  have HV := Lib.hid (blk_alloc (o' := .cells (wa v) 25) HV.out)
  have HB := Lib.hid (HB.out.alloc HB.out.size (.cells (wa v) 25))
  have HS1 := Lib.hid (HS1.out.below (Joins.below_alloc1 w4 (.cells (wa v) 25)))
  have HS2 := Lib.hid (HS2.out.below (Joins.below_alloc1 w4 (.cells (wa v) 25)))
  generalize w4.alloc (.cells (wa v) 25) = W4 at *
  generalize w4.heap.size = U at *
  have HU := Lib.hid hu5
  clear hu5
  refine (fixed_hex _).mono ?_
  rintro e w5 ⟨rfl, b5⟩
  have HB := Lib.hid (HB.out.trans (b5.mono HB.out.size))
  have HS1 := Lib.hid (HS1.out.below b5)
  have HS2 := Lib.hid (HS2.out.below b5)
  have HV := Lib.hid (below_of b5 HV.out)
  have HU := Lib.hid (below_of b5 HU.out)
  clear b5
  have cv1 := conv_sl (c := c1) HS1.out
  have cv2 := conv_sl (c := c2) HS2.out
  have eg := Tryd.guardWo
  have ee := fun w => equal_wo v w
  go_wp2_with (first | (refine wpList_load_row_if rfl 25 _ rfl _ rfl 25 (wa v) (0, 0) _ HV.out Tryd.underlying25 rfl Tryd.infoWa ?_) | (refine wpList_load_row_if rfl 25 _ rfl _ rfl 25 (wa v) (0, 0) _ HU.out Tryd.underlying25 rfl Tryd.infoWa ?_))
  clear cv1 cv2
  refine (H5.out _).mono ?_
  rintro e w6 ⟨rfl, b6⟩
  have HB := Lib.hid (HB.out.trans (b6.mono HB.out.size))
  have HS1 := Lib.hid (HS1.out.below b6)
  have HS2 := Lib.hid (HS2.out.below b6)
  clear b6 HV HU eg ee
  have hb7 : Below w.heap.size w ((w6.alloc (.cells zA 40)).setRow w6.heap.size (aa f)) := below_setRow (HB.out.alloc HB.out.size _) HB.out.size _
  have hr7 : ((w6.alloc (.cells zA 40)).setRow w6.heap.size (aa f)).heap[w6.heap.size]? = some (.cells (aa f) 40) := blk_row (heap_alloc_new _ _)
  have bs7 : Below w6.heap.size w6 ((w6.alloc (.cells zA 40)).setRow w6.heap.size (aa f)) := below_setRow (Joins.below_alloc1 w6 _) (Nat.le_refl _) _
  have HB := Lib.hid hb7
  have HR := Lib.hid hr7
  have HS2 := Lib.hid (HS2.out.below bs7)
  clear hb7 hr7 bs7 HS1
  have eg := Tryd.guardA
  have ee := fun w => equal_aa f w
  go_upto_region 16 with (first | (refine wpList_alloc_row rfl 40 rfl zA zA_run ?_) | (refine wpList_store_row rfl 40 _ _ rfl _ zA (aa f) rfl rfl (heap_alloc_new _ _) (infoArrA _) rfl (arr_one _ _ _) ?_))
  generalize (w6.alloc (.cells zA 40)).setRow w6.heap.size (aa f) = W7 at *
  generalize w6.heap.size = R at *
  have cv3 := fun q => conv_sl (c := 20) ((aa_sl HR.out hf.out).below (Joins.below_draws _ _ q))
  have cv4 := fun q => conv_sl (c := c2) (HS2.out.below (Joins.below_draws _ _ q))
  generalize str (bs f 20) = T at *
  clear eg ee
  go_quiet (fail)
  go_wp2_with fail
  go_ret
  exact ⟨rfl, HB.out.trans (Joins.below_draws _ _ _)⟩

end Go.Proofs.YtlplncfonphkeaaDoor
