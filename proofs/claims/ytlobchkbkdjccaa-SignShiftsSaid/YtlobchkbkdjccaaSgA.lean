/- What the functions Below, Neg, size, Less, Sar and Extend of package sign do, in numbers; all older memory is as it was. -/
import Derived.Test.YtlobchkbkdjccaaWideA
import Derived.Test.YtlobchkbkdjccaaPartA
import Derived.Test.YtlobchkbkdjccaaSgM
import Derived.Test.YtlobchkbkdjccaaMk
import Derived.Test.YtlobchkbkdjccaaSeq
namespace Go.Proofs.Ytlobchkbkdjccaa
open Go.RowKit SmWord
set_option maxRecDepth 100000

set_option maxHeartbeats 1000000 in
theorem below_walk (a : Nat) (p : Bool) (w : World) (H : Hid (∀ w : World, Calls Try.prog 36 #[wd a, .int .u64 255] w fun e w' => e = .returned (.bool p) ∧ Below w.heap.size w w')) :
    Calls Try.prog 11 #[wd a] w fun e w' => e = .returned (.bool p) ∧ Below w.heap.size w w' := by
  go_enter Try.func11, Try.ntmps11
  have hsz := wa_size
  go_upto_region 1 with fail
  have f1 : (w.alloc (.cells (wa a) 24)).heap[w.heap.size]? = some (.cells (wa a) 24) := blk_new _ rfl
  have bW : Below w.heap.size w (w.alloc (.cells (wa a) 24)) := ((Below.refl _ _).alloc (Nat.le_refl _) _)
  have sW : w.heap.size + 1 ≤ (w.alloc (.cells (wa a) 24)).heap.size := by simp
  generalize (w.alloc (.cells (wa a) 24)) = W at *
  go_wp2_with (refine wpList_load_row rfl 24 _ rfl _ rfl 24 _ (0, 0) _ (by assumption) Try.underlying24 rfl Try.infoWa ?_)
  refine (H.out _).mono ?_
  rintro e w1 ⟨rfl, b1⟩
  replace f1 := Below.stays b1 f1
  replace bW := bW.trans (b1.mono bW.size)
  replace sW := Nat.le_trans sW b1.size
  clear b1
  go_wp2
  go_ret
  exact ⟨rfl, bW⟩
theorem below_wd (a : Nat) (w : World) : Calls Try.prog 11 #[wd a] w fun e w' => e = .returned (.bool (bel a)) ∧ Below w.heap.size w w' :=
  below_walk a _ w (Lib.hid fun w => by
    have := wbit_wd a 255 w (by decide)
    rw [bel_bitD] at this
    exact this)

set_option maxHeartbeats 1000000 in
theorem sneg_walk (a t : Nat) (w : World) (H : Hid (∀ w : World, Calls Try.prog 37 #[wd 0, wd a] w fun e w' => e = .returned (wd t) ∧ Below w.heap.size w w')) :
    Calls Try.prog 13 #[wd a] w fun e w' => e = .returned (wd t) ∧ Below w.heap.size w w' := by
  have hz := z4_wa
  have hsz := wa_size
  go_enter Try.func13, Try.ntmps13
  go_upto_region 1 with fail
  have f1 : ((w.alloc (.cells (wa a) 24)).alloc (.cells (wa 0) 24)).heap[w.heap.size]? = some (.cells (wa a) 24) := blk_alloc (blk_new _ rfl)
  have f2 : ((w.alloc (.cells (wa a) 24)).alloc (.cells (wa 0) 24)).heap[w.heap.size + 1]? = some (.cells (wa 0) 24) := blk_new _ (by simp)
  have bW : Below w.heap.size w ((w.alloc (.cells (wa a) 24)).alloc (.cells (wa 0) 24)) := (((Below.refl _ _).alloc (Nat.le_refl _) _).alloc (by simp <;> omega) _)
  have sW : w.heap.size + 2 ≤ ((w.alloc (.cells (wa a) 24)).alloc (.cells (wa 0) 24)).heap.size := by simp
  generalize ((w.alloc (.cells (wa a) 24)).alloc (.cells (wa 0) 24)) = W at *
  go_wp2_with (refine wpList_load_row rfl 24 _ rfl _ rfl 24 _ (0, 0) _ (by assumption) Try.underlying24 rfl Try.infoWa ?_)
  refine (H.out _).mono ?_
  rintro e w1 ⟨rfl, b1⟩
  replace f1 := Below.stays b1 f1
  replace f2 := Below.stays b1 f2
  replace bW := bW.trans (b1.mono bW.size)
  replace sW := Nat.le_trans sW b1.size
  clear b1
  go_wp2_with (refine wpList_store_row rfl 24 (.tmp 2) _ rfl _ _ (wa t) rfl rfl f2 Try.infoWa rfl wa_one ?_)
  have e2 := word_cells (blk_row (c' := wa t) f2)
  exact bodyPost_ret (v := wd t) (by simp [results, Try.results13, go_sem, e2, fold_wa]) rfl ⟨rfl, below_setRow bW (by omega) _⟩
theorem sneg_wd (a : Nat) (w : World) : Calls Try.prog 13 #[wd a] w fun e w' => e = .returned (wd (ng a)) ∧ Below w.heap.size w w' :=
  sneg_walk a _ w (Lib.hid fun w => sub_wd 0 a (ng a) w (ng_sub a))

set_option maxHeartbeats 1000000 in
theorem size_walk0 (a : Nat) (w : World) (H1 : Hid (∀ w : World, Calls Try.prog 11 #[wd a] w fun e w' => e = .returned (.bool false) ∧ Below w.heap.size w w')) :
    Calls Try.prog 30 #[wd a] w fun e w' => e = .returned (wd a) ∧ Below w.heap.size w w' := by
  have hz := z4_wa
  have hsz := wa_size
  go_enter Try.func30, Try.ntmps30
  go_upto_region 1 with fail
  have f1 : ((w.alloc (.cells (wa a) 24)).alloc (.cells (wa 0) 24)).heap[w.heap.size]? = some (.cells (wa a) 24) := blk_alloc (blk_new _ rfl)
  have f2 : ((w.alloc (.cells (wa a) 24)).alloc (.cells (wa 0) 24)).heap[w.heap.size + 1]? = some (.cells (wa 0) 24) := blk_new _ (by simp)
  have bW : Below w.heap.size w ((w.alloc (.cells (wa a) 24)).alloc (.cells (wa 0) 24)) := (((Below.refl _ _).alloc (Nat.le_refl _) _).alloc (by simp <;> omega) _)
  have sW : w.heap.size + 2 ≤ ((w.alloc (.cells (wa a) 24)).alloc (.cells (wa 0) 24)).heap.size := by simp
  generalize ((w.alloc (.cells (wa a) 24)).alloc (.cells (wa 0) 24)) = W at *
  go_wp2_with (refine wpList_load_row rfl 24 _ rfl _ rfl 24 _ (0, 0) _ (by assumption) Try.underlying24 rfl Try.infoWa ?_)
  refine (H1.out _).mono ?_
  rintro e w1 ⟨rfl, b1⟩
  replace f1 := Below.stays b1 f1
  replace f2 := Below.stays b1 f2
  replace bW := bW.trans (b1.mono bW.size)
  replace sW := Nat.le_trans sW b1.size
  clear b1
  go_wp2_with (first | (refine wpList_load_row rfl 24 _ rfl _ rfl 24 _ (0, 0) _ (by assumption) Try.underlying24 rfl Try.infoWa ?_) | (refine wpList_store_row rfl 24 (.tmp 2) _ rfl _ _ (wa a) rfl rfl f2 Try.infoWa rfl wa_one ?_))
  have e2 := word_cells (blk_row (c' := wa a) f2)
  exact bodyPost_ret (v := wd a) (by simp [results, Try.results30, go_sem, e2, fold_wa]) rfl ⟨rfl, below_setRow bW (by omega) _⟩

set_option maxHeartbeats 1000000 in
theorem size_walk1 (a t : Nat) (w : World) (H1 : Hid (∀ w : World, Calls Try.prog 11 #[wd a] w fun e w' => e = .returned (.bool true) ∧ Below w.heap.size w w')) (H2 : Hid (∀ w : World, Calls Try.prog 13 #[wd a] w fun e w' => e = .returned (wd t) ∧ Below w.heap.size w w')) :
    Calls Try.prog 30 #[wd a] w fun e w' => e = .returned (wd t) ∧ Below w.heap.size w w' := by
  have hz := z4_wa
  have hsz := wa_size
  go_enter Try.func30, Try.ntmps30
  go_upto_region 1 with fail
  have f1 : ((w.alloc (.cells (wa a) 24)).alloc (.cells (wa 0) 24)).heap[w.heap.size]? = some (.cells (wa a) 24) := blk_alloc (blk_new _ rfl)
  have f2 : ((w.alloc (.cells (wa a) 24)).alloc (.cells (wa 0) 24)).heap[w.heap.size + 1]? = some (.cells (wa 0) 24) := blk_new _ (by simp)
  have bW : Below w.heap.size w ((w.alloc (.cells (wa a) 24)).alloc (.cells (wa 0) 24)) := (((Below.refl _ _).alloc (Nat.le_refl _) _).alloc (by simp <;> omega) _)
  have sW : w.heap.size + 2 ≤ ((w.alloc (.cells (wa a) 24)).alloc (.cells (wa 0) 24)).heap.size := by simp
  generalize ((w.alloc (.cells (wa a) 24)).alloc (.cells (wa 0) 24)) = W at *
  go_wp2_with (refine wpList_load_row rfl 24 _ rfl _ rfl 24 _ (0, 0) _ (by assumption) Try.underlying24 rfl Try.infoWa ?_)
  refine (H1.out _).mono ?_
  rintro e w1 ⟨rfl, b1⟩
  replace f1 := Below.stays b1 f1
  replace f2 := Below.stays b1 f2
  replace bW := bW.trans (b1.mono bW.size)
  replace sW := Nat.le_trans sW b1.size
  clear b1
  go_wp2_with (refine wpList_load_row rfl 24 _ rfl _ rfl 24 _ (0, 0) _ (by assumption) Try.underlying24 rfl Try.infoWa ?_)
  refine (H2.out _).mono ?_
  rintro e w2 ⟨rfl, b1⟩
  replace f1 := Below.stays b1 f1
  replace f2 := Below.stays b1 f2
  replace bW := bW.trans (b1.mono bW.size)
  replace sW := Nat.le_trans sW b1.size
  clear b1
  go_wp2_with (refine wpList_store_row rfl 24 (.tmp 2) _ rfl _ _ (wa t) rfl rfl f2 Try.infoWa rfl wa_one ?_)
  have e2 := word_cells (blk_row (c' := wa t) f2)
  exact bodyPost_ret (v := wd t) (by simp [results, Try.results30, go_sem, e2, fold_wa]) rfl ⟨rfl, below_setRow bW (by omega) _⟩
theorem ssize_wd (a : Nat) (w : World) : Calls Try.prog 30 #[wd a] w fun e w' => e = .returned (wd (sz a)) ∧ Below w.heap.size w w' := by
  have hb := fun w => below_wd a w
  unfold sz
  cases h : bel a
  · rw [h] at hb
    exact size_walk0 a w (Lib.hid hb)
  · rw [h] at hb
    exact size_walk1 a _ w (Lib.hid hb) (Lib.hid fun w => sneg_wd a w)

set_option maxHeartbeats 2000000 in
theorem sless_ne (a b : Nat) (p : Bool) (w : World) (H1 : Hid (∀ w : World, Calls Try.prog 11 #[wd a] w fun e w' => e = .returned (.bool p) ∧ Below w.heap.size w w')) (H2 : Hid (∀ w : World, Calls Try.prog 11 #[wd b] w fun e w' => e = .returned (.bool (!p)) ∧ Below w.heap.size w w')) :
    Calls Try.prog 21 #[wd a, wd b] w fun e w' => e = .returned (.bool p) ∧ Below w.heap.size w w' := by
  cases p
  all_goals
    simp only [Bool.not_false, Bool.not_true] at H2
    have hsz := wa_size
    go_enter Try.func21, Try.ntmps21
    go_upto_region 1 with fail
    have f2 : ((w.alloc (.cells (wa a) 24)).alloc (.cells (wa b) 24)).heap[w.heap.size]? = some (.cells (wa a) 24) := blk_alloc (blk_new _ rfl)
    have f3 : ((w.alloc (.cells (wa a) 24)).alloc (.cells (wa b) 24)).heap[w.heap.size + 1]? = some (.cells (wa b) 24) := blk_new _ (by simp)
    have bW : Below w.heap.size w ((w.alloc (.cells (wa a) 24)).alloc (.cells (wa b) 24)) := (((Below.refl _ _).alloc (Nat.le_refl _) _).alloc (by simp <;> omega) _)
    have sW : w.heap.size + 2 ≤ ((w.alloc (.cells (wa a) 24)).alloc (.cells (wa b) 24)).heap.size := by simp
    generalize ((w.alloc (.cells (wa a) 24)).alloc (.cells (wa b) 24)) = W at *
    have g2 := fun g : Ext W => g.word f2
    have g3 := fun g : Ext W => g.word f3
    have fo := fold_wa
    refine region_ext (by kernel_rfl) (by kernel_rfl) ?_
    repeat (go_big_quiet_step ((go_at_call 11; first | with_reducible exact calls_ext (H1.out _) | with_reducible exact calls_ext (H2.out _))))
    refine wpQuiet_nil ?_
    rintro _ ⟨g, rfl⟩
    replace f2 := Below.stays g.below f2
    replace f3 := Below.stays g.below f3
    replace bW := bW.trans (g.below.mono bW.size)
    clear g2 g3 fo
    generalize g.on = w1 at *
    go_wp2_with (refine wpList_load_row rfl 24 _ rfl _ rfl 24 _ (0, 0) _ (by assumption) Try.underlying24 rfl Try.infoWa ?_)
    refine (H1.out _).mono ?_
    rintro e w2 ⟨rfl, b1⟩
    go_wp2
    go_ret
    exact ⟨rfl, bW.trans (b1.mono bW.size)⟩

set_option maxHeartbeats 2000000 in
theorem sless_eq (a b : Nat) (p : Bool) (z : Int) (w : World) (H1 : Hid (∀ w : World, Calls Try.prog 11 #[wd a] w fun e w' => e = .returned (.bool p) ∧ Below w.heap.size w w')) (H2 : Hid (∀ w : World, Calls Try.prog 11 #[wd b] w fun e w' => e = .returned (.bool p) ∧ Below w.heap.size w w')) (H3 : Hid (∀ w : World, Calls Try.prog 38 #[wd a, wd b] w fun e w' => e = .returned (.int .i64 z) ∧ Below w.heap.size w w')) :
    Calls Try.prog 21 #[wd a, wd b] w fun e w' => e = .returned (.bool (decide (z < 0))) ∧ Below w.heap.size w w' := by
  cases p
  all_goals
    have hsz := wa_size
    go_enter Try.func21, Try.ntmps21
    go_upto_region 1 with fail
    have f2 : ((w.alloc (.cells (wa a) 24)).alloc (.cells (wa b) 24)).heap[w.heap.size]? = some (.cells (wa a) 24) := blk_alloc (blk_new _ rfl)
    have f3 : ((w.alloc (.cells (wa a) 24)).alloc (.cells (wa b) 24)).heap[w.heap.size + 1]? = some (.cells (wa b) 24) := blk_new _ (by simp)
    have bW : Below w.heap.size w ((w.alloc (.cells (wa a) 24)).alloc (.cells (wa b) 24)) := (((Below.refl _ _).alloc (Nat.le_refl _) _).alloc (by simp <;> omega) _)
    have sW : w.heap.size + 2 ≤ ((w.alloc (.cells (wa a) 24)).alloc (.cells (wa b) 24)).heap.size := by simp
    generalize ((w.alloc (.cells (wa a) 24)).alloc (.cells (wa b) 24)) = W at *
    have g2 := fun g : Ext W => g.word f2
    have g3 := fun g : Ext W => g.word f3
    have fo := fold_wa
    refine region_ext (by kernel_rfl) (by kernel_rfl) ?_
    repeat (go_big_quiet_step ((go_at_call 11; first | with_reducible exact calls_ext (H1.out _) | with_reducible exact calls_ext (H2.out _))))
    refine wpQuiet_nil ?_
    rintro _ ⟨g, rfl⟩
    replace f2 := Below.stays g.below f2
    replace f3 := Below.stays g.below f3
    replace bW := bW.trans (g.below.mono bW.size)
    clear g2 g3 fo
    generalize g.on = w1 at *
    go_wp2_with (refine wpList_load_row rfl 24 _ rfl _ rfl 24 _ (0, 0) _ (by assumption) Try.underlying24 rfl Try.infoWa ?_)
    refine (H3.out _).mono ?_
    rintro e w2 ⟨rfl, b1⟩
    go_wp2
    go_ret
    exact ⟨rfl, bW.trans (b1.mono bW.size)⟩
theorem cmpN_neg (m n : Nat) : decide (cmpN m n < 0) = decide (m < n) := by
  unfold cmpN
  rw [Bool.eq_iff_iff, decide_eq_true_iff, decide_eq_true_iff]
  split
  · omega
  · split <;> omega
theorem sless_wd (a b : Nat) (w : World) : Calls Try.prog 21 #[wd a, wd b] w fun e w' => e = .returned (.bool (sless a b)) ∧ Below w.heap.size w w' := by
  have h1 := fun w => below_wd a w
  have h2 := fun w => below_wd b w
  rw [less_eq]
  by_cases h : bel a = bel b
  · rw [if_neg (by simp [h]), ← cmpN_neg]
    rw [← h] at h2
    exact sless_eq a b _ _ w (Lib.hid h1) (Lib.hid h2) (Lib.hid fun w => compare_wd a b w)
  · have e : bel b = !bel a := by cases hA : bel a <;> cases hB : bel b <;> simp_all
    rw [if_pos (by simp [h])]
    rw [e] at h2
    exact sless_ne a b _ w (Lib.hid h1) (Lib.hid h2)

set_option maxHeartbeats 1000000 in
theorem sar_walk0 (a t : Nat) (n : Int) (w : World) (H1 : Hid (∀ w : World, Calls Try.prog 11 #[wd a] w fun e w' => e = .returned (.bool false) ∧ Below w.heap.size w w')) (H2 : Hid (∀ w : World, Calls Try.prog 41 #[wd a, .int .u64 n] w fun e w' => e = .returned (wd t) ∧ Below w.heap.size w w')) :
    Calls Try.prog 25 #[wd a, .int .u64 n] w fun e w' => e = .returned (wd t) ∧ Below w.heap.size w w' := by
  have hz := z4_wa
  have hsz := wa_size
  go_enter Try.func25, Try.ntmps25
  go_upto_region 1 with fail
  have f2 : ((w.alloc (.cells (wa a) 24)).alloc (.cells (wa 0) 24)).heap[w.heap.size]? = some (.cells (wa a) 24) := blk_alloc (blk_new _ rfl)
  have f4 : ((w.alloc (.cells (wa a) 24)).alloc (.cells (wa 0) 24)).heap[w.heap.size + 1]? = some (.cells (wa 0) 24) := blk_new _ (by simp)
  have bW : Below w.heap.size w ((w.alloc (.cells (wa a) 24)).alloc (.cells (wa 0) 24)) := (((Below.refl _ _).alloc (Nat.le_refl _) _).alloc (by simp <;> omega) _)
  have sW : w.heap.size + 2 ≤ ((w.alloc (.cells (wa a) 24)).alloc (.cells (wa 0) 24)).heap.size := by simp
  generalize ((w.alloc (.cells (wa a) 24)).alloc (.cells (wa 0) 24)) = W at *
  go_wp2_with (refine wpList_load_row rfl 24 _ rfl _ rfl 24 _ (0, 0) _ (by assumption) Try.underlying24 rfl Try.infoWa ?_)
  refine (H1.out _).mono ?_
  rintro e w1 ⟨rfl, b1⟩
  replace f2 := Below.stays b1 f2
  replace f4 := Below.stays b1 f4
  replace bW := bW.trans (b1.mono bW.size)
  replace sW := Nat.le_trans sW b1.size
  clear b1
  go_wp2_with (refine wpList_load_row rfl 24 _ rfl _ rfl 24 _ (0, 0) _ (by assumption) Try.underlying24 rfl Try.infoWa ?_)
  refine (H2.out _).mono ?_
  rintro e w2 ⟨rfl, b1⟩
  replace f2 := Below.stays b1 f2
  replace f4 := Below.stays b1 f4
  replace bW := bW.trans (b1.mono bW.size)
  replace sW := Nat.le_trans sW b1.size
  clear b1
  go_wp2_with (refine wpList_store_row rfl 24 (.tmp 4) _ rfl _ _ (wa t) rfl rfl f4 Try.infoWa rfl wa_one ?_)
  have e2 := word_cells (blk_row (c' := wa t) f4)
  exact bodyPost_ret (v := wd t) (by simp [results, Try.results25, go_sem, e2, fold_wa]) rfl ⟨rfl, below_setRow bW (by omega) _⟩

set_option maxHeartbeats 1000000 in
theorem sar_walk1 (a x y t : Nat) (n : Int) (w : World) (H1 : Hid (∀ w : World, Calls Try.prog 11 #[wd a] w fun e w' => e = .returned (.bool true) ∧ Below w.heap.size w w')) (H2 : Hid (∀ w : World, Calls Try.prog 42 #[wd a] w fun e w' => e = .returned (wd x) ∧ Below w.heap.size w w')) (H3 : Hid (∀ w : World, Calls Try.prog 41 #[wd x, .int .u64 n] w fun e w' => e = .returned (wd y) ∧ Below w.heap.size w w')) (H4 : Hid (∀ w : World, Calls Try.prog 42 #[wd y] w fun e w' => e = .returned (wd t) ∧ Below w.heap.size w w')) :
    Calls Try.prog 25 #[wd a, .int .u64 n] w fun e w' => e = .returned (wd t) ∧ Below w.heap.size w w' := by
  have hz := z4_wa
  have hsz := wa_size
  go_enter Try.func25, Try.ntmps25
  go_upto_region 1 with fail
  have f2 : ((w.alloc (.cells (wa a) 24)).alloc (.cells (wa 0) 24)).heap[w.heap.size]? = some (.cells (wa a) 24) := blk_alloc (blk_new _ rfl)
  have f4 : ((w.alloc (.cells (wa a) 24)).alloc (.cells (wa 0) 24)).heap[w.heap.size + 1]? = some (.cells (wa 0) 24) := blk_new _ (by simp)
  have bW : Below w.heap.size w ((w.alloc (.cells (wa a) 24)).alloc (.cells (wa 0) 24)) := (((Below.refl _ _).alloc (Nat.le_refl _) _).alloc (by simp <;> omega) _)
  have sW : w.heap.size + 2 ≤ ((w.alloc (.cells (wa a) 24)).alloc (.cells (wa 0) 24)).heap.size := by simp
  generalize ((w.alloc (.cells (wa a) 24)).alloc (.cells (wa 0) 24)) = W at *
  go_wp2_with (refine wpList_load_row rfl 24 _ rfl _ rfl 24 _ (0, 0) _ (by assumption) Try.underlying24 rfl Try.infoWa ?_)
  refine (H1.out _).mono ?_
  rintro e w1 ⟨rfl, b1⟩
  replace f2 := Below.stays b1 f2
  replace f4 := Below.stays b1 f4
  replace bW := bW.trans (b1.mono bW.size)
  replace sW := Nat.le_trans sW b1.size
  clear b1
  go_wp2_with (refine wpList_load_row rfl 24 _ rfl _ rfl 24 _ (0, 0) _ (by assumption) Try.underlying24 rfl Try.infoWa ?_)
  refine (H2.out _).mono ?_
  rintro e w2 ⟨rfl, b1⟩
  replace f2 := Below.stays b1 f2
  replace f4 := Below.stays b1 f4
  replace bW := bW.trans (b1.mono bW.size)
  replace sW := Nat.le_trans sW b1.size
  clear b1
  go_wp2_with fail
  refine (H3.out _).mono ?_
  rintro e w3 ⟨rfl, b1⟩
  replace f2 := Below.stays b1 f2
  replace f4 := Below.stays b1 f4
  replace bW := bW.trans (b1.mono bW.size)
  replace sW := Nat.le_trans sW b1.size
  clear b1
  go_wp2_with fail
  refine (H4.out _).mono ?_
  rintro e w4 ⟨rfl, b1⟩
  replace f2 := Below.stays b1 f2
  replace f4 := Below.stays b1 f4
  replace bW := bW.trans (b1.mono bW.size)
  replace sW := Nat.le_trans sW b1.size
  clear b1
  go_wp2_with (refine wpList_store_row rfl 24 (.tmp 4) _ rfl _ _ (wa t) rfl rfl f4 Try.infoWa rfl wa_one ?_)
  have e2 := word_cells (blk_row (c' := wa t) f4)
  exact bodyPost_ret (v := wd t) (by simp [results, Try.results25, go_sem, e2, fold_wa]) rfl ⟨rfl, below_setRow bW (by omega) _⟩
theorem sar_wd (a n : Nat) (hn : n < B) (w : World) : Calls Try.prog 25 #[wd a, .int .u64 (n : Int)] w fun e w' => e = .returned (wd (sar a n)) ∧ Below w.heap.size w w' := by
  have hb := fun w => below_wd a w
  unfold sar
  cases h : bel a
  · rw [h] at hb
    exact sar_walk0 a _ _ w (Lib.hid hb) (Lib.hid fun w => shr_wd a n hn w)
  · rw [h] at hb
    exact sar_walk1 a _ _ _ _ w (Lib.hid hb) (Lib.hid fun w => not_wd a w) (Lib.hid fun w => shr_wd _ n hn w) (Lib.hid fun w => not_wd _ w)
end Go.Proofs.Ytlobchkbkdjccaa
