/- The statement WordParts: for every input it returns true, and leaves all older memory as it was. -/
import Derived.Test.YtfgfggnbdnbgfaaRing
import Derived.Test.YtfgfggnbdnbgfaaPartB
import Derived.Test.YtfgfggnbdnbgfaaFrame
import Derived.Deep.DeepCutAuto
namespace Go.Proofs.Ytfgfggnbdnbgfaa
open Go.ChangeShapes Go.WideShapes Go.ChangeAt Go.RowKit SmWord
set_option maxRecDepth 100000

theorem word_cells {W : World} {b m : Nat} {t : TypeId} {fr : Nat × Nat} (hb : W.heap[b]? = some (.cells (wa m) t fr)) :
    W.cell? ⟨b, 0, none⟩ = some (.int .u64 ((l0 m : Nat) : Int)) ∧ W.cell? ⟨b, 1, none⟩ = some (.int .u64 ((l1 m : Nat) : Int)) ∧
    W.cell? ⟨b, 2, none⟩ = some (.int .u64 ((l2 m : Nat) : Int)) ∧ W.cell? ⟨b, 3, none⟩ = some (.int .u64 ((l3 m : Nat) : Int)) :=
  Ext.word (w := W) ⟨W, Below.refl _ _⟩ hb

set_option maxHeartbeats 4000000 in
theorem parts_lo (a b n k L : Nat) (sv x z : Int) (p q : Bool) (w : World) (hc : n < 32) (hk : k ≤ 1000) (_hn : n ≤ 18446744073709551615) (hmin : min (n : Int) 1000 = (k : Int)) (hL : L ≤ 256)
    (ht : (q = true ∧ sv = ((l0 a : Nat) : Int) ∧ l1 a = 0 ∧ l2 a = 0 ∧ l3 a = 0) ∨ (q = false ∧ sv = 0 ∧ l1 a ≠ 0) ∨ (q = false ∧ sv = 0 ∧ l1 a = 0 ∧ l2 a ≠ 0) ∨ (q = false ∧ sv = 0 ∧ l1 a = 0 ∧ l2 a = 0 ∧ l3 a ≠ 0))
    (hE : Hid (q = true → ∀ w : World, (Op.equalIn 10000 24 (.agg (wa (l0 a))) (.agg (wa a))).run Try.prog w = .ok true w))
    (hp : Hid ((z == 1) = p))
    (HS : Hid (∀ w : World, Calls Try.prog 32 #[wd a] w fun e w' => e = .returned (.tuple #[.int .u64 sv, .bool q]) ∧ Below w.heap.size w w'))
    (H1 : Hid (∀ w : World, Calls Try.prog 34 #[wd a, wd b] w fun e w' => e = .returned (.int .i64 x) ∧ Below w.heap.size w w'))
    (H2 : Hid (∀ w : World, Calls Try.prog 35 #[.agg (da a), .agg (da b)] w fun e w' => e = .returned (.int .i64 x) ∧ Below w.heap.size w w'))
    (H3 : Hid (∀ w : World, Calls Try.prog 36 #[wd a, .int .u64 (k : Int)] w fun e w' => e = .returned (.bool p) ∧ Below w.heap.size w w'))
    (H4 : Hid (∀ w : World, Calls Try.prog 37 #[.agg (da a), .int .i64 (k : Int)] w fun e w' => e = .returned (.int .i64 z) ∧ Below w.heap.size w w'))
    (H5 : Hid (∀ w : World, Calls Try.prog 38 #[wd a] w fun e w' => e = .returned (.int .i64 (L : Int)) ∧ Below w.heap.size w w'))
    (H6 : Hid (∀ w : World, Calls Try.prog 39 #[.agg (da a)] w fun e w' => e = .returned (.int .i64 (L : Int)) ∧ Below w.heap.size w w'))
    (H7 : Hid (∀ w : World, Calls Try.prog 40 #[wd a, .int .u64 (n : Int)] w fun e w' => e = .returned (.int .u8 ((dig a (31 - n) : Nat) : Int)) ∧ Below w.heap.size w w'))
    (H8 : Hid (∀ w : World, Calls Try.prog 41 #[wd a] w fun e w' => e = .returned (.int .i64 (((L + 7) / 8 : Nat) : Int)) ∧ Below w.heap.size w w')) :
    Calls Try.prog 9 #[wd a, wd b, .int .u64 (n : Int)] w fun e w' => e = .returned (.bool true) ∧ Below w.heap.size w w' := by
  have hz := wa_size
  go_enter Try.func9, Try.ntmps9
  go_wp2_with fail
  have f1 : ((w.alloc (.cells (wa a) 24)).alloc (.cells (wa b) 24)).heap[w.heap.size]? = some (.cells (wa a) 24) := blk_alloc (heap_alloc_new _ _)
  have f2 : ((w.alloc (.cells (wa a) 24)).alloc (.cells (wa b) 24)).heap[w.heap.size + 1]? = some (.cells (wa b) 24) := heap_alloc2_new _ _ _
  have bW : Below w.heap.size w ((w.alloc (.cells (wa a) 24)).alloc (.cells (wa b) 24)) := ((Below.refl _ _).alloc (Nat.le_refl _) _).alloc (by simp) _
  generalize (w.alloc (.cells (wa a) 24)).alloc (.cells (wa b) 24) = W at *
  have fo := fold_wa
  have eg := Try.guardW
  refine (of_ref a _).mono ?_
  rintro e w1 ⟨rfl, b1⟩
  have f1 := Below.stays b1 f1
  have f2 := Below.stays b1 f2
  have bW := bW.trans (b1.mono bW.size)
  clear b1
  have hne1 : w.heap.size ≠ w1.heap.size := by have := (Array.getElem?_eq_some_iff.1 f1).1; omega
  have hne2 : w.heap.size + 1 ≠ w1.heap.size := by have := (Array.getElem?_eq_some_iff.1 f2).1; omega
  go_upto_region 2 with (first | (refine wpList_alloc_row rfl 26 rfl zD zD_run ?_) | (refine wpList_store_row rfl 26 _ _ rfl _ zD (da a) rfl rfl (heap_alloc_new _ _) (infoArr _) rfl (arr_one _ _ _) ?_))
  have f6 : ((w1.alloc (.cells zD 26)).setRow w1.heap.size (da a)).heap[w1.heap.size]? = some (.cells (da a) 26) := blk_row (heap_alloc_new _ _)
  have f1 : ((w1.alloc (.cells zD 26)).setRow w1.heap.size (da a)).heap[w.heap.size]? = some (.cells (wa a) 24) := blk_row_other (blk_alloc f1) hne1
  have f2 : ((w1.alloc (.cells zD 26)).setRow w1.heap.size (da a)).heap[w.heap.size + 1]? = some (.cells (wa b) 24) := blk_row_other (blk_alloc f2) hne2
  have bW : Below w.heap.size w ((w1.alloc (.cells zD 26)).setRow w1.heap.size (da a)) := below_setRow (bW.alloc bW.size _) bW.size _
  clear hne1 hne2
  generalize (w1.alloc (.cells zD 26)).setRow w1.heap.size (da a) = W at *
  obtain ⟨c0, c1, c2, c3⟩ := word_cells f1
  go_wp2_with fail
  refine (HS.out _).mono ?_
  rintro e w2 ⟨rfl, b2⟩
  have f1 := Below.stays b2 f1
  have f2 := Below.stays b2 f2
  have f6 := Below.stays b2 f6
  have bW := bW.trans (b2.mono bW.size)
  clear b2 c0 c1 c2 c3
  go_upto_region 6 with fail
  go_wp2_with (refine wpList_load_row rfl 26 _ rfl _ rfl 26 (da a) (0, 0) _ f6 Try.underlying26 rfl (infoArr _) ?_)
  refine (bytes_ref a _).mono ?_
  rintro e w3 ⟨rfl, b3⟩
  have f1 := Below.stays b3 f1
  have f2 := Below.stays b3 f2
  have f6 := Below.stays b3 f6
  have bW := bW.trans (b3.mono bW.size)
  clear b3
  have hne1 : w.heap.size ≠ w3.heap.size := by have := (Array.getElem?_eq_some_iff.1 f1).1; omega
  have hne2 : w.heap.size + 1 ≠ w3.heap.size := by have := (Array.getElem?_eq_some_iff.1 f2).1; omega
  have hne6 : w1.heap.size ≠ w3.heap.size := by have := (Array.getElem?_eq_some_iff.1 f6).1; omega
  go_upto_region 7 with (first | (refine wpList_alloc_row rfl 41 rfl zY zY_run ?_) | (refine wpList_store_row rfl 41 _ _ rfl _ zY (ya a) rfl rfl (heap_alloc_new _ _) (infoArrY _) rfl (arr_one _ _ _) ?_))
  have f12 : ((w3.alloc (.cells zY 41)).setRow w3.heap.size (ya a)).heap[w3.heap.size]? = some (.cells (ya a) 41) := blk_row (heap_alloc_new _ _)
  have f1 : ((w3.alloc (.cells zY 41)).setRow w3.heap.size (ya a)).heap[w.heap.size]? = some (.cells (wa a) 24) := blk_row_other (blk_alloc f1) hne1
  have f2 : ((w3.alloc (.cells zY 41)).setRow w3.heap.size (ya a)).heap[w.heap.size + 1]? = some (.cells (wa b) 24) := blk_row_other (blk_alloc f2) hne2
  have f6 : ((w3.alloc (.cells zY 41)).setRow w3.heap.size (ya a)).heap[w1.heap.size]? = some (.cells (da a) 26) := blk_row_other (blk_alloc f6) hne6
  have bW : Below w.heap.size w ((w3.alloc (.cells zY 41)).setRow w3.heap.size (ya a)) := below_setRow (bW.alloc bW.size _) bW.size _
  clear hne1 hne2 hne6
  generalize (w3.alloc (.cells zY 41)).setRow w3.heap.size (ya a) = W3 at *
  have cY := blk_cell f12 (arr_get .u8 _ hc)
  go_upto_region 8 with fail
  clear cY f12
  go_cut [61] (fun s61 wx => s61 = .bool false ∧ Below W3.heap.size W3 wx)
  case first =>
    have g1 := fun g : Ext W3 => g.word f1
    have hl : l0 a < B := (l_lt a).1
    clear H1 H2 H3 H4 H5 H6 H7 H8 HS
    rcases ht with ⟨rfl, rfl, t1, t2, t3⟩ | ⟨rfl, rfl, t1⟩ | ⟨rfl, rfl, t1, t2⟩ | ⟨rfl, rfl, t1, t2, t3⟩
    all_goals
      first
        | have d1 : (((l1 a : Nat) : Int) == 0) = true := by simp [t1]
        | have d1 : (((l1 a : Nat) : Int) == 0) = false := by simp [t1]
      try first
        | have d2 : (((l2 a : Nat) : Int) == 0) = true := by simp [t2]
        | have d2 : (((l2 a : Nat) : Int) == 0) = false := by simp [t2]
      try first
        | have d3 : (((l3 a : Nat) : Int) == 0) = true := by simp [t3]
        | have d3 : (((l3 a : Nat) : Int) == 0) = false := by simp [t3]
      try have hE := hE.out rfl
      try clear t1
      try clear t2
      try clear t3
      refine region_ext (by kernel_rfl) (by kernel_rfl) ?_
      repeat (go_big_quiet_step ((go_at_call 33; with_reducible exact calls_ext (of_wd _ _ hl))))
      refine wpQuiet_nil ?_
      rintro _ ⟨g, rfl⟩
      go_wp2_with fail
      go_meet
      exact ⟨rfl, g.below⟩
  case rest =>
    obtain ⟨rfl, bC⟩ := hcut
    have f1 := Below.stays bC f1
    have f2 := Below.stays bC f2
    have f6 := Below.stays bC f6
    have bW := bW.trans (bC.mono bW.size)
    clear HS ht hE
    go_wp2_with fail
    generalize wc = W at *
    have g1 := fun g : Ext W => g.word f1
    have g2 := fun g : Ext W => g.word f2
    have hp := hp.out
    refine region_ext (by kernel_rfl) (by kernel_rfl) ?_
    repeat (first | (go_big_quiet_want; refine quiet_load_row 26 _ rfl w1.heap.size (da a) rfl (fun w2 hw2 => by obtain ⟨g, rfl⟩ := hw2; exact g.block f6) Try.underlying26 (infoArr _) ?_; simp only [Act.put, List.setIfInBounds_toArray, List.set_cons_succ, List.set_cons_zero]; go_big_quiet_on) | go_big_quiet_step (first | (go_at_call 12; exact calls_ext (fixed_walk _)) | (go_at_call 11; with_reducible exact calls_ext (of_ref _ _)) | (go_at_call 34; with_reducible exact calls_ext (H1.out _)) | (go_at_call 35; with_reducible exact calls_ext (H2.out _)) | (go_at_call 36; with_reducible exact calls_ext (H3.out _)) | (go_at_call 37; with_reducible exact calls_ext (H4.out _)) | (go_at_call 38; with_reducible exact calls_ext (H5.out _)) | (go_at_call 39; with_reducible exact calls_ext (H6.out _)) | (go_at_call 40; with_reducible exact calls_ext (H7.out _)) | (go_at_call 41; with_reducible exact calls_ext (H8.out _))))
    refine wpQuiet_nil ?_
    rintro _ ⟨g, rfl⟩
    go_wp2
    go_ret
    exact ⟨rfl, bW.trans (g.below.mono bW.size)⟩

set_option maxHeartbeats 4000000 in
theorem parts_hi (a b n k L : Nat) (sv x z : Int) (p q : Bool) (w : World) (hc : 32 ≤ n) (hk : k ≤ 1000) (_hn : n ≤ 18446744073709551615) (hmin : min (n : Int) 1000 = (k : Int)) (hL : L ≤ 256)
    (ht : (q = true ∧ sv = ((l0 a : Nat) : Int) ∧ l1 a = 0 ∧ l2 a = 0 ∧ l3 a = 0) ∨ (q = false ∧ sv = 0 ∧ l1 a ≠ 0) ∨ (q = false ∧ sv = 0 ∧ l1 a = 0 ∧ l2 a ≠ 0) ∨ (q = false ∧ sv = 0 ∧ l1 a = 0 ∧ l2 a = 0 ∧ l3 a ≠ 0))
    (hE : Hid (q = true → ∀ w : World, (Op.equalIn 10000 24 (.agg (wa (l0 a))) (.agg (wa a))).run Try.prog w = .ok true w))
    (hp : Hid ((z == 1) = p))
    (HS : Hid (∀ w : World, Calls Try.prog 32 #[wd a] w fun e w' => e = .returned (.tuple #[.int .u64 sv, .bool q]) ∧ Below w.heap.size w w'))
    (H1 : Hid (∀ w : World, Calls Try.prog 34 #[wd a, wd b] w fun e w' => e = .returned (.int .i64 x) ∧ Below w.heap.size w w'))
    (H2 : Hid (∀ w : World, Calls Try.prog 35 #[.agg (da a), .agg (da b)] w fun e w' => e = .returned (.int .i64 x) ∧ Below w.heap.size w w'))
    (H3 : Hid (∀ w : World, Calls Try.prog 36 #[wd a, .int .u64 (k : Int)] w fun e w' => e = .returned (.bool p) ∧ Below w.heap.size w w'))
    (H4 : Hid (∀ w : World, Calls Try.prog 37 #[.agg (da a), .int .i64 (k : Int)] w fun e w' => e = .returned (.int .i64 z) ∧ Below w.heap.size w w'))
    (H5 : Hid (∀ w : World, Calls Try.prog 38 #[wd a] w fun e w' => e = .returned (.int .i64 (L : Int)) ∧ Below w.heap.size w w'))
    (H6 : Hid (∀ w : World, Calls Try.prog 39 #[.agg (da a)] w fun e w' => e = .returned (.int .i64 (L : Int)) ∧ Below w.heap.size w w'))
    (H7 : Hid (∀ w : World, Calls Try.prog 40 #[wd a, .int .u64 (n : Int)] w fun e w' => e = .returned (.int .u8 0) ∧ Below w.heap.size w w'))
    (H8 : Hid (∀ w : World, Calls Try.prog 41 #[wd a] w fun e w' => e = .returned (.int .i64 (((L + 7) / 8 : Nat) : Int)) ∧ Below w.heap.size w w')) :
    Calls Try.prog 9 #[wd a, wd b, .int .u64 (n : Int)] w fun e w' => e = .returned (.bool true) ∧ Below w.heap.size w w' := by
  have hz := wa_size
  go_enter Try.func9, Try.ntmps9
  go_wp2_with fail
  have f1 : ((w.alloc (.cells (wa a) 24)).alloc (.cells (wa b) 24)).heap[w.heap.size]? = some (.cells (wa a) 24) := blk_alloc (heap_alloc_new _ _)
  have f2 : ((w.alloc (.cells (wa a) 24)).alloc (.cells (wa b) 24)).heap[w.heap.size + 1]? = some (.cells (wa b) 24) := heap_alloc2_new _ _ _
  have bW : Below w.heap.size w ((w.alloc (.cells (wa a) 24)).alloc (.cells (wa b) 24)) := ((Below.refl _ _).alloc (Nat.le_refl _) _).alloc (by simp) _
  generalize (w.alloc (.cells (wa a) 24)).alloc (.cells (wa b) 24) = W at *
  have fo := fold_wa
  have eg := Try.guardW
  refine (of_ref a _).mono ?_
  rintro e w1 ⟨rfl, b1⟩
  have f1 := Below.stays b1 f1
  have f2 := Below.stays b1 f2
  have bW := bW.trans (b1.mono bW.size)
  clear b1
  have hne1 : w.heap.size ≠ w1.heap.size := by have := (Array.getElem?_eq_some_iff.1 f1).1; omega
  have hne2 : w.heap.size + 1 ≠ w1.heap.size := by have := (Array.getElem?_eq_some_iff.1 f2).1; omega
  go_upto_region 2 with (first | (refine wpList_alloc_row rfl 26 rfl zD zD_run ?_) | (refine wpList_store_row rfl 26 _ _ rfl _ zD (da a) rfl rfl (heap_alloc_new _ _) (infoArr _) rfl (arr_one _ _ _) ?_))
  have f6 : ((w1.alloc (.cells zD 26)).setRow w1.heap.size (da a)).heap[w1.heap.size]? = some (.cells (da a) 26) := blk_row (heap_alloc_new _ _)
  have f1 : ((w1.alloc (.cells zD 26)).setRow w1.heap.size (da a)).heap[w.heap.size]? = some (.cells (wa a) 24) := blk_row_other (blk_alloc f1) hne1
  have f2 : ((w1.alloc (.cells zD 26)).setRow w1.heap.size (da a)).heap[w.heap.size + 1]? = some (.cells (wa b) 24) := blk_row_other (blk_alloc f2) hne2
  have bW : Below w.heap.size w ((w1.alloc (.cells zD 26)).setRow w1.heap.size (da a)) := below_setRow (bW.alloc bW.size _) bW.size _
  clear hne1 hne2
  generalize (w1.alloc (.cells zD 26)).setRow w1.heap.size (da a) = W at *
  obtain ⟨c0, c1, c2, c3⟩ := word_cells f1
  go_wp2_with fail
  refine (HS.out _).mono ?_
  rintro e w2 ⟨rfl, b2⟩
  have f1 := Below.stays b2 f1
  have f2 := Below.stays b2 f2
  have f6 := Below.stays b2 f6
  have bW := bW.trans (b2.mono bW.size)
  clear b2 c0 c1 c2 c3
  go_upto_region 8 with fail
  generalize w2 = W3 at *
  go_cut [61] (fun s61 wx => s61 = .bool false ∧ Below W3.heap.size W3 wx)
  case first =>
    have g1 := fun g : Ext W3 => g.word f1
    have hl : l0 a < B := (l_lt a).1
    clear H1 H2 H3 H4 H5 H6 H7 H8 HS
    rcases ht with ⟨rfl, rfl, t1, t2, t3⟩ | ⟨rfl, rfl, t1⟩ | ⟨rfl, rfl, t1, t2⟩ | ⟨rfl, rfl, t1, t2, t3⟩
    all_goals
      first
        | have d1 : (((l1 a : Nat) : Int) == 0) = true := by simp [t1]
        | have d1 : (((l1 a : Nat) : Int) == 0) = false := by simp [t1]
      try first
        | have d2 : (((l2 a : Nat) : Int) == 0) = true := by simp [t2]
        | have d2 : (((l2 a : Nat) : Int) == 0) = false := by simp [t2]
      try first
        | have d3 : (((l3 a : Nat) : Int) == 0) = true := by simp [t3]
        | have d3 : (((l3 a : Nat) : Int) == 0) = false := by simp [t3]
      try have hE := hE.out rfl
      try clear t1
      try clear t2
      try clear t3
      refine region_ext (by kernel_rfl) (by kernel_rfl) ?_
      repeat (go_big_quiet_step ((go_at_call 33; with_reducible exact calls_ext (of_wd _ _ hl))))
      refine wpQuiet_nil ?_
      rintro _ ⟨g, rfl⟩
      go_wp2_with fail
      go_meet
      exact ⟨rfl, g.below⟩
  case rest =>
    obtain ⟨rfl, bC⟩ := hcut
    have f1 := Below.stays bC f1
    have f2 := Below.stays bC f2
    have f6 := Below.stays bC f6
    have bW := bW.trans (bC.mono bW.size)
    clear HS ht hE
    go_wp2_with fail
    generalize wc = W at *
    have g1 := fun g : Ext W => g.word f1
    have g2 := fun g : Ext W => g.word f2
    have hp := hp.out
    refine region_ext (by kernel_rfl) (by kernel_rfl) ?_
    repeat (first | (go_big_quiet_want; refine quiet_load_row 26 _ rfl w1.heap.size (da a) rfl (fun w2 hw2 => by obtain ⟨g, rfl⟩ := hw2; exact g.block f6) Try.underlying26 (infoArr _) ?_; simp only [Act.put, List.setIfInBounds_toArray, List.set_cons_succ, List.set_cons_zero]; go_big_quiet_on) | go_big_quiet_step (first | (go_at_call 12; exact calls_ext (fixed_walk _)) | (go_at_call 11; with_reducible exact calls_ext (of_ref _ _)) | (go_at_call 34; with_reducible exact calls_ext (H1.out _)) | (go_at_call 35; with_reducible exact calls_ext (H2.out _)) | (go_at_call 36; with_reducible exact calls_ext (H3.out _)) | (go_at_call 37; with_reducible exact calls_ext (H4.out _)) | (go_at_call 38; with_reducible exact calls_ext (H5.out _)) | (go_at_call 39; with_reducible exact calls_ext (H6.out _)) | (go_at_call 40; with_reducible exact calls_ext (H7.out _)) | (go_at_call 41; with_reducible exact calls_ext (H8.out _))))
    refine wpQuiet_nil ?_
    rintro _ ⟨g, rfl⟩
    go_wp2
    go_ret
    exact ⟨rfl, bW.trans (g.below.mono bW.size)⟩

theorem small_cases (a : Nat) : (smallB a = true ∧ l1 a = 0 ∧ l2 a = 0 ∧ l3 a = 0) ∨ (smallB a = false ∧ (l1 a ≠ 0 ∨ (l1 a = 0 ∧ l2 a ≠ 0) ∨ (l1 a = 0 ∧ l2 a = 0 ∧ l3 a ≠ 0))) := by
  obtain ⟨A0, A1, A2, A3⟩ := l_lt a
  have e0 : l0 a % M = l0 a := Nat.mod_eq_of_lt (Nat.lt_trans A0 (by decide))
  have e1 := num_parts a
  unfold smallB
  rw [e0, ← e1, decide_eq_true_iff, decide_eq_false_iff_not]
  unfold num
  generalize l0 a = x at *
  generalize l1 a = y at *
  generalize l2 a = z at *
  generalize l3 a = u at *
  simp only [B] at *
  omega
theorem parts_full (a b n : Nat) (hn : n < B) (w : World) :
    Calls Try.prog 9 #[wd a, wd b, .int .u64 (n : Int)] w fun e w' => e = .returned (.bool true) ∧ Below w.heap.size w w' := by
  have hk : min n 1000 ≤ 1000 := Nat.min_le_right _ _
  have hmin : min (n : Int) 1000 = ((min n 1000 : Nat) : Int) := by omega
  have hkB : min n 1000 < B := Nat.lt_of_le_of_lt hk (by decide)
  have hL : bl (a % M) ≤ 256 := bl_le (by rw [← M_2]; exact Nat.mod_lt _ (by decide))
  have ht : (smallB a = true ∧ (if smallB a then ((l0 a : Nat) : Int) else 0) = ((l0 a : Nat) : Int) ∧ l1 a = 0 ∧ l2 a = 0 ∧ l3 a = 0) ∨ (smallB a = false ∧ (if smallB a then ((l0 a : Nat) : Int) else 0) = 0 ∧ l1 a ≠ 0) ∨ (smallB a = false ∧ (if smallB a then ((l0 a : Nat) : Int) else 0) = 0 ∧ l1 a = 0 ∧ l2 a ≠ 0) ∨ (smallB a = false ∧ (if smallB a then ((l0 a : Nat) : Int) else 0) = 0 ∧ l1 a = 0 ∧ l2 a = 0 ∧ l3 a ≠ 0) := by
    rcases small_cases a with ⟨h, h1⟩ | ⟨h, h1⟩
    · rw [h]; exact .inl ⟨rfl, rfl, h1⟩
    · rw [h]
      rcases h1 with h1 | h1 | h1
      · exact .inr (.inl ⟨rfl, rfl, h1⟩)
      · exact .inr (.inr (.inl ⟨rfl, rfl, h1⟩))
      · exact .inr (.inr (.inr ⟨rfl, rfl, h1⟩))
  have hE : smallB a = true → ∀ w : World, (Op.equalIn 10000 24 (.agg (wa (l0 a))) (.agg (wa a))).run Try.prog w = .ok true w := fun h w => equal_yes (of_decide_eq_true h).symm w
  have hp : (bitI a ((min n 1000 : Nat) : Int) == 1) = decide (min n 1000 < 256 ∧ bitN a (min n 1000) = 1) := by
    generalize min n 1000 = k at *
    unfold bitI
    rw [Bool.eq_iff_iff, beq_iff_eq, decide_eq_true_iff]
    by_cases h : k < 256
    · rw [if_neg (by omega), Int.toNat_natCast]; omega
    · rw [if_pos (.inr (by omega))]; omega
  by_cases hc : n < 32
  · exact parts_lo a b n (min n 1000) (bl (a % M)) _ (cmpN (a % M) (b % M)) _ _ (smallB a) w hc hk (by simp only [B] at hn; omega) hmin hL ht hE hp (fun w => small_wd a w) (fun w => compare_wd a b w) (fun w => compare_ref a b w) (fun w => wbit_wd a _ w hkB)
      (fun w => bit_ref a _ w) (fun w => len_wd a w) (fun w => len_ref a w) (fun w => byte_walk a n w hc) (fun w => size_wd a w)
  · exact parts_hi a b n (min n 1000) (bl (a % M)) _ (cmpN (a % M) (b % M)) _ _ (smallB a) w (by omega) hk (by simp only [B] at hn; omega) hmin hL ht hE hp (fun w => small_wd a w) (fun w => compare_wd a b w) (fun w => compare_ref a b w) (fun w => wbit_wd a _ w hkB)
      (fun w => bit_ref a _ w) (fun w => len_wd a w) (fun w => len_ref a w) (fun w => byte_high a n w (by omega)) (fun w => size_wd a w)

set_option maxRecDepth 100000 in
theorem parts_lifted (os : Os) (started : os.Started) (H : Type) (enc : TypeId × Value → H) :
    ReturnsInHanded {} Try.checked os 9 .any (Rows.wordPartsSpec.pre6 enc Try.prog Try.f9 Rows.wordPartsRow.domain false) (Rows.wordPartsSpec.post enc Try.prog Try.f9 false true false false) := by
  refine returnsInHanded_of_change (C := Try.checked) Try.own started (by kernel_rfl) Try.func9
    (ChangeSpec.witness6 (enc := enc) (C := Try.checked) false ⟨#[], #[w0000, w0000, .int .u64 0], []⟩ 8 (by kernel_rfl) (by kernel_rfl) (by kernel_rfl) (by kernel_rfl)) ?_
  intro W base args ds gs before hval0 hW hcnd _
  have hval : ∀ (j : Nat) t v, Try.f9.params[j]? = some t → args[j]? = some v → Value.okWide Try.prog W .any base t v := hval0
  have hW' := hW
  obtain ⟨p, q, hA0, hV, rfl, hfz, hnd⟩ := hW
  have hA : DataW.TrodAll enc Try.prog W 0 (fun _ => true) true Try.f9.params.toList args.toList ds p := hA0
  rw [Try.params9] at hA hval
  obtain ⟨v0, v1, v2, d0, d1, d2, p0, p1, p2, rfl, rfl, rfl, h0, h1, h2⟩ := trodAll_three hA
  obtain ⟨rfl, rfl⟩ := trodVars_none hV
  obtain ⟨a, rfl, rfl, rfl⟩ := open_word (hval 0 24 v0 rfl rfl) h0
  obtain ⟨b, rfl, rfl, rfl⟩ := open_word (hval 1 24 v1 rfl rfl) h1
  obtain ⟨zn, rfl, rfl, rfl, wn⟩ := open_int Try.underlying22 (hval 2 22 v2 rfl rfl) h2
  obtain ⟨n, rfl, ln⟩ := wf_u64 wn
  clear hA0 hval0
  simp only [List.append_nil] at hW'
  refine (parts_full a b n ln W).mono fun e W' ⟨he, bel⟩ => ?_
  subst he
  exact ⟨_, rfl, _, _, _, [], _, [], hW', trodAll_mk1 (shut_bool Try.underlying4 _), trodAll_mk3 (shut_word a _ _) (shut_word b _ _) (shut_int Try.underlying22 wn), rfl, bel.frame _, fun h => by cases h⟩

theorem parts_holds : Rows.WordPartsSaid :=
  OpenClaim.holds_of_wide 9 Try.f9 rfl rfl rfl rfl rfl rfl rfl ⟨rfl, rfl, rfl, rfl, rfl⟩ rfl rfl rfl rfl rfl (by kernel_rfl) Try.func9 (by kernel_rfl)
    (of_decide_eq_true (by kernel_rfl)) (by unfold Func.isWrapper; first | (rw [if_pos (by decide +kernel)]; kernel_rfl) | (rw [if_neg (by decide +kernel)]; exact ⟨rfl, rfl⟩))
    (fun os started H enc _ => parts_lifted os started H enc)
end Go.Proofs.Ytfgfggnbdnbgfaa
