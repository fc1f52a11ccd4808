/- What the function Extend of package sign does, and the document's Below, Size, neg and Less; all older memory is as it was. -/
import Derived.Test.YtlobchkbkdjccaaSgA
import Derived.Test.YtlobchkbkdjccaaPartB
import Derived.Test.YtlobchkbkdjccaaRefC
import Derived.Test.YtlobchkbkdjccaaRefB
import Derived.Test.YtlobchkbkdjccaaRefW
namespace Go.Proofs.Ytlobchkbkdjccaa
open Go.RowKit SmWord
set_option maxRecDepth 100000

set_option maxHeartbeats 1000000 in
theorem extend_walk0 (n a : Nat) (w : World) (H1 : Hid (∀ w : World, Calls Try.prog 39 #[wd n] w fun e w' => e = .returned (.tuple #[.int .u64 0, .bool false]) ∧ Below w.heap.size w w')) :
    Calls Try.prog 23 #[wd n, wd a] w fun e w' => e = .returned (wd a) ∧ Below w.heap.size w w' := by
  have hz := z4_wa
  have hsz := wa_size
  go_enter Try.func23, Try.ntmps23
  go_upto_region 1 with fail
  have f2 : (((w.alloc (.cells (wa n) 24)).alloc (.cells (wa a) 24)).alloc (.cells (wa 0) 24)).heap[w.heap.size]? = some (.cells (wa n) 24) := blk_alloc (blk_alloc (blk_new _ rfl))
  have f3 : (((w.alloc (.cells (wa n) 24)).alloc (.cells (wa a) 24)).alloc (.cells (wa 0) 24)).heap[w.heap.size + 1]? = some (.cells (wa a) 24) := blk_alloc (blk_new _ (by simp))
  have f4 : (((w.alloc (.cells (wa n) 24)).alloc (.cells (wa a) 24)).alloc (.cells (wa 0) 24)).heap[w.heap.size + 1 + 1]? = some (.cells (wa 0) 24) := blk_new _ (by simp)
  have bW : Below w.heap.size w (((w.alloc (.cells (wa n) 24)).alloc (.cells (wa a) 24)).alloc (.cells (wa 0) 24)) := ((((Below.refl _ _).alloc (Nat.le_refl _) _).alloc (by simp <;> omega) _).alloc (by simp <;> omega) _)
  have sW : w.heap.size + 3 ≤ (((w.alloc (.cells (wa n) 24)).alloc (.cells (wa a) 24)).alloc (.cells (wa 0) 24)).heap.size := by simp
  generalize (((w.alloc (.cells (wa n) 24)).alloc (.cells (wa a) 24)).alloc (.cells (wa 0) 24)) = W at *
  go_wp2_with (refine wpList_load_row rfl 24 _ rfl _ rfl 24 _ (0, 0) _ (by assumption) Try.underlying24 rfl Try.infoWa ?_)
  refine (H1.out _).mono ?_
  rintro e w1 ⟨rfl, b1⟩
  replace f2 := Below.stays b1 f2
  replace f3 := Below.stays b1 f3
  replace f4 := Below.stays b1 f4
  replace bW := bW.trans (b1.mono bW.size)
  replace sW := Nat.le_trans sW b1.size
  clear b1
  go_wp2_with (first | (refine wpList_load_row rfl 24 _ rfl _ rfl 24 _ (0, 0) _ (by assumption) Try.underlying24 rfl Try.infoWa ?_) | (refine wpList_store_row rfl 24 (.tmp 4) _ rfl _ _ (wa a) rfl rfl f4 Try.infoWa rfl wa_one ?_))
  have e2 := word_cells (blk_row (c' := wa a) f4)
  exact bodyPost_ret (v := wd a) (by simp [results, Try.results23, go_sem, e2, fold_wa]) rfl ⟨rfl, below_setRow bW (by omega) _⟩

set_option maxHeartbeats 1000000 in
theorem extend_walk1 (n a v : Nat) (w : World) (hv : 31 ≤ v) (H1 : Hid (∀ w : World, Calls Try.prog 39 #[wd n] w fun e w' => e = .returned (.tuple #[.int .u64 (v : Int), .bool true]) ∧ Below w.heap.size w w')) :
    Calls Try.prog 23 #[wd n, wd a] w fun e w' => e = .returned (wd a) ∧ Below w.heap.size w w' := by
  have hz := z4_wa
  have hsz := wa_size
  go_enter Try.func23, Try.ntmps23
  go_upto_region 1 with fail
  have f2 : (((w.alloc (.cells (wa n) 24)).alloc (.cells (wa a) 24)).alloc (.cells (wa 0) 24)).heap[w.heap.size]? = some (.cells (wa n) 24) := blk_alloc (blk_alloc (blk_new _ rfl))
  have f3 : (((w.alloc (.cells (wa n) 24)).alloc (.cells (wa a) 24)).alloc (.cells (wa 0) 24)).heap[w.heap.size + 1]? = some (.cells (wa a) 24) := blk_alloc (blk_new _ (by simp))
  have f4 : (((w.alloc (.cells (wa n) 24)).alloc (.cells (wa a) 24)).alloc (.cells (wa 0) 24)).heap[w.heap.size + 1 + 1]? = some (.cells (wa 0) 24) := blk_new _ (by simp)
  have bW : Below w.heap.size w (((w.alloc (.cells (wa n) 24)).alloc (.cells (wa a) 24)).alloc (.cells (wa 0) 24)) := ((((Below.refl _ _).alloc (Nat.le_refl _) _).alloc (by simp <;> omega) _).alloc (by simp <;> omega) _)
  have sW : w.heap.size + 3 ≤ (((w.alloc (.cells (wa n) 24)).alloc (.cells (wa a) 24)).alloc (.cells (wa 0) 24)).heap.size := by simp
  generalize (((w.alloc (.cells (wa n) 24)).alloc (.cells (wa a) 24)).alloc (.cells (wa 0) 24)) = W at *
  go_wp2_with (refine wpList_load_row rfl 24 _ rfl _ rfl 24 _ (0, 0) _ (by assumption) Try.underlying24 rfl Try.infoWa ?_)
  refine (H1.out _).mono ?_
  rintro e w1 ⟨rfl, b1⟩
  replace f2 := Below.stays b1 f2
  replace f3 := Below.stays b1 f3
  replace f4 := Below.stays b1 f4
  replace bW := bW.trans (b1.mono bW.size)
  replace sW := Nat.le_trans sW b1.size
  clear b1
  go_wp2_with (first | (refine wpList_load_row rfl 24 _ rfl _ rfl 24 _ (0, 0) _ (by assumption) Try.underlying24 rfl Try.infoWa ?_) | (refine wpList_store_row rfl 24 (.tmp 4) _ rfl _ _ (wa a) rfl rfl f4 Try.infoWa rfl wa_one ?_))
  have e2 := word_cells (blk_row (c' := wa a) f4)
  exact bodyPost_ret (v := wd a) (by simp [results, Try.results23, go_sem, e2, fold_wa]) rfl ⟨rfl, below_setRow bW (by omega) _⟩

set_option maxHeartbeats 1000000 in
theorem extend_walk2 (n a v x t : Nat) (w : World) (hv : v ≤ 30) (hs : Hid (8 * (31 - (v : Int)) = ((8 * (31 - v) : Nat) : Int))) (H1 : Hid (∀ w : World, Calls Try.prog 39 #[wd n] w fun e w' => e = .returned (.tuple #[.int .u64 (v : Int), .bool true]) ∧ Below w.heap.size w w')) (H2 : Hid (∀ (i : Int), i = ((8 * (31 - v) : Nat) : Int) → ∀ w : World, Calls Try.prog 40 #[wd a, .int .u64 i] w fun e w' => e = .returned (wd x) ∧ Below w.heap.size w w')) (H3 : Hid (∀ (i : Int), i = ((8 * (31 - v) : Nat) : Int) → ∀ w : World, Calls Try.prog 25 #[wd x, .int .u64 i] w fun e w' => e = .returned (wd t) ∧ Below w.heap.size w w')) :
    Calls Try.prog 23 #[wd n, wd a] w fun e w' => e = .returned (wd t) ∧ Below w.heap.size w w' := by
  have hz := z4_wa
  have hsz := wa_size
  go_enter Try.func23, Try.ntmps23
  go_upto_region 1 with fail
  have f2 : (((w.alloc (.cells (wa n) 24)).alloc (.cells (wa a) 24)).alloc (.cells (wa 0) 24)).heap[w.heap.size]? = some (.cells (wa n) 24) := blk_alloc (blk_alloc (blk_new _ rfl))
  have f3 : (((w.alloc (.cells (wa n) 24)).alloc (.cells (wa a) 24)).alloc (.cells (wa 0) 24)).heap[w.heap.size + 1]? = some (.cells (wa a) 24) := blk_alloc (blk_new _ (by simp))
  have f4 : (((w.alloc (.cells (wa n) 24)).alloc (.cells (wa a) 24)).alloc (.cells (wa 0) 24)).heap[w.heap.size + 1 + 1]? = some (.cells (wa 0) 24) := blk_new _ (by simp)
  have bW : Below w.heap.size w (((w.alloc (.cells (wa n) 24)).alloc (.cells (wa a) 24)).alloc (.cells (wa 0) 24)) := ((((Below.refl _ _).alloc (Nat.le_refl _) _).alloc (by simp <;> omega) _).alloc (by simp <;> omega) _)
  have sW : w.heap.size + 3 ≤ (((w.alloc (.cells (wa n) 24)).alloc (.cells (wa a) 24)).alloc (.cells (wa 0) 24)).heap.size := by simp
  generalize (((w.alloc (.cells (wa n) 24)).alloc (.cells (wa a) 24)).alloc (.cells (wa 0) 24)) = W at *
  go_wp2_with (refine wpList_load_row rfl 24 _ rfl _ rfl 24 _ (0, 0) _ (by assumption) Try.underlying24 rfl Try.infoWa ?_)
  refine (H1.out _).mono ?_
  rintro e w1 ⟨rfl, b1⟩
  replace f2 := Below.stays b1 f2
  replace f3 := Below.stays b1 f3
  replace f4 := Below.stays b1 f4
  replace bW := bW.trans (b1.mono bW.size)
  replace sW := Nat.le_trans sW b1.size
  clear b1
  go_wp2_with (refine wpList_load_row rfl 24 _ rfl _ rfl 24 _ (0, 0) _ (by assumption) Try.underlying24 rfl Try.infoWa ?_)
  refine (H2.out _ ?_ _).mono ?_
  · exact hs.out
  rintro e w2 ⟨rfl, b1⟩
  replace f2 := Below.stays b1 f2
  replace f3 := Below.stays b1 f3
  replace f4 := Below.stays b1 f4
  replace bW := bW.trans (b1.mono bW.size)
  replace sW := Nat.le_trans sW b1.size
  clear b1
  go_wp2_with fail
  refine (H3.out _ ?_ _).mono ?_
  · exact hs.out
  rintro e w3 ⟨rfl, b1⟩
  replace f2 := Below.stays b1 f2
  replace f3 := Below.stays b1 f3
  replace f4 := Below.stays b1 f4
  replace bW := bW.trans (b1.mono bW.size)
  replace sW := Nat.le_trans sW b1.size
  clear b1
  go_wp2_with (refine wpList_store_row rfl 24 (.tmp 4) _ rfl _ _ (wa t) rfl rfl f4 Try.infoWa rfl wa_one ?_)
  have e2 := word_cells (blk_row (c' := wa t) f4)
  exact bodyPost_ret (v := wd t) (by simp [results, Try.results23, go_sem, e2, fold_wa]) rfl ⟨rfl, below_setRow bW (by omega) _⟩
/-- The lowest bytes of a word with their sign, of any number of bytes. -/
def exn (n a : Nat) : Nat := if smallB n = true ∧ l0 n ≤ 30 then ext (l0 n) a else a
theorem extend_wd (n a : Nat) (w : World) : Calls Try.prog 23 #[wd n, wd a] w fun e w' => e = .returned (wd (exn n a)) ∧ Below w.heap.size w w' := by
  have h1 := fun w => small_wd n w
  unfold exn
  cases hS : smallB n
  · rw [if_neg (fun h => Bool.false_ne_true h.1)]
    rw [hS] at h1
    exact extend_walk0 n a w (Lib.hid h1)
  · rw [hS] at h1
    by_cases hv : l0 n ≤ 30
    · rw [if_pos ⟨rfl, hv⟩]
      refine extend_walk2 n a (l0 n) (a * 2 ^ (8 * (31 - l0 n))) (ext (l0 n) a) w hv (Lib.hid (by omega)) (Lib.hid h1) (Lib.hid fun i hi w => ?_) (Lib.hid fun i hi w => ?_)
      · subst hi
        exact shl_wd a _ (by simp only [B]; omega) w
      · subst hi
        exact sar_wd _ _ (by simp only [B]; omega) w
    · rw [if_neg (fun h => hv h.2)]
      exact extend_walk1 n a (l0 n) w (by omega) (Lib.hid h1)

set_option maxHeartbeats 1000000 in
theorem rbelow_walk (a : Nat) (p : Bool) (w : World) (hp : Hid (decide ((9223372036854775808 : Int) ≤ ((l3 a : Nat) : Int)) = p)) :
    Calls Try.prog 12 #[wd a] w fun e w' => e = .returned (.bool p) ∧ Below w.heap.size w w' := by
  have hsz := wa_size
  go_enter Try.func12, Try.ntmps12
  go_upto_region 1 with fail
  have f1 : (w.alloc (.cells (wa a) 24)).heap[w.heap.size]? = some (.cells (wa a) 24) := blk_new _ rfl
  have bW : Below w.heap.size w (w.alloc (.cells (wa a) 24)) := ((Below.refl _ _).alloc (Nat.le_refl _) _)
  have sW : w.heap.size + 1 ≤ (w.alloc (.cells (wa a) 24)).heap.size := by simp
  generalize (w.alloc (.cells (wa a) 24)) = W at *
  obtain ⟨c0, c1, c2, c3⟩ := word_cells f1
  clear c0 c1 c2
  go_wp2
  go_ret
  exact ⟨by rw [hp.out]; rfl, bW⟩
theorem rbelow_wd (a : Nat) (w : World) : Calls Try.prog 12 #[wd a] w fun e w' => e = .returned (.bool (bel a)) ∧ Below w.heap.size w w' :=
  rbelow_walk a _ w (Lib.hid (bel_l3 a))

set_option maxHeartbeats 1000000 in
theorem rneg_walk (a t : Nat) (d d2 : Array Value) (w : World) (H1 : Hid (∀ w : World, Calls Try.prog 15 #[wd a] w fun e w' => e = .returned (.agg d) ∧ Below w.heap.size w w')) (H2 : Hid (∀ w : World, Calls Try.prog 14 #[.agg d] w fun e w' => e = .returned (.agg d2) ∧ Below w.heap.size w w')) (H3 : Hid (∀ w : World, Calls Try.prog 16 #[.agg d2] w fun e w' => e = .returned (wd t) ∧ Below w.heap.size w w')) :
    Calls Try.prog 34 #[wd a] w fun e w' => e = .returned (wd t) ∧ Below w.heap.size w w' := by
  have hz := z4_wa
  have hsz := wa_size
  go_enter Try.func34, Try.ntmps34
  go_upto_region 1 with fail
  have f1 : ((w.alloc (.cells (wa a) 24)).alloc (.cells (wa 0) 24)).heap[w.heap.size]? = some (.cells (wa a) 24) := blk_alloc (blk_new _ rfl)
  have f2 : ((w.alloc (.cells (wa a) 24)).alloc (.cells (wa 0) 24)).heap[w.heap.size + 1]? = some (.cells (wa 0) 24) := blk_new _ (by simp)
  have bW : Below w.heap.size w ((w.alloc (.cells (wa a) 24)).alloc (.cells (wa 0) 24)) := (((Below.refl _ _).alloc (Nat.le_refl _) _).alloc (by simp <;> omega) _)
  have sW : w.heap.size + 2 ≤ ((w.alloc (.cells (wa a) 24)).alloc (.cells (wa 0) 24)).heap.size := by simp
  generalize ((w.alloc (.cells (wa a) 24)).alloc (.cells (wa 0) 24)) = W at *
  go_wp2_with (refine wpList_load_row rfl 24 _ rfl _ rfl 24 _ (0, 0) _ (by assumption) Try.underlying24 rfl Try.infoWa ?_)
  refine (H1.out _).mono ?_
  rintro e w1 ⟨rfl, b1⟩
  replace f1 := Below.stays b1 f1
  replace f2 := Below.stays b1 f2
  replace bW := bW.trans (b1.mono bW.size)
  replace sW := Nat.le_trans sW b1.size
  clear b1
  go_wp2_with fail
  refine (H2.out _).mono ?_
  rintro e w2 ⟨rfl, b1⟩
  replace f1 := Below.stays b1 f1
  replace f2 := Below.stays b1 f2
  replace bW := bW.trans (b1.mono bW.size)
  replace sW := Nat.le_trans sW b1.size
  clear b1
  go_wp2_with fail
  refine (H3.out _).mono ?_
  rintro e w3 ⟨rfl, b1⟩
  replace f1 := Below.stays b1 f1
  replace f2 := Below.stays b1 f2
  replace bW := bW.trans (b1.mono bW.size)
  replace sW := Nat.le_trans sW b1.size
  clear b1
  go_wp2_with (refine wpList_store_row rfl 24 (.tmp 2) _ rfl _ _ (wa t) rfl rfl f2 Try.infoWa rfl wa_one ?_)
  have e2 := word_cells (blk_row (c' := wa t) f2)
  exact bodyPost_ret (v := wd t) (by simp [results, Try.results34, go_sem, e2, fold_wa]) rfl ⟨rfl, below_setRow bW (by omega) _⟩
theorem rneg_wd (a : Nat) (w : World) : Calls Try.prog 34 #[wd a] w fun e w' => e = .returned (wd (ng a)) ∧ Below w.heap.size w w' :=
  rneg_walk a _ _ _ w (Lib.hid fun w => of_ref a w) (Lib.hid fun w => neg_ref a w) (Lib.hid fun w => word_ref (ng a) w)

set_option maxHeartbeats 1000000 in
theorem rsize_walk0 (a : Nat) (w : World) (H : Hid (∀ w : World, Calls Try.prog 12 #[wd a] w fun e w' => e = .returned (.bool false) ∧ Below w.heap.size w w')) :
    Calls Try.prog 20 #[wd a] w fun e w' => e = .returned (wd a) ∧ Below w.heap.size w w' := by
  have hz := z4_wa
  have hsz := wa_size
  go_enter Try.func20, Try.ntmps20
  go_upto_region 1 with fail
  have f1 : ((w.alloc (.cells (wa a) 24)).alloc (.cells (wa 0) 24)).heap[w.heap.size]? = some (.cells (wa a) 24) := blk_alloc (blk_new _ rfl)
  have f2 : ((w.alloc (.cells (wa a) 24)).alloc (.cells (wa 0) 24)).heap[w.heap.size + 1]? = some (.cells (wa 0) 24) := blk_new _ (by simp)
  have bW : Below w.heap.size w ((w.alloc (.cells (wa a) 24)).alloc (.cells (wa 0) 24)) := (((Below.refl _ _).alloc (Nat.le_refl _) _).alloc (by simp <;> omega) _)
  have sW : w.heap.size + 2 ≤ ((w.alloc (.cells (wa a) 24)).alloc (.cells (wa 0) 24)).heap.size := by simp
  generalize ((w.alloc (.cells (wa a) 24)).alloc (.cells (wa 0) 24)) = W at *
  go_wp2_with (refine wpList_load_row rfl 24 _ rfl _ rfl 24 _ (0, 0) _ (by assumption) Try.underlying24 rfl Try.infoWa ?_)
  refine (H.out _).mono ?_
  rintro e w0 ⟨rfl, b1⟩
  replace f1 := Below.stays b1 f1
  replace f2 := Below.stays b1 f2
  replace bW := bW.trans (b1.mono bW.size)
  replace sW := Nat.le_trans sW b1.size
  clear b1
  go_wp2_with (first | (refine wpList_load_row rfl 24 _ rfl _ rfl 24 _ (0, 0) _ (by assumption) Try.underlying24 rfl Try.infoWa ?_) | (refine wpList_store_row rfl 24 (.tmp 2) _ rfl _ _ (wa a) rfl rfl f2 Try.infoWa rfl wa_one ?_))
  have e2 := word_cells (blk_row (c' := wa a) f2)
  exact bodyPost_ret (v := wd a) (by simp [results, Try.results20, go_sem, e2, fold_wa]) rfl ⟨rfl, below_setRow bW (by omega) _⟩

set_option maxHeartbeats 1000000 in
theorem rsize_walk1 (a t : Nat) (d d2 : Array Value) (w : World) (H : Hid (∀ w : World, Calls Try.prog 12 #[wd a] w fun e w' => e = .returned (.bool true) ∧ Below w.heap.size w w')) (H1 : Hid (∀ w : World, Calls Try.prog 15 #[wd a] w fun e w' => e = .returned (.agg d) ∧ Below w.heap.size w w')) (H2 : Hid (∀ w : World, Calls Try.prog 14 #[.agg d] w fun e w' => e = .returned (.agg d2) ∧ Below w.heap.size w w')) (H3 : Hid (∀ w : World, Calls Try.prog 16 #[.agg d2] w fun e w' => e = .returned (wd t) ∧ Below w.heap.size w w')) :
    Calls Try.prog 20 #[wd a] w fun e w' => e = .returned (wd t) ∧ Below w.heap.size w w' := by
  have hz := z4_wa
  have hsz := wa_size
  go_enter Try.func20, Try.ntmps20
  go_upto_region 1 with fail
  have f1 : ((w.alloc (.cells (wa a) 24)).alloc (.cells (wa 0) 24)).heap[w.heap.size]? = some (.cells (wa a) 24) := blk_alloc (blk_new _ rfl)
  have f2 : ((w.alloc (.cells (wa a) 24)).alloc (.cells (wa 0) 24)).heap[w.heap.size + 1]? = some (.cells (wa 0) 24) := blk_new _ (by simp)
  have bW : Below w.heap.size w ((w.alloc (.cells (wa a) 24)).alloc (.cells (wa 0) 24)) := (((Below.refl _ _).alloc (Nat.le_refl _) _).alloc (by simp <;> omega) _)
  have sW : w.heap.size + 2 ≤ ((w.alloc (.cells (wa a) 24)).alloc (.cells (wa 0) 24)).heap.size := by simp
  generalize ((w.alloc (.cells (wa a) 24)).alloc (.cells (wa 0) 24)) = W at *
  go_wp2_with (refine wpList_load_row rfl 24 _ rfl _ rfl 24 _ (0, 0) _ (by assumption) Try.underlying24 rfl Try.infoWa ?_)
  refine (H.out _).mono ?_
  rintro e w0 ⟨rfl, b1⟩
  replace f1 := Below.stays b1 f1
  replace f2 := Below.stays b1 f2
  replace bW := bW.trans (b1.mono bW.size)
  replace sW := Nat.le_trans sW b1.size
  clear b1
  go_wp2_with (refine wpList_load_row rfl 24 _ rfl _ rfl 24 _ (0, 0) _ (by assumption) Try.underlying24 rfl Try.infoWa ?_)
  refine (H1.out _).mono ?_
  rintro e w1 ⟨rfl, b1⟩
  replace f1 := Below.stays b1 f1
  replace f2 := Below.stays b1 f2
  replace bW := bW.trans (b1.mono bW.size)
  replace sW := Nat.le_trans sW b1.size
  clear b1
  go_wp2_with fail
  refine (H2.out _).mono ?_
  rintro e w2 ⟨rfl, b1⟩
  replace f1 := Below.stays b1 f1
  replace f2 := Below.stays b1 f2
  replace bW := bW.trans (b1.mono bW.size)
  replace sW := Nat.le_trans sW b1.size
  clear b1
  go_wp2_with fail
  refine (H3.out _).mono ?_
  rintro e w3 ⟨rfl, b1⟩
  replace f1 := Below.stays b1 f1
  replace f2 := Below.stays b1 f2
  replace bW := bW.trans (b1.mono bW.size)
  replace sW := Nat.le_trans sW b1.size
  clear b1
  go_wp2_with (refine wpList_store_row rfl 24 (.tmp 2) _ rfl _ _ (wa t) rfl rfl f2 Try.infoWa rfl wa_one ?_)
  have e2 := word_cells (blk_row (c' := wa t) f2)
  exact bodyPost_ret (v := wd t) (by simp [results, Try.results20, go_sem, e2, fold_wa]) rfl ⟨rfl, below_setRow bW (by omega) _⟩
theorem rsize_wd (a : Nat) (w : World) : Calls Try.prog 20 #[wd a] w fun e w' => e = .returned (wd (sz a)) ∧ Below w.heap.size w w' := by
  have hb := fun w => rbelow_wd a w
  unfold sz
  cases h : bel a
  · rw [h] at hb
    exact rsize_walk0 a w (Lib.hid hb)
  · rw [h] at hb
    exact rsize_walk1 a _ _ _ w (Lib.hid hb) (Lib.hid fun w => of_ref a w) (Lib.hid fun w => neg_ref a w) (Lib.hid fun w => word_ref (ng a) w)

set_option maxHeartbeats 2000000 in
theorem rless_walk (a b : Nat) (z : Int) (d da' db' sa sb : Array Value) (w : World) (hi : Hid ((Try.prog.info? 31).map (·.size) = some d.size)) (hn : Hid (zD.size = d.size)) (ho : Hid (d.all (·.oneCell') = true)) (H0 : Hid (∀ w : World, Calls Try.prog 15 #[.agg #[.int .u64 0, .int .u64 0, .int .u64 0, .int .u64 9223372036854775808]] w fun e w' => e = .returned (.agg d) ∧ Below w.heap.size w w')) (H1 : Hid (∀ w : World, Calls Try.prog 15 #[wd a] w fun e w' => e = .returned (.agg da') ∧ Below w.heap.size w w')) (H2 : Hid (∀ w : World, Calls Try.prog 15 #[wd b] w fun e w' => e = .returned (.agg db') ∧ Below w.heap.size w w')) (H3 : Hid (∀ w : World, Calls Try.prog 17 #[.agg da', .agg d] w fun e w' => e = .returned (.agg sa) ∧ Below w.heap.size w w')) (H4 : Hid (∀ w : World, Calls Try.prog 17 #[.agg db', .agg d] w fun e w' => e = .returned (.agg sb) ∧ Below w.heap.size w w')) (H5 : Hid (∀ w : World, Calls Try.prog 19 #[.agg sa, .agg sb] w fun e w' => e = .returned (.int .i64 z) ∧ Below w.heap.size w w')) :
    Calls Try.prog 22 #[wd a, wd b] w fun e w' => e = .returned (.bool (decide (z < 0))) ∧ Below w.heap.size w w' := by
  have hsz := wa_size
  have hds : ∀ x, (da x).size = 32 := fun x => arr_size _ _ _
  go_enter Try.func22, Try.ntmps22
  go_upto_region 1 with fail
  have f2 : ((w.alloc (.cells (wa a) 24)).alloc (.cells (wa b) 24)).heap[w.heap.size]? = some (.cells (wa a) 24) := blk_alloc (blk_new _ rfl)
  have f3 : ((w.alloc (.cells (wa a) 24)).alloc (.cells (wa b) 24)).heap[w.heap.size + 1]? = some (.cells (wa b) 24) := blk_new _ (by simp)
  have bW : Below w.heap.size w ((w.alloc (.cells (wa a) 24)).alloc (.cells (wa b) 24)) := (((Below.refl _ _).alloc (Nat.le_refl _) _).alloc (by simp <;> omega) _)
  have sW : w.heap.size + 2 ≤ ((w.alloc (.cells (wa a) 24)).alloc (.cells (wa b) 24)).heap.size := by simp
  generalize ((w.alloc (.cells (wa a) 24)).alloc (.cells (wa b) 24)) = W at *
  go_wp2_with fail
  refine (H0.out _).mono ?_
  rintro e w1 ⟨rfl, b1⟩
  replace f2 := Below.stays b1 f2
  replace f3 := Below.stays b1 f3
  replace bW := bW.trans (b1.mono bW.size)
  replace sW := Nat.le_trans sW b1.size
  clear b1
  go_upto_region 2 with (first | (refine wpList_alloc_row rfl 31 rfl zD zD_run ?_) | (refine wpList_store_row rfl 31 (.tmp 5) _ rfl _ zD d rfl rfl (heap_alloc_new _ _) hi.out hn.out ho.out ?_))
  simp only [Act.put, List.setIfInBounds_toArray, List.set_cons_succ, List.set_cons_zero]
  rw [World.setRow_alloc_new]
  replace f2 := blk_alloc (o' := .cells (d) 31) f2
  replace f3 := blk_alloc (o' := .cells (d) 31) f3
  have f5 : (w1.alloc (.cells (d) 31)).heap[w1.heap.size]? = some (.cells (d) 31) := heap_alloc_new _ _
  replace bW : Below w.heap.size w (w1.alloc (.cells (d) 31)) := bW.alloc (by omega) _
  have sb5 : w1.heap.size + 1 ≤ (w1.alloc (.cells (d) 31)).heap.size := by simp
  generalize (w1.alloc (.cells (d) 31)) = w2 at *
  generalize w1.heap.size = b5 at *
  have lb5 := sW
  replace sW := Nat.le_trans (Nat.le_succ_of_le sW) sb5
  have g2 := fun g : Ext w2 => g.word f2
  have g3 := fun g : Ext w2 => g.word f3
  have fo := fold_wa
  refine region_ext (by kernel_rfl) (by kernel_rfl) ?_
  repeat (first | (go_big_quiet_want; refine quiet_load_row 31 _ rfl _ d rfl (fun w2 hw2 => by obtain ⟨g, rfl⟩ := hw2; exact g.block f5) Try.underlying31 hi.out ?_; simp only [Act.put, List.setIfInBounds_toArray, List.set_cons_succ, List.set_cons_zero]; go_big_quiet_on) | go_big_quiet_step (first | (go_at_call 15; first | with_reducible exact calls_ext (H1.out _) | with_reducible exact calls_ext (H2.out _)) | (go_at_call 17; first | with_reducible exact calls_ext (H3.out _) | with_reducible exact calls_ext (H4.out _)) | (go_at_call 19; with_reducible exact calls_ext (H5.out _))))
  refine wpQuiet_nil ?_
  rintro _ ⟨g, rfl⟩
  go_wp2
  go_ret
  exact ⟨rfl, bW.trans (g.below.mono bW.size)⟩
theorem rless_wd (a b : Nat) (w : World) : Calls Try.prog 22 #[wd a, wd b] w fun e w' => e = .returned (.bool (sless a b)) ∧ Below w.heap.size w w' := by
  unfold sless
  rw [← cmpN_neg]
  exact rless_walk a b _ (da Hf) (da a) (da b) (da (a + Hf)) (da (b + Hf)) w (Lib.hid (infoArr _)) (Lib.hid rfl) (Lib.hid (arr_one _ _ _)) (Lib.hid fun w => of_ref Hf w) (Lib.hid fun w => of_ref a w) (Lib.hid fun w => of_ref b w) (Lib.hid fun w => add_ref a Hf w) (Lib.hid fun w => add_ref b Hf w) (Lib.hid fun w => compare_ref _ _ w)
end Go.Proofs.Ytlobchkbkdjccaa
