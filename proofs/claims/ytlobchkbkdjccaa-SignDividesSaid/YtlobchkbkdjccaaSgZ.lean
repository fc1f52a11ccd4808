/- What the document's quotient with signs returns, in numbers; all older memory is as it was. -/
import Derived.Test.YtlobchkbkdjccaaSgE
import Derived.Test.YtlobchkbkdjccaaNumH
import Derived.Deep.RegionHeld3
import Derived.Deep.DeepCutAuto
namespace Go.Proofs.Ytlobchkbkdjccaa
open Go.RowKit SmWord
set_option maxRecDepth 100000

set_option maxHeartbeats 4000000 in
theorem rsdiv_walk00 (a b x y qq rr : Nat) (w : World) (hq : Hid (x % M / (y % M) = qq)) (hr : Hid (rs (x % M) (y % M) = rr)) (H1 : Hid (∀ w : World, Calls Try.prog 20 #[wd a] w fun e w' => e = .returned (wd x) ∧ Below w.heap.size w w')) (H2 : Hid (∀ w : World, Calls Try.prog 20 #[wd b] w fun e w' => e = .returned (wd y) ∧ Below w.heap.size w w')) (H4 : Hid (∀ w : World, Calls Try.prog 12 #[wd a] w fun e w' => e = .returned (.bool false) ∧ Below w.heap.size w w')) (H5 : Hid (∀ w : World, Calls Try.prog 12 #[wd b] w fun e w' => e = .returned (.bool false) ∧ Below w.heap.size w w')) :
    Calls Try.prog 9 #[wd a, wd b] w fun e w' => e = .returned (.tuple #[wd qq, wd rr]) ∧ Below w.heap.size w w' := by
  have hz := z4_wa
  have hsz := wa_size
  go_enter Try.func9, Try.ntmps9
  go_upto_region 1 with fail
  have f2 : ((((w.alloc (.cells (wa a) 24)).alloc (.cells (wa b) 24)).alloc (.cells (wa 0) 24)).alloc (.cells (wa 0) 24)).heap[w.heap.size]? = some (.cells (wa a) 24) := blk_alloc (blk_alloc (blk_alloc (blk_new _ rfl)))
  have f3 : ((((w.alloc (.cells (wa a) 24)).alloc (.cells (wa b) 24)).alloc (.cells (wa 0) 24)).alloc (.cells (wa 0) 24)).heap[w.heap.size + 1]? = some (.cells (wa b) 24) := blk_alloc (blk_alloc (blk_new _ (by simp)))
  have f4 : ((((w.alloc (.cells (wa a) 24)).alloc (.cells (wa b) 24)).alloc (.cells (wa 0) 24)).alloc (.cells (wa 0) 24)).heap[w.heap.size + 1 + 1]? = some (.cells (wa 0) 24) := blk_alloc (blk_new _ (by simp))
  have f5 : ((((w.alloc (.cells (wa a) 24)).alloc (.cells (wa b) 24)).alloc (.cells (wa 0) 24)).alloc (.cells (wa 0) 24)).heap[w.heap.size + 1 + 1 + 1]? = some (.cells (wa 0) 24) := blk_new _ (by simp)
  have bW : Below w.heap.size w ((((w.alloc (.cells (wa a) 24)).alloc (.cells (wa b) 24)).alloc (.cells (wa 0) 24)).alloc (.cells (wa 0) 24)) := (((((Below.refl _ _).alloc (Nat.le_refl _) _).alloc (by simp <;> omega) _).alloc (by simp <;> omega) _).alloc (by simp <;> omega) _)
  have sW : w.heap.size + 4 ≤ ((((w.alloc (.cells (wa a) 24)).alloc (.cells (wa b) 24)).alloc (.cells (wa 0) 24)).alloc (.cells (wa 0) 24)).heap.size := by simp
  generalize ((((w.alloc (.cells (wa a) 24)).alloc (.cells (wa b) 24)).alloc (.cells (wa 0) 24)).alloc (.cells (wa 0) 24)) = W at *
  go_cut [6, 7] (fun s6 s7 wx => NumS wx s6 32 qq ∧ (∃ kr, NumS wx s7 kr rr) ∧ wx.heap[w.heap.size]? = some (.cells (wa a) 24) ∧ wx.heap[w.heap.size + 1]? = some (.cells (wa b) 24) ∧ wx.heap[w.heap.size + 1 + 1]? = some (.cells (wa 0) 24) ∧ wx.heap[w.heap.size + 1 + 1 + 1]? = some (.cells (wa 0) 24) ∧ Below w.heap.size w wx ∧ w.heap.size + 4 ≤ wx.heap.size)
  case first =>
    have fo := fold_wa
    have bR := bW.drew
    clear hz
    go_region_held3 (fun w' => (w'.cell? ⟨w.heap.size, 0, none⟩ = some (.int .u64 ((l0 a : Nat) : Int)) ∧ w'.cell? ⟨w.heap.size, 1, none⟩ = some (.int .u64 ((l1 a : Nat) : Int)) ∧ w'.cell? ⟨w.heap.size, 2, none⟩ = some (.int .u64 ((l2 a : Nat) : Int)) ∧ w'.cell? ⟨w.heap.size, 3, none⟩ = some (.int .u64 ((l3 a : Nat) : Int))) ∧ (w'.cell? ⟨w.heap.size + 1, 0, none⟩ = some (.int .u64 ((l0 b : Nat) : Int)) ∧ w'.cell? ⟨w.heap.size + 1, 1, none⟩ = some (.int .u64 ((l1 b : Nat) : Int)) ∧ w'.cell? ⟨w.heap.size + 1, 2, none⟩ = some (.int .u64 ((l2 b : Nat) : Int)) ∧ w'.cell? ⟨w.heap.size + 1, 3, none⟩ = some (.int .u64 ((l3 b : Nat) : Int)))) (exact ⟨word_cells f2, word_cells f3⟩) (first | (go_at_call_of 20 (Value.agg (wa a)); refine (H1.out _).mono ?_; rintro e w' ⟨rfl, hA⟩; replace f2 := Below.stays hA f2; replace f3 := Below.stays hA f3; replace f4 := Below.stays hA f4; replace f5 := Below.stays hA f5; replace bR := bR.trans (hA.mono bR.size); (try replace na := na.stays hA); (try replace nb := nb.stays hA)) | (go_at_call_of 20 (Value.agg (wa b)); refine (H2.out _).mono ?_; rintro e w' ⟨rfl, hB⟩; replace f2 := Below.stays hB f2; replace f3 := Below.stays hB f3; replace f4 := Below.stays hB f4; replace f5 := Below.stays hB f5; replace bR := bR.trans (hB.mono bR.size); (try replace na := na.stays hB); (try replace nb := nb.stays hB)) | (go_at_call_of 32 (wd x); refine (nof_ref x _).mono ?_; rintro e w' ⟨va, rfl, na, hC⟩; replace f2 := Below.stays hC f2; replace f3 := Below.stays hC f3; replace f4 := Below.stays hC f4; replace f5 := Below.stays hC f5; replace bR := bR.trans (hC.mono bR.size); (try replace nb := nb.stays hC)) | (go_at_call_of 32 (wd y); refine (nof_ref y _).mono ?_; rintro e w' ⟨vb, rfl, nb, hD⟩; replace f2 := Below.stays hD f2; replace f3 := Below.stays hD f3; replace f4 := Below.stays hD f4; replace f5 := Below.stays hD f5; replace bR := bR.trans (hD.mono bR.size); (try replace na := na.stays hD)) | (go_at_call 31; refine (rdiv_ref va vb 32 32 (x % M) (y % M) _ na nb ⟨by omega, by omega⟩).mono ?_; rintro e w' ⟨vq, vr, kr, rfl, nq, nr, hE⟩; rw [hq.out] at nq; rw [hr.out] at nr; replace f2 := Below.stays hE f2; replace f3 := Below.stays hE f3; replace f4 := Below.stays hE f4; replace f5 := Below.stays hE f5; replace bR := bR.trans (hE.mono bR.size); (try replace na := na.stays hE)))
    all_goals
      go_wp2_with fail
      go_meet
      exact ⟨nq, ⟨kr, nr⟩, f2, f3, f4, f5, bR, Nat.le_trans (show w.heap.size + 4 ≤ _ from (Array.getElem?_eq_some_iff.1 f5).1) (Nat.le_refl _)⟩
  case rest =>
    clear f2 f3 f4 f5 bW sW
    obtain ⟨nq, ⟨kr, nr⟩, f2, f3, f4, f5, bW, sW⟩ := hcut
    have hs := store_new0
    go_wp2_with fail
    refine (nword_ref _ _ _ _ nq).mono ?_
    rintro e w1 ⟨rfl, b1⟩
    replace nr := nr.stays b1
    replace f2 := Below.stays b1 f2
    replace f3 := Below.stays b1 f3
    replace f4 := Below.stays b1 f4
    replace f5 := Below.stays b1 f5
    replace bW := bW.trans (b1.mono bW.size)
    replace sW := Nat.le_trans sW b1.size
    clear b1
    go_upto_region 3 with fail
    replace nr := nr.stays ((Below.refl _ _).alloc (Nat.le_refl _) (.cells (wa qq) 24))
    replace f2 := blk_alloc (o' := .cells (wa qq) 24) f2
    replace f3 := blk_alloc (o' := .cells (wa qq) 24) f3
    replace f4 := blk_alloc (o' := .cells (wa qq) 24) f4
    replace f5 := blk_alloc (o' := .cells (wa qq) 24) f5
    have f8 : (w1.alloc (.cells (wa qq) 24)).heap[w1.heap.size]? = some (.cells (wa qq) 24) := heap_alloc_new _ _
    replace bW : Below w.heap.size w (w1.alloc (.cells (wa qq) 24)) := bW.alloc (by omega) _
    have sb8 : w1.heap.size + 1 ≤ (w1.alloc (.cells (wa qq) 24)).heap.size := by simp
    generalize (w1.alloc (.cells (wa qq) 24)) = w2 at *
    generalize w1.heap.size = b8 at *
    have lb8 := sW
    replace sW := Nat.le_trans (Nat.le_succ_of_le sW) sb8
    go_wp2_with fail
    refine (nword_ref _ _ _ _ nr).mono ?_
    rintro e w3 ⟨rfl, b1⟩
    clear nr
    replace f2 := Below.stays b1 f2
    replace f3 := Below.stays b1 f3
    replace f4 := Below.stays b1 f4
    replace f5 := Below.stays b1 f5
    replace f8 := Below.stays b1 f8
    replace bW := bW.trans (b1.mono bW.size)
    replace sW := Nat.le_trans sW b1.size
    clear b1
    go_upto_region 4 with fail
    have ub8b9 : b8 + 1 ≤ w3.heap.size := (Array.getElem?_eq_some_iff.1 f8).1
    replace f2 := blk_alloc (o' := .cells (wa rr) 24) f2
    replace f3 := blk_alloc (o' := .cells (wa rr) 24) f3
    replace f4 := blk_alloc (o' := .cells (wa rr) 24) f4
    replace f5 := blk_alloc (o' := .cells (wa rr) 24) f5
    replace f8 := blk_alloc (o' := .cells (wa rr) 24) f8
    have f9 : (w3.alloc (.cells (wa rr) 24)).heap[w3.heap.size]? = some (.cells (wa rr) 24) := heap_alloc_new _ _
    replace bW : Below w.heap.size w (w3.alloc (.cells (wa rr) 24)) := bW.alloc (by omega) _
    have sb9 : w3.heap.size + 1 ≤ (w3.alloc (.cells (wa rr) 24)).heap.size := by simp
    generalize (w3.alloc (.cells (wa rr) 24)) = w4 at *
    generalize w3.heap.size = b9 at *
    have lb9 := sW
    replace sW := Nat.le_trans (Nat.le_succ_of_le sW) sb9
    clear hs hz
    have g2 := fun g : Ext w4 => g.word f2
    have g3 := fun g : Ext w4 => g.word f3
    have fo := fold_wa
    refine region_ext (by kernel_rfl) (by kernel_rfl) ?_
    repeat (go_big_quiet_step ((go_at_call 12; first | with_reducible exact calls_ext (H4.out _) | with_reducible exact calls_ext (H5.out _))))
    refine wpQuiet_nil ?_
    rintro _ ⟨g, rfl⟩
    clear g2 g3 fo
    have b1 := g.below
    replace f2 := Below.stays b1 f2
    replace f3 := Below.stays b1 f3
    replace f4 := Below.stays b1 f4
    replace f5 := Below.stays b1 f5
    replace f8 := Below.stays b1 f8
    replace f9 := Below.stays b1 f9
    replace bW := bW.trans (b1.mono bW.size)
    replace sW := Nat.le_trans sW b1.size
    clear b1
    generalize g.on = w8 at *
    go_wp2_with (refine wpList_load_row rfl 24 _ rfl _ rfl 24 _ (0, 0) _ (by assumption) Try.underlying24 rfl Try.infoWa ?_)
    refine (H4.out _).mono ?_
    rintro e w11 ⟨rfl, b1⟩
    replace f2 := Below.stays b1 f2
    replace f3 := Below.stays b1 f3
    replace f4 := Below.stays b1 f4
    replace f5 := Below.stays b1 f5
    replace f8 := Below.stays b1 f8
    replace f9 := Below.stays b1 f9
    replace bW := bW.trans (b1.mono bW.size)
    replace sW := Nat.le_trans sW b1.size
    clear b1
    go_wp2_with fail
    have d6 := word_cells f8
    have d7 := word_cells f9
    have fo := fold_wa
    have k1 := store_old (w := w11.drew) (m := qq) f4
    have k2 := store_old (m := rr) (blk_row_other (w := w11.drew) (b := w.heap.size + 1 + 1) (c' := wa qq) f5 (by omega))
    have d8 := word_cells (blk_row_other (w := w11.drew) (b := w.heap.size + 1 + 1) (c' := wa qq) f9 (by omega))
    go_region
    all_goals
      have e4 := word_cells (blk_row_other (b := w.heap.size + 1 + 1 + 1) (c' := wa rr) (blk_row (w := w11.drew) (c' := wa qq) f4) (by omega))
      have e5 := word_cells (blk_row (c' := wa rr) (blk_row_other (w := w11.drew) (b := w.heap.size + 1 + 1) (c' := wa qq) f5 (by omega)))
      clear k1 k2 d6 d7 d8 fo
      go_wp2_with fail
      exact bodyPost_ret (v := .tuple #[wd qq, wd rr]) (by simp [results, Try.results9, go_sem, e4, e5, fold_wa]) rfl ⟨rfl, below_setRow (below_setRow bW.drew (by omega) _) (by omega) _⟩

set_option maxHeartbeats 4000000 in
theorem rsdiv_walk01 (a b x y qq rr : Nat) (w : World) (hq : Hid (x % M / (y % M) = qq)) (hr : Hid (rs (x % M) (y % M) = rr)) (H1 : Hid (∀ w : World, Calls Try.prog 20 #[wd a] w fun e w' => e = .returned (wd x) ∧ Below w.heap.size w w')) (H2 : Hid (∀ w : World, Calls Try.prog 20 #[wd b] w fun e w' => e = .returned (wd y) ∧ Below w.heap.size w w')) (H4 : Hid (∀ w : World, Calls Try.prog 12 #[wd a] w fun e w' => e = .returned (.bool false) ∧ Below w.heap.size w w')) (H5 : Hid (∀ w : World, Calls Try.prog 12 #[wd b] w fun e w' => e = .returned (.bool true) ∧ Below w.heap.size w w')) (H6 : Hid (∀ (n : Nat) (w : World), Calls Try.prog 34 #[wd n] w fun e w' => e = .returned (wd (ng n)) ∧ Below w.heap.size w w')) :
    Calls Try.prog 9 #[wd a, wd b] w fun e w' => e = .returned (.tuple #[wd (ng qq), wd rr]) ∧ Below w.heap.size w w' := by
  have hz := z4_wa
  have hsz := wa_size
  go_enter Try.func9, Try.ntmps9
  go_upto_region 1 with fail
  have f2 : ((((w.alloc (.cells (wa a) 24)).alloc (.cells (wa b) 24)).alloc (.cells (wa 0) 24)).alloc (.cells (wa 0) 24)).heap[w.heap.size]? = some (.cells (wa a) 24) := blk_alloc (blk_alloc (blk_alloc (blk_new _ rfl)))
  have f3 : ((((w.alloc (.cells (wa a) 24)).alloc (.cells (wa b) 24)).alloc (.cells (wa 0) 24)).alloc (.cells (wa 0) 24)).heap[w.heap.size + 1]? = some (.cells (wa b) 24) := blk_alloc (blk_alloc (blk_new _ (by simp)))
  have f4 : ((((w.alloc (.cells (wa a) 24)).alloc (.cells (wa b) 24)).alloc (.cells (wa 0) 24)).alloc (.cells (wa 0) 24)).heap[w.heap.size + 1 + 1]? = some (.cells (wa 0) 24) := blk_alloc (blk_new _ (by simp))
  have f5 : ((((w.alloc (.cells (wa a) 24)).alloc (.cells (wa b) 24)).alloc (.cells (wa 0) 24)).alloc (.cells (wa 0) 24)).heap[w.heap.size + 1 + 1 + 1]? = some (.cells (wa 0) 24) := blk_new _ (by simp)
  have bW : Below w.heap.size w ((((w.alloc (.cells (wa a) 24)).alloc (.cells (wa b) 24)).alloc (.cells (wa 0) 24)).alloc (.cells (wa 0) 24)) := (((((Below.refl _ _).alloc (Nat.le_refl _) _).alloc (by simp <;> omega) _).alloc (by simp <;> omega) _).alloc (by simp <;> omega) _)
  have sW : w.heap.size + 4 ≤ ((((w.alloc (.cells (wa a) 24)).alloc (.cells (wa b) 24)).alloc (.cells (wa 0) 24)).alloc (.cells (wa 0) 24)).heap.size := by simp
  generalize ((((w.alloc (.cells (wa a) 24)).alloc (.cells (wa b) 24)).alloc (.cells (wa 0) 24)).alloc (.cells (wa 0) 24)) = W at *
  go_cut [6, 7] (fun s6 s7 wx => NumS wx s6 32 qq ∧ (∃ kr, NumS wx s7 kr rr) ∧ wx.heap[w.heap.size]? = some (.cells (wa a) 24) ∧ wx.heap[w.heap.size + 1]? = some (.cells (wa b) 24) ∧ wx.heap[w.heap.size + 1 + 1]? = some (.cells (wa 0) 24) ∧ wx.heap[w.heap.size + 1 + 1 + 1]? = some (.cells (wa 0) 24) ∧ Below w.heap.size w wx ∧ w.heap.size + 4 ≤ wx.heap.size)
  case first =>
    have fo := fold_wa
    have bR := bW.drew
    clear hz
    go_region_held3 (fun w' => (w'.cell? ⟨w.heap.size, 0, none⟩ = some (.int .u64 ((l0 a : Nat) : Int)) ∧ w'.cell? ⟨w.heap.size, 1, none⟩ = some (.int .u64 ((l1 a : Nat) : Int)) ∧ w'.cell? ⟨w.heap.size, 2, none⟩ = some (.int .u64 ((l2 a : Nat) : Int)) ∧ w'.cell? ⟨w.heap.size, 3, none⟩ = some (.int .u64 ((l3 a : Nat) : Int))) ∧ (w'.cell? ⟨w.heap.size + 1, 0, none⟩ = some (.int .u64 ((l0 b : Nat) : Int)) ∧ w'.cell? ⟨w.heap.size + 1, 1, none⟩ = some (.int .u64 ((l1 b : Nat) : Int)) ∧ w'.cell? ⟨w.heap.size + 1, 2, none⟩ = some (.int .u64 ((l2 b : Nat) : Int)) ∧ w'.cell? ⟨w.heap.size + 1, 3, none⟩ = some (.int .u64 ((l3 b : Nat) : Int)))) (exact ⟨word_cells f2, word_cells f3⟩) (first | (go_at_call_of 20 (Value.agg (wa a)); refine (H1.out _).mono ?_; rintro e w' ⟨rfl, hA⟩; replace f2 := Below.stays hA f2; replace f3 := Below.stays hA f3; replace f4 := Below.stays hA f4; replace f5 := Below.stays hA f5; replace bR := bR.trans (hA.mono bR.size); (try replace na := na.stays hA); (try replace nb := nb.stays hA)) | (go_at_call_of 20 (Value.agg (wa b)); refine (H2.out _).mono ?_; rintro e w' ⟨rfl, hB⟩; replace f2 := Below.stays hB f2; replace f3 := Below.stays hB f3; replace f4 := Below.stays hB f4; replace f5 := Below.stays hB f5; replace bR := bR.trans (hB.mono bR.size); (try replace na := na.stays hB); (try replace nb := nb.stays hB)) | (go_at_call_of 32 (wd x); refine (nof_ref x _).mono ?_; rintro e w' ⟨va, rfl, na, hC⟩; replace f2 := Below.stays hC f2; replace f3 := Below.stays hC f3; replace f4 := Below.stays hC f4; replace f5 := Below.stays hC f5; replace bR := bR.trans (hC.mono bR.size); (try replace nb := nb.stays hC)) | (go_at_call_of 32 (wd y); refine (nof_ref y _).mono ?_; rintro e w' ⟨vb, rfl, nb, hD⟩; replace f2 := Below.stays hD f2; replace f3 := Below.stays hD f3; replace f4 := Below.stays hD f4; replace f5 := Below.stays hD f5; replace bR := bR.trans (hD.mono bR.size); (try replace na := na.stays hD)) | (go_at_call 31; refine (rdiv_ref va vb 32 32 (x % M) (y % M) _ na nb ⟨by omega, by omega⟩).mono ?_; rintro e w' ⟨vq, vr, kr, rfl, nq, nr, hE⟩; rw [hq.out] at nq; rw [hr.out] at nr; replace f2 := Below.stays hE f2; replace f3 := Below.stays hE f3; replace f4 := Below.stays hE f4; replace f5 := Below.stays hE f5; replace bR := bR.trans (hE.mono bR.size); (try replace na := na.stays hE)))
    all_goals
      go_wp2_with fail
      go_meet
      exact ⟨nq, ⟨kr, nr⟩, f2, f3, f4, f5, bR, Nat.le_trans (show w.heap.size + 4 ≤ _ from (Array.getElem?_eq_some_iff.1 f5).1) (Nat.le_refl _)⟩
  case rest =>
    clear f2 f3 f4 f5 bW sW
    obtain ⟨nq, ⟨kr, nr⟩, f2, f3, f4, f5, bW, sW⟩ := hcut
    have hs := store_new0
    go_wp2_with fail
    refine (nword_ref _ _ _ _ nq).mono ?_
    rintro e w1 ⟨rfl, b1⟩
    replace nr := nr.stays b1
    replace f2 := Below.stays b1 f2
    replace f3 := Below.stays b1 f3
    replace f4 := Below.stays b1 f4
    replace f5 := Below.stays b1 f5
    replace bW := bW.trans (b1.mono bW.size)
    replace sW := Nat.le_trans sW b1.size
    clear b1
    go_upto_region 3 with fail
    replace nr := nr.stays ((Below.refl _ _).alloc (Nat.le_refl _) (.cells (wa qq) 24))
    replace f2 := blk_alloc (o' := .cells (wa qq) 24) f2
    replace f3 := blk_alloc (o' := .cells (wa qq) 24) f3
    replace f4 := blk_alloc (o' := .cells (wa qq) 24) f4
    replace f5 := blk_alloc (o' := .cells (wa qq) 24) f5
    have f8 : (w1.alloc (.cells (wa qq) 24)).heap[w1.heap.size]? = some (.cells (wa qq) 24) := heap_alloc_new _ _
    replace bW : Below w.heap.size w (w1.alloc (.cells (wa qq) 24)) := bW.alloc (by omega) _
    have sb8 : w1.heap.size + 1 ≤ (w1.alloc (.cells (wa qq) 24)).heap.size := by simp
    generalize (w1.alloc (.cells (wa qq) 24)) = w2 at *
    generalize w1.heap.size = b8 at *
    have lb8 := sW
    replace sW := Nat.le_trans (Nat.le_succ_of_le sW) sb8
    go_wp2_with fail
    refine (nword_ref _ _ _ _ nr).mono ?_
    rintro e w3 ⟨rfl, b1⟩
    clear nr
    replace f2 := Below.stays b1 f2
    replace f3 := Below.stays b1 f3
    replace f4 := Below.stays b1 f4
    replace f5 := Below.stays b1 f5
    replace f8 := Below.stays b1 f8
    replace bW := bW.trans (b1.mono bW.size)
    replace sW := Nat.le_trans sW b1.size
    clear b1
    go_upto_region 4 with fail
    have ub8b9 : b8 + 1 ≤ w3.heap.size := (Array.getElem?_eq_some_iff.1 f8).1
    replace f2 := blk_alloc (o' := .cells (wa rr) 24) f2
    replace f3 := blk_alloc (o' := .cells (wa rr) 24) f3
    replace f4 := blk_alloc (o' := .cells (wa rr) 24) f4
    replace f5 := blk_alloc (o' := .cells (wa rr) 24) f5
    replace f8 := blk_alloc (o' := .cells (wa rr) 24) f8
    have f9 : (w3.alloc (.cells (wa rr) 24)).heap[w3.heap.size]? = some (.cells (wa rr) 24) := heap_alloc_new _ _
    replace bW : Below w.heap.size w (w3.alloc (.cells (wa rr) 24)) := bW.alloc (by omega) _
    have sb9 : w3.heap.size + 1 ≤ (w3.alloc (.cells (wa rr) 24)).heap.size := by simp
    generalize (w3.alloc (.cells (wa rr) 24)) = w4 at *
    generalize w3.heap.size = b9 at *
    have lb9 := sW
    replace sW := Nat.le_trans (Nat.le_succ_of_le sW) sb9
    clear hs hz
    have g2 := fun g : Ext w4 => g.word f2
    have g3 := fun g : Ext w4 => g.word f3
    have fo := fold_wa
    refine region_ext (by kernel_rfl) (by kernel_rfl) ?_
    repeat (go_big_quiet_step ((go_at_call 12; first | with_reducible exact calls_ext (H4.out _) | with_reducible exact calls_ext (H5.out _))))
    refine wpQuiet_nil ?_
    rintro _ ⟨g, rfl⟩
    clear g2 g3 fo
    have b1 := g.below
    replace f2 := Below.stays b1 f2
    replace f3 := Below.stays b1 f3
    replace f4 := Below.stays b1 f4
    replace f5 := Below.stays b1 f5
    replace f8 := Below.stays b1 f8
    replace f9 := Below.stays b1 f9
    replace bW := bW.trans (b1.mono bW.size)
    replace sW := Nat.le_trans sW b1.size
    clear b1
    generalize g.on = w8 at *
    go_wp2_with (refine wpList_load_row rfl 24 _ rfl _ rfl 24 _ (0, 0) _ (by assumption) Try.underlying24 rfl Try.infoWa ?_)
    refine (H6.out _ _).mono ?_
    rintro e w9 ⟨rfl, b1⟩
    replace f2 := Below.stays b1 f2
    replace f3 := Below.stays b1 f3
    replace f4 := Below.stays b1 f4
    replace f5 := Below.stays b1 f5
    replace f8 := Below.stays b1 f8
    replace f9 := Below.stays b1 f9
    replace bW := bW.trans (b1.mono bW.size)
    replace sW := Nat.le_trans sW b1.size
    clear b1
    go_upto_region 6 with (refine wpList_store_row rfl 24 (.tmp 8) _ rfl _ _ (wa (ng qq)) rfl rfl f8 Try.infoWa rfl wa_one ?_)
    simp only [Act.put]
    replace f2 := blk_row_other (b := b8) (c' := wa (ng qq)) f2 (by omega)
    replace f3 := blk_row_other (b := b8) (c' := wa (ng qq)) f3 (by omega)
    replace f4 := blk_row_other (b := b8) (c' := wa (ng qq)) f4 (by omega)
    replace f5 := blk_row_other (b := b8) (c' := wa (ng qq)) f5 (by omega)
    replace f9 := blk_row_other (b := b8) (c' := wa (ng qq)) f9 (by omega)
    replace f8 := blk_row (c' := wa (ng qq)) f8
    replace bW : Below w.heap.size w (w9.setRow (b8) (wa (ng qq))) := below_setRow bW (by omega) _
    replace sW := Nat.le_trans sW (Nat.le_of_eq (setRow_size w9 (b8) (wa (ng qq))).symm)
    generalize (w9.setRow (b8) (wa (ng qq))) = w10 at *
    go_wp2_with (refine wpList_load_row rfl 24 _ rfl _ rfl 24 _ (0, 0) _ (by assumption) Try.underlying24 rfl Try.infoWa ?_)
    refine (H4.out _).mono ?_
    rintro e w11 ⟨rfl, b1⟩
    replace f2 := Below.stays b1 f2
    replace f3 := Below.stays b1 f3
    replace f4 := Below.stays b1 f4
    replace f5 := Below.stays b1 f5
    replace f8 := Below.stays b1 f8
    replace f9 := Below.stays b1 f9
    replace bW := bW.trans (b1.mono bW.size)
    replace sW := Nat.le_trans sW b1.size
    clear b1
    go_wp2_with fail
    have d6 := word_cells f8
    have d7 := word_cells f9
    have fo := fold_wa
    have k1 := store_old (w := w11.drew) (m := (ng qq)) f4
    have k2 := store_old (m := rr) (blk_row_other (w := w11.drew) (b := w.heap.size + 1 + 1) (c' := wa (ng qq)) f5 (by omega))
    have d8 := word_cells (blk_row_other (w := w11.drew) (b := w.heap.size + 1 + 1) (c' := wa (ng qq)) f9 (by omega))
    go_region
    all_goals
      have e4 := word_cells (blk_row_other (b := w.heap.size + 1 + 1 + 1) (c' := wa rr) (blk_row (w := w11.drew) (c' := wa (ng qq)) f4) (by omega))
      have e5 := word_cells (blk_row (c' := wa rr) (blk_row_other (w := w11.drew) (b := w.heap.size + 1 + 1) (c' := wa (ng qq)) f5 (by omega)))
      clear k1 k2 d6 d7 d8 fo
      go_wp2_with fail
      exact bodyPost_ret (v := .tuple #[wd (ng qq), wd rr]) (by simp [results, Try.results9, go_sem, e4, e5, fold_wa]) rfl ⟨rfl, below_setRow (below_setRow bW.drew (by omega) _) (by omega) _⟩

set_option maxHeartbeats 4000000 in
theorem rsdiv_walk10 (a b x y qq rr : Nat) (w : World) (hq : Hid (x % M / (y % M) = qq)) (hr : Hid (rs (x % M) (y % M) = rr)) (H1 : Hid (∀ w : World, Calls Try.prog 20 #[wd a] w fun e w' => e = .returned (wd x) ∧ Below w.heap.size w w')) (H2 : Hid (∀ w : World, Calls Try.prog 20 #[wd b] w fun e w' => e = .returned (wd y) ∧ Below w.heap.size w w')) (H4 : Hid (∀ w : World, Calls Try.prog 12 #[wd a] w fun e w' => e = .returned (.bool true) ∧ Below w.heap.size w w')) (H5 : Hid (∀ w : World, Calls Try.prog 12 #[wd b] w fun e w' => e = .returned (.bool false) ∧ Below w.heap.size w w')) (H6 : Hid (∀ (n : Nat) (w : World), Calls Try.prog 34 #[wd n] w fun e w' => e = .returned (wd (ng n)) ∧ Below w.heap.size w w')) :
    Calls Try.prog 9 #[wd a, wd b] w fun e w' => e = .returned (.tuple #[wd (ng qq), wd (ng rr)]) ∧ Below w.heap.size w w' := by
  have hz := z4_wa
  have hsz := wa_size
  go_enter Try.func9, Try.ntmps9
  go_upto_region 1 with fail
  have f2 : ((((w.alloc (.cells (wa a) 24)).alloc (.cells (wa b) 24)).alloc (.cells (wa 0) 24)).alloc (.cells (wa 0) 24)).heap[w.heap.size]? = some (.cells (wa a) 24) := blk_alloc (blk_alloc (blk_alloc (blk_new _ rfl)))
  have f3 : ((((w.alloc (.cells (wa a) 24)).alloc (.cells (wa b) 24)).alloc (.cells (wa 0) 24)).alloc (.cells (wa 0) 24)).heap[w.heap.size + 1]? = some (.cells (wa b) 24) := blk_alloc (blk_alloc (blk_new _ (by simp)))
  have f4 : ((((w.alloc (.cells (wa a) 24)).alloc (.cells (wa b) 24)).alloc (.cells (wa 0) 24)).alloc (.cells (wa 0) 24)).heap[w.heap.size + 1 + 1]? = some (.cells (wa 0) 24) := blk_alloc (blk_new _ (by simp))
  have f5 : ((((w.alloc (.cells (wa a) 24)).alloc (.cells (wa b) 24)).alloc (.cells (wa 0) 24)).alloc (.cells (wa 0) 24)).heap[w.heap.size + 1 + 1 + 1]? = some (.cells (wa 0) 24) := blk_new _ (by simp)
  have bW : Below w.heap.size w ((((w.alloc (.cells (wa a) 24)).alloc (.cells (wa b) 24)).alloc (.cells (wa 0) 24)).alloc (.cells (wa 0) 24)) := (((((Below.refl _ _).alloc (Nat.le_refl _) _).alloc (by simp <;> omega) _).alloc (by simp <;> omega) _).alloc (by simp <;> omega) _)
  have sW : w.heap.size + 4 ≤ ((((w.alloc (.cells (wa a) 24)).alloc (.cells (wa b) 24)).alloc (.cells (wa 0) 24)).alloc (.cells (wa 0) 24)).heap.size := by simp
  generalize ((((w.alloc (.cells (wa a) 24)).alloc (.cells (wa b) 24)).alloc (.cells (wa 0) 24)).alloc (.cells (wa 0) 24)) = W at *
  go_cut [6, 7] (fun s6 s7 wx => NumS wx s6 32 qq ∧ (∃ kr, NumS wx s7 kr rr) ∧ wx.heap[w.heap.size]? = some (.cells (wa a) 24) ∧ wx.heap[w.heap.size + 1]? = some (.cells (wa b) 24) ∧ wx.heap[w.heap.size + 1 + 1]? = some (.cells (wa 0) 24) ∧ wx.heap[w.heap.size + 1 + 1 + 1]? = some (.cells (wa 0) 24) ∧ Below w.heap.size w wx ∧ w.heap.size + 4 ≤ wx.heap.size)
  case first =>
    have fo := fold_wa
    have bR := bW.drew
    clear hz
    go_region_held3 (fun w' => (w'.cell? ⟨w.heap.size, 0, none⟩ = some (.int .u64 ((l0 a : Nat) : Int)) ∧ w'.cell? ⟨w.heap.size, 1, none⟩ = some (.int .u64 ((l1 a : Nat) : Int)) ∧ w'.cell? ⟨w.heap.size, 2, none⟩ = some (.int .u64 ((l2 a : Nat) : Int)) ∧ w'.cell? ⟨w.heap.size, 3, none⟩ = some (.int .u64 ((l3 a : Nat) : Int))) ∧ (w'.cell? ⟨w.heap.size + 1, 0, none⟩ = some (.int .u64 ((l0 b : Nat) : Int)) ∧ w'.cell? ⟨w.heap.size + 1, 1, none⟩ = some (.int .u64 ((l1 b : Nat) : Int)) ∧ w'.cell? ⟨w.heap.size + 1, 2, none⟩ = some (.int .u64 ((l2 b : Nat) : Int)) ∧ w'.cell? ⟨w.heap.size + 1, 3, none⟩ = some (.int .u64 ((l3 b : Nat) : Int)))) (exact ⟨word_cells f2, word_cells f3⟩) (first | (go_at_call_of 20 (Value.agg (wa a)); refine (H1.out _).mono ?_; rintro e w' ⟨rfl, hA⟩; replace f2 := Below.stays hA f2; replace f3 := Below.stays hA f3; replace f4 := Below.stays hA f4; replace f5 := Below.stays hA f5; replace bR := bR.trans (hA.mono bR.size); (try replace na := na.stays hA); (try replace nb := nb.stays hA)) | (go_at_call_of 20 (Value.agg (wa b)); refine (H2.out _).mono ?_; rintro e w' ⟨rfl, hB⟩; replace f2 := Below.stays hB f2; replace f3 := Below.stays hB f3; replace f4 := Below.stays hB f4; replace f5 := Below.stays hB f5; replace bR := bR.trans (hB.mono bR.size); (try replace na := na.stays hB); (try replace nb := nb.stays hB)) | (go_at_call_of 32 (wd x); refine (nof_ref x _).mono ?_; rintro e w' ⟨va, rfl, na, hC⟩; replace f2 := Below.stays hC f2; replace f3 := Below.stays hC f3; replace f4 := Below.stays hC f4; replace f5 := Below.stays hC f5; replace bR := bR.trans (hC.mono bR.size); (try replace nb := nb.stays hC)) | (go_at_call_of 32 (wd y); refine (nof_ref y _).mono ?_; rintro e w' ⟨vb, rfl, nb, hD⟩; replace f2 := Below.stays hD f2; replace f3 := Below.stays hD f3; replace f4 := Below.stays hD f4; replace f5 := Below.stays hD f5; replace bR := bR.trans (hD.mono bR.size); (try replace na := na.stays hD)) | (go_at_call 31; refine (rdiv_ref va vb 32 32 (x % M) (y % M) _ na nb ⟨by omega, by omega⟩).mono ?_; rintro e w' ⟨vq, vr, kr, rfl, nq, nr, hE⟩; rw [hq.out] at nq; rw [hr.out] at nr; replace f2 := Below.stays hE f2; replace f3 := Below.stays hE f3; replace f4 := Below.stays hE f4; replace f5 := Below.stays hE f5; replace bR := bR.trans (hE.mono bR.size); (try replace na := na.stays hE)))
    all_goals
      go_wp2_with fail
      go_meet
      exact ⟨nq, ⟨kr, nr⟩, f2, f3, f4, f5, bR, Nat.le_trans (show w.heap.size + 4 ≤ _ from (Array.getElem?_eq_some_iff.1 f5).1) (Nat.le_refl _)⟩
  case rest =>
    clear f2 f3 f4 f5 bW sW
    obtain ⟨nq, ⟨kr, nr⟩, f2, f3, f4, f5, bW, sW⟩ := hcut
    have hs := store_new0
    go_wp2_with fail
    refine (nword_ref _ _ _ _ nq).mono ?_
    rintro e w1 ⟨rfl, b1⟩
    replace nr := nr.stays b1
    replace f2 := Below.stays b1 f2
    replace f3 := Below.stays b1 f3
    replace f4 := Below.stays b1 f4
    replace f5 := Below.stays b1 f5
    replace bW := bW.trans (b1.mono bW.size)
    replace sW := Nat.le_trans sW b1.size
    clear b1
    go_upto_region 3 with fail
    replace nr := nr.stays ((Below.refl _ _).alloc (Nat.le_refl _) (.cells (wa qq) 24))
    replace f2 := blk_alloc (o' := .cells (wa qq) 24) f2
    replace f3 := blk_alloc (o' := .cells (wa qq) 24) f3
    replace f4 := blk_alloc (o' := .cells (wa qq) 24) f4
    replace f5 := blk_alloc (o' := .cells (wa qq) 24) f5
    have f8 : (w1.alloc (.cells (wa qq) 24)).heap[w1.heap.size]? = some (.cells (wa qq) 24) := heap_alloc_new _ _
    replace bW : Below w.heap.size w (w1.alloc (.cells (wa qq) 24)) := bW.alloc (by omega) _
    have sb8 : w1.heap.size + 1 ≤ (w1.alloc (.cells (wa qq) 24)).heap.size := by simp
    generalize (w1.alloc (.cells (wa qq) 24)) = w2 at *
    generalize w1.heap.size = b8 at *
    have lb8 := sW
    replace sW := Nat.le_trans (Nat.le_succ_of_le sW) sb8
    go_wp2_with fail
    refine (nword_ref _ _ _ _ nr).mono ?_
    rintro e w3 ⟨rfl, b1⟩
    clear nr
    replace f2 := Below.stays b1 f2
    replace f3 := Below.stays b1 f3
    replace f4 := Below.stays b1 f4
    replace f5 := Below.stays b1 f5
    replace f8 := Below.stays b1 f8
    replace bW := bW.trans (b1.mono bW.size)
    replace sW := Nat.le_trans sW b1.size
    clear b1
    go_upto_region 4 with fail
    have ub8b9 : b8 + 1 ≤ w3.heap.size := (Array.getElem?_eq_some_iff.1 f8).1
    replace f2 := blk_alloc (o' := .cells (wa rr) 24) f2
    replace f3 := blk_alloc (o' := .cells (wa rr) 24) f3
    replace f4 := blk_alloc (o' := .cells (wa rr) 24) f4
    replace f5 := blk_alloc (o' := .cells (wa rr) 24) f5
    replace f8 := blk_alloc (o' := .cells (wa rr) 24) f8
    have f9 : (w3.alloc (.cells (wa rr) 24)).heap[w3.heap.size]? = some (.cells (wa rr) 24) := heap_alloc_new _ _
    replace bW : Below w.heap.size w (w3.alloc (.cells (wa rr) 24)) := bW.alloc (by omega) _
    have sb9 : w3.heap.size + 1 ≤ (w3.alloc (.cells (wa rr) 24)).heap.size := by simp
    generalize (w3.alloc (.cells (wa rr) 24)) = w4 at *
    generalize w3.heap.size = b9 at *
    have lb9 := sW
    replace sW := Nat.le_trans (Nat.le_succ_of_le sW) sb9
    clear hs hz
    have g2 := fun g : Ext w4 => g.word f2
    have g3 := fun g : Ext w4 => g.word f3
    have fo := fold_wa
    refine region_ext (by kernel_rfl) (by kernel_rfl) ?_
    repeat (go_big_quiet_step ((go_at_call 12; first | with_reducible exact calls_ext (H4.out _) | with_reducible exact calls_ext (H5.out _))))
    refine wpQuiet_nil ?_
    rintro _ ⟨g, rfl⟩
    clear g2 g3 fo
    have b1 := g.below
    replace f2 := Below.stays b1 f2
    replace f3 := Below.stays b1 f3
    replace f4 := Below.stays b1 f4
    replace f5 := Below.stays b1 f5
    replace f8 := Below.stays b1 f8
    replace f9 := Below.stays b1 f9
    replace bW := bW.trans (b1.mono bW.size)
    replace sW := Nat.le_trans sW b1.size
    clear b1
    generalize g.on = w8 at *
    go_wp2_with (refine wpList_load_row rfl 24 _ rfl _ rfl 24 _ (0, 0) _ (by assumption) Try.underlying24 rfl Try.infoWa ?_)
    refine (H6.out _ _).mono ?_
    rintro e w9 ⟨rfl, b1⟩
    replace f2 := Below.stays b1 f2
    replace f3 := Below.stays b1 f3
    replace f4 := Below.stays b1 f4
    replace f5 := Below.stays b1 f5
    replace f8 := Below.stays b1 f8
    replace f9 := Below.stays b1 f9
    replace bW := bW.trans (b1.mono bW.size)
    replace sW := Nat.le_trans sW b1.size
    clear b1
    go_upto_region 6 with (refine wpList_store_row rfl 24 (.tmp 8) _ rfl _ _ (wa (ng qq)) rfl rfl f8 Try.infoWa rfl wa_one ?_)
    simp only [Act.put]
    replace f2 := blk_row_other (b := b8) (c' := wa (ng qq)) f2 (by omega)
    replace f3 := blk_row_other (b := b8) (c' := wa (ng qq)) f3 (by omega)
    replace f4 := blk_row_other (b := b8) (c' := wa (ng qq)) f4 (by omega)
    replace f5 := blk_row_other (b := b8) (c' := wa (ng qq)) f5 (by omega)
    replace f9 := blk_row_other (b := b8) (c' := wa (ng qq)) f9 (by omega)
    replace f8 := blk_row (c' := wa (ng qq)) f8
    replace bW : Below w.heap.size w (w9.setRow (b8) (wa (ng qq))) := below_setRow bW (by omega) _
    replace sW := Nat.le_trans sW (Nat.le_of_eq (setRow_size w9 (b8) (wa (ng qq))).symm)
    generalize (w9.setRow (b8) (wa (ng qq))) = w10 at *
    go_wp2_with (refine wpList_load_row rfl 24 _ rfl _ rfl 24 _ (0, 0) _ (by assumption) Try.underlying24 rfl Try.infoWa ?_)
    refine (H4.out _).mono ?_
    rintro e w11 ⟨rfl, b1⟩
    replace f2 := Below.stays b1 f2
    replace f3 := Below.stays b1 f3
    replace f4 := Below.stays b1 f4
    replace f5 := Below.stays b1 f5
    replace f8 := Below.stays b1 f8
    replace f9 := Below.stays b1 f9
    replace bW := bW.trans (b1.mono bW.size)
    replace sW := Nat.le_trans sW b1.size
    clear b1
    go_wp2_with (refine wpList_load_row rfl 24 _ rfl _ rfl 24 _ (0, 0) _ (by assumption) Try.underlying24 rfl Try.infoWa ?_)
    refine (H6.out _ _).mono ?_
    rintro e w12 ⟨rfl, b1⟩
    replace f2 := Below.stays b1 f2
    replace f3 := Below.stays b1 f3
    replace f4 := Below.stays b1 f4
    replace f5 := Below.stays b1 f5
    replace f8 := Below.stays b1 f8
    replace f9 := Below.stays b1 f9
    replace bW := bW.trans (b1.mono bW.size)
    replace sW := Nat.le_trans sW b1.size
    clear b1
    go_upto_region 8 with (refine wpList_store_row rfl 24 (.tmp 9) _ rfl _ _ (wa (ng rr)) rfl rfl f9 Try.infoWa rfl wa_one ?_)
    simp only [Act.put]
    replace f2 := blk_row_other (b := b9) (c' := wa (ng rr)) f2 (by omega)
    replace f3 := blk_row_other (b := b9) (c' := wa (ng rr)) f3 (by omega)
    replace f4 := blk_row_other (b := b9) (c' := wa (ng rr)) f4 (by omega)
    replace f5 := blk_row_other (b := b9) (c' := wa (ng rr)) f5 (by omega)
    replace f8 := blk_row_other (b := b9) (c' := wa (ng rr)) f8 (by omega)
    replace f9 := blk_row (c' := wa (ng rr)) f9
    replace bW : Below w.heap.size w (w12.setRow (b9) (wa (ng rr))) := below_setRow bW (by omega) _
    replace sW := Nat.le_trans sW (Nat.le_of_eq (setRow_size w12 (b9) (wa (ng rr))).symm)
    generalize (w12.setRow (b9) (wa (ng rr))) = w13 at *
    have d6 := word_cells f8
    have d7 := word_cells f9
    have fo := fold_wa
    have k1 := store_old (w := w13.drew) (m := (ng qq)) f4
    have k2 := store_old (m := (ng rr)) (blk_row_other (w := w13.drew) (b := w.heap.size + 1 + 1) (c' := wa (ng qq)) f5 (by omega))
    have d8 := word_cells (blk_row_other (w := w13.drew) (b := w.heap.size + 1 + 1) (c' := wa (ng qq)) f9 (by omega))
    go_region
    all_goals
      have e4 := word_cells (blk_row_other (b := w.heap.size + 1 + 1 + 1) (c' := wa (ng rr)) (blk_row (w := w13.drew) (c' := wa (ng qq)) f4) (by omega))
      have e5 := word_cells (blk_row (c' := wa (ng rr)) (blk_row_other (w := w13.drew) (b := w.heap.size + 1 + 1) (c' := wa (ng qq)) f5 (by omega)))
      clear k1 k2 d6 d7 d8 fo
      go_wp2_with fail
      exact bodyPost_ret (v := .tuple #[wd (ng qq), wd (ng rr)]) (by simp [results, Try.results9, go_sem, e4, e5, fold_wa]) rfl ⟨rfl, below_setRow (below_setRow bW.drew (by omega) _) (by omega) _⟩

set_option maxHeartbeats 4000000 in
theorem rsdiv_walk11 (a b x y qq rr : Nat) (w : World) (hq : Hid (x % M / (y % M) = qq)) (hr : Hid (rs (x % M) (y % M) = rr)) (H1 : Hid (∀ w : World, Calls Try.prog 20 #[wd a] w fun e w' => e = .returned (wd x) ∧ Below w.heap.size w w')) (H2 : Hid (∀ w : World, Calls Try.prog 20 #[wd b] w fun e w' => e = .returned (wd y) ∧ Below w.heap.size w w')) (H4 : Hid (∀ w : World, Calls Try.prog 12 #[wd a] w fun e w' => e = .returned (.bool true) ∧ Below w.heap.size w w')) (H5 : Hid (∀ w : World, Calls Try.prog 12 #[wd b] w fun e w' => e = .returned (.bool true) ∧ Below w.heap.size w w')) (H6 : Hid (∀ (n : Nat) (w : World), Calls Try.prog 34 #[wd n] w fun e w' => e = .returned (wd (ng n)) ∧ Below w.heap.size w w')) :
    Calls Try.prog 9 #[wd a, wd b] w fun e w' => e = .returned (.tuple #[wd qq, wd (ng rr)]) ∧ Below w.heap.size w w' := by
  have hz := z4_wa
  have hsz := wa_size
  go_enter Try.func9, Try.ntmps9
  go_upto_region 1 with fail
  have f2 : ((((w.alloc (.cells (wa a) 24)).alloc (.cells (wa b) 24)).alloc (.cells (wa 0) 24)).alloc (.cells (wa 0) 24)).heap[w.heap.size]? = some (.cells (wa a) 24) := blk_alloc (blk_alloc (blk_alloc (blk_new _ rfl)))
  have f3 : ((((w.alloc (.cells (wa a) 24)).alloc (.cells (wa b) 24)).alloc (.cells (wa 0) 24)).alloc (.cells (wa 0) 24)).heap[w.heap.size + 1]? = some (.cells (wa b) 24) := blk_alloc (blk_alloc (blk_new _ (by simp)))
  have f4 : ((((w.alloc (.cells (wa a) 24)).alloc (.cells (wa b) 24)).alloc (.cells (wa 0) 24)).alloc (.cells (wa 0) 24)).heap[w.heap.size + 1 + 1]? = some (.cells (wa 0) 24) := blk_alloc (blk_new _ (by simp))
  have f5 : ((((w.alloc (.cells (wa a) 24)).alloc (.cells (wa b) 24)).alloc (.cells (wa 0) 24)).alloc (.cells (wa 0) 24)).heap[w.heap.size + 1 + 1 + 1]? = some (.cells (wa 0) 24) := blk_new _ (by simp)
  have bW : Below w.heap.size w ((((w.alloc (.cells (wa a) 24)).alloc (.cells (wa b) 24)).alloc (.cells (wa 0) 24)).alloc (.cells (wa 0) 24)) := (((((Below.refl _ _).alloc (Nat.le_refl _) _).alloc (by simp <;> omega) _).alloc (by simp <;> omega) _).alloc (by simp <;> omega) _)
  have sW : w.heap.size + 4 ≤ ((((w.alloc (.cells (wa a) 24)).alloc (.cells (wa b) 24)).alloc (.cells (wa 0) 24)).alloc (.cells (wa 0) 24)).heap.size := by simp
  generalize ((((w.alloc (.cells (wa a) 24)).alloc (.cells (wa b) 24)).alloc (.cells (wa 0) 24)).alloc (.cells (wa 0) 24)) = W at *
  go_cut [6, 7] (fun s6 s7 wx => NumS wx s6 32 qq ∧ (∃ kr, NumS wx s7 kr rr) ∧ wx.heap[w.heap.size]? = some (.cells (wa a) 24) ∧ wx.heap[w.heap.size + 1]? = some (.cells (wa b) 24) ∧ wx.heap[w.heap.size + 1 + 1]? = some (.cells (wa 0) 24) ∧ wx.heap[w.heap.size + 1 + 1 + 1]? = some (.cells (wa 0) 24) ∧ Below w.heap.size w wx ∧ w.heap.size + 4 ≤ wx.heap.size)
  case first =>
    have fo := fold_wa
    have bR := bW.drew
    clear hz
    go_region_held3 (fun w' => (w'.cell? ⟨w.heap.size, 0, none⟩ = some (.int .u64 ((l0 a : Nat) : Int)) ∧ w'.cell? ⟨w.heap.size, 1, none⟩ = some (.int .u64 ((l1 a : Nat) : Int)) ∧ w'.cell? ⟨w.heap.size, 2, none⟩ = some (.int .u64 ((l2 a : Nat) : Int)) ∧ w'.cell? ⟨w.heap.size, 3, none⟩ = some (.int .u64 ((l3 a : Nat) : Int))) ∧ (w'.cell? ⟨w.heap.size + 1, 0, none⟩ = some (.int .u64 ((l0 b : Nat) : Int)) ∧ w'.cell? ⟨w.heap.size + 1, 1, none⟩ = some (.int .u64 ((l1 b : Nat) : Int)) ∧ w'.cell? ⟨w.heap.size + 1, 2, none⟩ = some (.int .u64 ((l2 b : Nat) : Int)) ∧ w'.cell? ⟨w.heap.size + 1, 3, none⟩ = some (.int .u64 ((l3 b : Nat) : Int)))) (exact ⟨word_cells f2, word_cells f3⟩) (first | (go_at_call_of 20 (Value.agg (wa a)); refine (H1.out _).mono ?_; rintro e w' ⟨rfl, hA⟩; replace f2 := Below.stays hA f2; replace f3 := Below.stays hA f3; replace f4 := Below.stays hA f4; replace f5 := Below.stays hA f5; replace bR := bR.trans (hA.mono bR.size); (try replace na := na.stays hA); (try replace nb := nb.stays hA)) | (go_at_call_of 20 (Value.agg (wa b)); refine (H2.out _).mono ?_; rintro e w' ⟨rfl, hB⟩; replace f2 := Below.stays hB f2; replace f3 := Below.stays hB f3; replace f4 := Below.stays hB f4; replace f5 := Below.stays hB f5; replace bR := bR.trans (hB.mono bR.size); (try replace na := na.stays hB); (try replace nb := nb.stays hB)) | (go_at_call_of 32 (wd x); refine (nof_ref x _).mono ?_; rintro e w' ⟨va, rfl, na, hC⟩; replace f2 := Below.stays hC f2; replace f3 := Below.stays hC f3; replace f4 := Below.stays hC f4; replace f5 := Below.stays hC f5; replace bR := bR.trans (hC.mono bR.size); (try replace nb := nb.stays hC)) | (go_at_call_of 32 (wd y); refine (nof_ref y _).mono ?_; rintro e w' ⟨vb, rfl, nb, hD⟩; replace f2 := Below.stays hD f2; replace f3 := Below.stays hD f3; replace f4 := Below.stays hD f4; replace f5 := Below.stays hD f5; replace bR := bR.trans (hD.mono bR.size); (try replace na := na.stays hD)) | (go_at_call 31; refine (rdiv_ref va vb 32 32 (x % M) (y % M) _ na nb ⟨by omega, by omega⟩).mono ?_; rintro e w' ⟨vq, vr, kr, rfl, nq, nr, hE⟩; rw [hq.out] at nq; rw [hr.out] at nr; replace f2 := Below.stays hE f2; replace f3 := Below.stays hE f3; replace f4 := Below.stays hE f4; replace f5 := Below.stays hE f5; replace bR := bR.trans (hE.mono bR.size); (try replace na := na.stays hE)))
    all_goals
      go_wp2_with fail
      go_meet
      exact ⟨nq, ⟨kr, nr⟩, f2, f3, f4, f5, bR, Nat.le_trans (show w.heap.size + 4 ≤ _ from (Array.getElem?_eq_some_iff.1 f5).1) (Nat.le_refl _)⟩
  case rest =>
    clear f2 f3 f4 f5 bW sW
    obtain ⟨nq, ⟨kr, nr⟩, f2, f3, f4, f5, bW, sW⟩ := hcut
    have hs := store_new0
    go_wp2_with fail
    refine (nword_ref _ _ _ _ nq).mono ?_
    rintro e w1 ⟨rfl, b1⟩
    replace nr := nr.stays b1
    replace f2 := Below.stays b1 f2
    replace f3 := Below.stays b1 f3
    replace f4 := Below.stays b1 f4
    replace f5 := Below.stays b1 f5
    replace bW := bW.trans (b1.mono bW.size)
    replace sW := Nat.le_trans sW b1.size
    clear b1
    go_upto_region 3 with fail
    replace nr := nr.stays ((Below.refl _ _).alloc (Nat.le_refl _) (.cells (wa qq) 24))
    replace f2 := blk_alloc (o' := .cells (wa qq) 24) f2
    replace f3 := blk_alloc (o' := .cells (wa qq) 24) f3
    replace f4 := blk_alloc (o' := .cells (wa qq) 24) f4
    replace f5 := blk_alloc (o' := .cells (wa qq) 24) f5
    have f8 : (w1.alloc (.cells (wa qq) 24)).heap[w1.heap.size]? = some (.cells (wa qq) 24) := heap_alloc_new _ _
    replace bW : Below w.heap.size w (w1.alloc (.cells (wa qq) 24)) := bW.alloc (by omega) _
    have sb8 : w1.heap.size + 1 ≤ (w1.alloc (.cells (wa qq) 24)).heap.size := by simp
    generalize (w1.alloc (.cells (wa qq) 24)) = w2 at *
    generalize w1.heap.size = b8 at *
    have lb8 := sW
    replace sW := Nat.le_trans (Nat.le_succ_of_le sW) sb8
    go_wp2_with fail
    refine (nword_ref _ _ _ _ nr).mono ?_
    rintro e w3 ⟨rfl, b1⟩
    clear nr
    replace f2 := Below.stays b1 f2
    replace f3 := Below.stays b1 f3
    replace f4 := Below.stays b1 f4
    replace f5 := Below.stays b1 f5
    replace f8 := Below.stays b1 f8
    replace bW := bW.trans (b1.mono bW.size)
    replace sW := Nat.le_trans sW b1.size
    clear b1
    go_upto_region 4 with fail
    have ub8b9 : b8 + 1 ≤ w3.heap.size := (Array.getElem?_eq_some_iff.1 f8).1
    replace f2 := blk_alloc (o' := .cells (wa rr) 24) f2
    replace f3 := blk_alloc (o' := .cells (wa rr) 24) f3
    replace f4 := blk_alloc (o' := .cells (wa rr) 24) f4
    replace f5 := blk_alloc (o' := .cells (wa rr) 24) f5
    replace f8 := blk_alloc (o' := .cells (wa rr) 24) f8
    have f9 : (w3.alloc (.cells (wa rr) 24)).heap[w3.heap.size]? = some (.cells (wa rr) 24) := heap_alloc_new _ _
    replace bW : Below w.heap.size w (w3.alloc (.cells (wa rr) 24)) := bW.alloc (by omega) _
    have sb9 : w3.heap.size + 1 ≤ (w3.alloc (.cells (wa rr) 24)).heap.size := by simp
    generalize (w3.alloc (.cells (wa rr) 24)) = w4 at *
    generalize w3.heap.size = b9 at *
    have lb9 := sW
    replace sW := Nat.le_trans (Nat.le_succ_of_le sW) sb9
    clear hs hz
    have g2 := fun g : Ext w4 => g.word f2
    have g3 := fun g : Ext w4 => g.word f3
    have fo := fold_wa
    refine region_ext (by kernel_rfl) (by kernel_rfl) ?_
    repeat (go_big_quiet_step ((go_at_call 12; first | with_reducible exact calls_ext (H4.out _) | with_reducible exact calls_ext (H5.out _))))
    refine wpQuiet_nil ?_
    rintro _ ⟨g, rfl⟩
    clear g2 g3 fo
    have b1 := g.below
    replace f2 := Below.stays b1 f2
    replace f3 := Below.stays b1 f3
    replace f4 := Below.stays b1 f4
    replace f5 := Below.stays b1 f5
    replace f8 := Below.stays b1 f8
    replace f9 := Below.stays b1 f9
    replace bW := bW.trans (b1.mono bW.size)
    replace sW := Nat.le_trans sW b1.size
    clear b1
    generalize g.on = w8 at *
    go_wp2_with (refine wpList_load_row rfl 24 _ rfl _ rfl 24 _ (0, 0) _ (by assumption) Try.underlying24 rfl Try.infoWa ?_)
    refine (H4.out _).mono ?_
    rintro e w11 ⟨rfl, b1⟩
    replace f2 := Below.stays b1 f2
    replace f3 := Below.stays b1 f3
    replace f4 := Below.stays b1 f4
    replace f5 := Below.stays b1 f5
    replace f8 := Below.stays b1 f8
    replace f9 := Below.stays b1 f9
    replace bW := bW.trans (b1.mono bW.size)
    replace sW := Nat.le_trans sW b1.size
    clear b1
    go_wp2_with (refine wpList_load_row rfl 24 _ rfl _ rfl 24 _ (0, 0) _ (by assumption) Try.underlying24 rfl Try.infoWa ?_)
    refine (H6.out _ _).mono ?_
    rintro e w12 ⟨rfl, b1⟩
    replace f2 := Below.stays b1 f2
    replace f3 := Below.stays b1 f3
    replace f4 := Below.stays b1 f4
    replace f5 := Below.stays b1 f5
    replace f8 := Below.stays b1 f8
    replace f9 := Below.stays b1 f9
    replace bW := bW.trans (b1.mono bW.size)
    replace sW := Nat.le_trans sW b1.size
    clear b1
    go_upto_region 8 with (refine wpList_store_row rfl 24 (.tmp 9) _ rfl _ _ (wa (ng rr)) rfl rfl f9 Try.infoWa rfl wa_one ?_)
    simp only [Act.put]
    replace f2 := blk_row_other (b := b9) (c' := wa (ng rr)) f2 (by omega)
    replace f3 := blk_row_other (b := b9) (c' := wa (ng rr)) f3 (by omega)
    replace f4 := blk_row_other (b := b9) (c' := wa (ng rr)) f4 (by omega)
    replace f5 := blk_row_other (b := b9) (c' := wa (ng rr)) f5 (by omega)
    replace f8 := blk_row_other (b := b9) (c' := wa (ng rr)) f8 (by omega)
    replace f9 := blk_row (c' := wa (ng rr)) f9
    replace bW : Below w.heap.size w (w12.setRow (b9) (wa (ng rr))) := below_setRow bW (by omega) _
    replace sW := Nat.le_trans sW (Nat.le_of_eq (setRow_size w12 (b9) (wa (ng rr))).symm)
    generalize (w12.setRow (b9) (wa (ng rr))) = w13 at *
    have d6 := word_cells f8
    have d7 := word_cells f9
    have fo := fold_wa
    have k1 := store_old (w := w13.drew) (m := qq) f4
    have k2 := store_old (m := (ng rr)) (blk_row_other (w := w13.drew) (b := w.heap.size + 1 + 1) (c' := wa qq) f5 (by omega))
    have d8 := word_cells (blk_row_other (w := w13.drew) (b := w.heap.size + 1 + 1) (c' := wa qq) f9 (by omega))
    go_region
    all_goals
      have e4 := word_cells (blk_row_other (b := w.heap.size + 1 + 1 + 1) (c' := wa (ng rr)) (blk_row (w := w13.drew) (c' := wa qq) f4) (by omega))
      have e5 := word_cells (blk_row (c' := wa (ng rr)) (blk_row_other (w := w13.drew) (b := w.heap.size + 1 + 1) (c' := wa qq) f5 (by omega)))
      clear k1 k2 d6 d7 d8 fo
      go_wp2_with fail
      exact bodyPost_ret (v := .tuple #[wd qq, wd (ng rr)]) (by simp [results, Try.results9, go_sem, e4, e5, fold_wa]) rfl ⟨rfl, below_setRow (below_setRow bW.drew (by omega) _) (by omega) _⟩
theorem rsdiv_wd (a b : Nat) (w : World) : Calls Try.prog 9 #[wd a, wd b] w fun e w' => e = .returned (.tuple #[wd (sq a b), wd (sr a b)]) ∧ Below w.heap.size w w' := by
  have h1 := Lib.hid fun w => rsize_wd a w
  have h2 := Lib.hid fun w => rsize_wd b w
  have h4 := fun w => rbelow_wd a w
  have h5 := fun w => rbelow_wd b w
  have h6 := Lib.hid fun n w => rneg_wd n w
  unfold sq sr
  cases hA : bel a <;> cases hB : bel b <;> rw [hA] at h4 <;> rw [hB] at h5
  · exact rsdiv_walk00 _ _ _ _ _ _ w (Lib.hid rfl) (Lib.hid rfl) h1 h2 (Lib.hid h4) (Lib.hid h5)
  · exact rsdiv_walk01 _ _ _ _ _ _ w (Lib.hid rfl) (Lib.hid rfl) h1 h2 (Lib.hid h4) (Lib.hid h5) h6
  · exact rsdiv_walk10 _ _ _ _ _ _ w (Lib.hid rfl) (Lib.hid rfl) h1 h2 (Lib.hid h4) (Lib.hid h5) h6
  · exact rsdiv_walk11 _ _ _ _ _ _ w (Lib.hid rfl) (Lib.hid rfl) h1 h2 (Lib.hid h4) (Lib.hid h5) h6
end Go.Proofs.Ytlobchkbkdjccaa
