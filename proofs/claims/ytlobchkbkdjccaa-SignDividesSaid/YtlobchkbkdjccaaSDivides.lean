/- The statement SignDivides: for every input it returns true, and leaves all older memory as it was. -/
import Derived.Test.YtlobchkbkdjccaaSgF
import Derived.Test.YtlobchkbkdjccaaSgZ
import Derived.Test.YtlobchkbkdjccaaFrame
namespace Go.Proofs.Ytlobchkbkdjccaa
open Go.ChangeShapes Go.WideShapes Go.ChangeAt Go.RowKit SmWord
set_option maxRecDepth 100000

set_option maxHeartbeats 4000000 in
theorem sdivides_walk0 (a b q r t : Nat) (p : Bool) (d d2 : Array Value) (w : World) (H1 : Hid (∀ w : World, Calls Try.prog 8 #[wd a, wd b] w fun e w' => e = .returned (.tuple #[wd q, wd r]) ∧ Below w.heap.size w w')) (H2 : Hid (∀ w : World, Calls Try.prog 9 #[wd a, wd b] w fun e w' => e = .returned (.tuple #[wd q, wd r]) ∧ Below w.heap.size w w')) (H3 : Hid (∀ w : World, Calls Try.prog 11 #[wd a] w fun e w' => e = .returned (.bool p) ∧ Below w.heap.size w w')) (H4 : Hid (∀ w : World, Calls Try.prog 12 #[wd a] w fun e w' => e = .returned (.bool p) ∧ Below w.heap.size w w')) (H5 : Hid (∀ w : World, Calls Try.prog 13 #[wd a] w fun e w' => e = .returned (wd t) ∧ Below w.heap.size w w')) (H6 : Hid (∀ w : World, Calls Try.prog 15 #[wd a] w fun e w' => e = .returned (.agg d) ∧ Below w.heap.size w w')) (H7 : Hid (∀ w : World, Calls Try.prog 14 #[.agg d] w fun e w' => e = .returned (.agg d2) ∧ Below w.heap.size w w')) (H8 : Hid (∀ w : World, Calls Try.prog 16 #[.agg d2] w fun e w' => e = .returned (wd t) ∧ Below w.heap.size w w')) :
    Calls Try.prog 3 #[wd a, wd b] w fun e w' => e = .returned (.bool true) ∧ Below w.heap.size w w' := by
  cases p
  all_goals
    have hp1 := store_pairA
    have hp2 := store_pairB
    have hsz := wa_size
    go_enter Try.func3, Try.ntmps3
    go_upto_region 1 with fail
    have f2 : ((w.alloc (.cells (wa a) 24)).alloc (.cells (wa b) 24)).heap[w.heap.size]? = some (.cells (wa a) 24) := blk_alloc (blk_new _ rfl)
    have f3 : ((w.alloc (.cells (wa a) 24)).alloc (.cells (wa b) 24)).heap[w.heap.size + 1]? = some (.cells (wa b) 24) := blk_new _ (by simp)
    have bW : Below w.heap.size w ((w.alloc (.cells (wa a) 24)).alloc (.cells (wa b) 24)) := (((Below.refl _ _).alloc (Nat.le_refl _) _).alloc (by simp <;> omega) _)
    have sW : w.heap.size + 2 ≤ ((w.alloc (.cells (wa a) 24)).alloc (.cells (wa b) 24)).heap.size := by simp
    generalize ((w.alloc (.cells (wa a) 24)).alloc (.cells (wa b) 24)) = W at *
    go_wp2_with (refine wpList_load_row rfl 24 _ rfl _ rfl 24 _ (0, 0) _ (by assumption) Try.underlying24 rfl Try.infoWa ?_)
    refine (H1.out _).mono ?_
    rintro e w1 ⟨rfl, b1⟩
    replace f2 := Below.stays b1 f2
    replace f3 := Below.stays b1 f3
    replace bW := bW.trans (b1.mono bW.size)
    replace sW := Nat.le_trans sW b1.size
    clear b1
    go_upto_region 2 with fail
    replace f2 := blk_alloc (o' := .cells (wa r) 24) (blk_alloc (o' := .cells (wa q) 24) f2)
    replace f3 := blk_alloc (o' := .cells (wa r) 24) (blk_alloc (o' := .cells (wa q) 24) f3)
    have f5 : ((w1.alloc (.cells (wa q) 24)).alloc (.cells (wa r) 24)).heap[w1.heap.size]? = some (.cells (wa q) 24) := blk_alloc (blk_new _ rfl)
    have f6 : ((w1.alloc (.cells (wa q) 24)).alloc (.cells (wa r) 24)).heap[w1.heap.size + 1]? = some (.cells (wa r) 24) := blk_new _ (by simp)
    replace bW : Below w.heap.size w ((w1.alloc (.cells (wa q) 24)).alloc (.cells (wa r) 24)) := (bW.alloc (by omega) _).alloc (by simp; omega) _
    replace sW := Nat.le_trans sW (show w1.heap.size ≤ ((w1.alloc (.cells (wa q) 24)).alloc (.cells (wa r) 24)).heap.size by simp; omega)
    generalize ((w1.alloc (.cells (wa q) 24)).alloc (.cells (wa r) 24)) = w2 at *
    generalize w1.heap.size = b5 at *
    go_wp2_with (refine wpList_load_row rfl 24 _ rfl _ rfl 24 _ (0, 0) _ (by assumption) Try.underlying24 rfl Try.infoWa ?_)
    refine (H2.out _).mono ?_
    rintro e w3 ⟨rfl, b1⟩
    replace f2 := Below.stays b1 f2
    replace f3 := Below.stays b1 f3
    replace f5 := Below.stays b1 f5
    replace f6 := Below.stays b1 f6
    replace bW := bW.trans (b1.mono bW.size)
    replace sW := Nat.le_trans sW b1.size
    clear b1
    go_upto_region 3 with fail
    replace f2 := blk_alloc (o' := .cells (wa r) 24) (blk_alloc (o' := .cells (wa q) 24) f2)
    replace f3 := blk_alloc (o' := .cells (wa r) 24) (blk_alloc (o' := .cells (wa q) 24) f3)
    replace f5 := blk_alloc (o' := .cells (wa r) 24) (blk_alloc (o' := .cells (wa q) 24) f5)
    replace f6 := blk_alloc (o' := .cells (wa r) 24) (blk_alloc (o' := .cells (wa q) 24) f6)
    have f7 : ((w3.alloc (.cells (wa q) 24)).alloc (.cells (wa r) 24)).heap[w3.heap.size]? = some (.cells (wa q) 24) := blk_alloc (blk_new _ rfl)
    have f8 : ((w3.alloc (.cells (wa q) 24)).alloc (.cells (wa r) 24)).heap[w3.heap.size + 1]? = some (.cells (wa r) 24) := blk_new _ (by simp)
    replace bW : Below w.heap.size w ((w3.alloc (.cells (wa q) 24)).alloc (.cells (wa r) 24)) := (bW.alloc (by omega) _).alloc (by simp; omega) _
    replace sW := Nat.le_trans sW (show w3.heap.size ≤ ((w3.alloc (.cells (wa q) 24)).alloc (.cells (wa r) 24)).heap.size by simp; omega)
    generalize ((w3.alloc (.cells (wa q) 24)).alloc (.cells (wa r) 24)) = w4 at *
    generalize w3.heap.size = b7 at *
    clear hp1 hp2 hsz
    have gf2 := fun g : Ext w4 => g.word f2
    have gf5 := fun g : Ext w4 => g.word f5
    have gf6 := fun g : Ext w4 => g.word f6
    have gf7 := fun g : Ext w4 => g.word f7
    have gf8 := fun g : Ext w4 => g.word f8
    have fo := fold_wa
    have eg := Try.guardW
    have e0 := fun w => eqw_yes (m := q) (n := q) rfl w
    have e1 := fun w => eqw_yes (m := r) (n := r) rfl w
    have e2 := fun w => eqw_yes (m := t) (n := t) rfl w
    refine region_ext (by kernel_rfl) (by kernel_rfl) ?_
    repeat (go_big_quiet_step (first | (go_at_call 10; exact calls_ext (fixed3_walk _)) | (go_at_call 11; with_reducible exact calls_ext (H3.out _)) | (go_at_call 12; with_reducible exact calls_ext (H4.out _)) | (go_at_call 13; with_reducible exact calls_ext (H5.out _)) | (go_at_call 15; with_reducible exact calls_ext (H6.out _)) | (go_at_call 14; with_reducible exact calls_ext (H7.out _)) | (go_at_call 16; with_reducible exact calls_ext (H8.out _))))
    refine wpQuiet_nil ?_
    rintro _ ⟨g, rfl⟩
    go_wp2
    go_ret
    exact ⟨rfl, bW.trans (g.below.mono bW.size)⟩
theorem sdivides_walk (a b : Nat) (w : World) : Calls Try.prog 3 #[wd a, wd b] w fun e w' => e = .returned (.bool true) ∧ Below w.heap.size w w' :=
  sdivides_walk0 a b _ _ _ _ _ _ w (Lib.hid fun w => sdiv_wd a b w) (Lib.hid fun w => rsdiv_wd a b w) (Lib.hid fun w => below_wd a w) (Lib.hid fun w => rbelow_wd a w) (Lib.hid fun w => sneg_wd a w) (Lib.hid fun w => of_ref a w) (Lib.hid fun w => neg_ref a w) (Lib.hid fun w => word_ref (ng a) w)

set_option maxRecDepth 100000 in
theorem sdivides_lifted (os : Os) (started : os.Started) (H : Type) (enc : TypeId × Value → H) :
    ReturnsInHanded {} Try.checked os 3 .any (Rows.signDividesSpec.pre6 enc Try.prog Try.f3 Rows.signDividesRow.domain false) (Rows.signDividesSpec.post enc Try.prog Try.f3 false true false false) := by
  refine returnsInHanded_of_change (C := Try.checked) Try.own started (by kernel_rfl) Try.func3
    (ChangeSpec.witness6 (enc := enc) (C := Try.checked) false ⟨#[], #[w0000, w0000], []⟩ 8 (by kernel_rfl) (by kernel_rfl) (by kernel_rfl) (by kernel_rfl)) ?_
  intro W base args ds gs before hval0 hW hcnd _
  have hval : ∀ (j : Nat) t v, Try.f3.params[j]? = some t → args[j]? = some v → Value.okWide Try.prog W .any base t v := hval0
  have hW' := hW
  obtain ⟨p, q, hA0, hV, rfl, hfz, hnd⟩ := hW
  have hA : DataW.TrodAll enc Try.prog W 0 (fun _ => true) true Try.f3.params.toList args.toList ds p := hA0
  rw [Try.params3] at hA hval
  obtain ⟨v0, v1, d0, d1, p0, p1, rfl, rfl, rfl, h0, h1⟩ := trodAll_two hA
  obtain ⟨rfl, rfl⟩ := trodVars_none hV
  obtain ⟨a, rfl, rfl, rfl⟩ := open_word (hval 0 24 v0 rfl rfl) h0
  obtain ⟨b, rfl, rfl, rfl⟩ := open_word (hval 1 24 v1 rfl rfl) h1
  clear hA0 hval0
  simp only [List.append_nil] at hW'
  refine (sdivides_walk a b W).mono fun e W' ⟨he, bel⟩ => ?_
  subst he
  exact ⟨_, rfl, _, _, _, [], _, [], hW', trodAll_mk1 (shut_bool Try.underlying4 _), trodAll_mk2 (shut_word a _ _) (shut_word b _ _), rfl, bel.frame _, fun h => by cases h⟩

theorem sdivides_holds : Rows.SignDividesSaid :=
  OpenClaim.holds_of_wide 3 Try.f3 rfl rfl rfl rfl rfl rfl rfl ⟨rfl, rfl, rfl, rfl, rfl⟩ rfl rfl rfl rfl rfl (by kernel_rfl) Try.func3 (by kernel_rfl)
    (of_decide_eq_true (by kernel_rfl)) (by unfold Func.isWrapper; first | (rw [if_pos (by decide +kernel)]; kernel_rfl) | (rw [if_neg (by decide +kernel)]; exact ⟨rfl, rfl⟩))
    (fun os started H enc _ => sdivides_lifted os started H enc)
end Go.Proofs.Ytlobchkbkdjccaa
