/- The statement WideProducts: for every input it returns true, and leaves all older memory as it was. -/
import Derived.Test.YtapkadmpfoeljaaFixedB
import Derived.Test.YtapkadmpfoeljaaNumH
import Derived.Test.YtapkadmpfoeljaaFrame
import Derived.Deep.RegionWith
namespace Go.Proofs.Ytapkadmpfoeljaa
open Go.ChangeShapes Go.WideShapes Go.ChangeAt Go.RowKit SmWord
set_option maxRecDepth 100000
theorem equal_yes {m n : Nat} (h : m % M = n % M) (w : World) : (Op.equalIn 10000 24 (.agg (wa m)) (.agg (wa n))).run Try.prog w = .ok true w := by
  rw [equal_wa, decide_eq_true h]

set_option maxHeartbeats 4000000 in
theorem wproducts_walk0 (a b lo hi : Nat) (w : World) (he1 : Hid (lo % M = (a % M * (b % M)) % M)) (he2 : Hid (hi % M = (a % M * (b % M) / M) % M)) (H1 : Hid (∀ w : World, Calls Try.prog 19 #[wd a, wd b] w fun e w' => e = .returned (.tuple #[wd lo, wd hi]) ∧ Below w.heap.size w w')) :
    Calls Try.prog 5 #[wd a, wd b] w fun e w' => e = .returned (.bool true) ∧ Below w.heap.size w w' := by
  have hp1 := store_pairA
  have hp2 := store_pairB
  have hsz := wa_size
  go_enter Try.func5, Try.ntmps5
  go_upto_region 1 with fail
  have f2 : ((w.alloc (.cells (wa a) 24)).alloc (.cells (wa b) 24)).heap[w.heap.size]? = some (.cells (wa a) 24) := blk_alloc (blk_new _ rfl)
  have f3 : ((w.alloc (.cells (wa a) 24)).alloc (.cells (wa b) 24)).heap[w.heap.size + 1]? = some (.cells (wa b) 24) := blk_new _ (by simp)
  have bW : Below w.heap.size w ((w.alloc (.cells (wa a) 24)).alloc (.cells (wa b) 24)) := (((Below.refl _ _).alloc (Nat.le_refl _) _).alloc (by simp <;> omega) _)
  have sW : w.heap.size + 2 ≤ ((w.alloc (.cells (wa a) 24)).alloc (.cells (wa b) 24)).heap.size := by simp
  generalize ((w.alloc (.cells (wa a) 24)).alloc (.cells (wa b) 24)) = W at *
  go_wp2_with (refine wpList_load_row rfl 24 _ rfl _ rfl 24 _ (0, 0) _ (by assumption) Try.underlying24 rfl Try.infoWa ?_)
  refine (H1.out _).mono ?_
  rintro e w1 ⟨rfl, b1⟩
  replace f2 := Below.stays b1 f2
  replace f3 := Below.stays b1 f3
  replace bW := bW.trans (b1.mono bW.size)
  replace sW := Nat.le_trans sW b1.size
  clear b1
  go_upto_region 2 with fail
  replace f2 := blk_alloc (o' := .cells (wa hi) 24) (blk_alloc (o' := .cells (wa lo) 24) f2)
  replace f3 := blk_alloc (o' := .cells (wa hi) 24) (blk_alloc (o' := .cells (wa lo) 24) f3)
  have f5 : ((w1.alloc (.cells (wa lo) 24)).alloc (.cells (wa hi) 24)).heap[w1.heap.size]? = some (.cells (wa lo) 24) := blk_alloc (blk_new _ rfl)
  have f6 : ((w1.alloc (.cells (wa lo) 24)).alloc (.cells (wa hi) 24)).heap[w1.heap.size + 1]? = some (.cells (wa hi) 24) := blk_new _ (by simp)
  replace bW : Below w.heap.size w ((w1.alloc (.cells (wa lo) 24)).alloc (.cells (wa hi) 24)) := (bW.alloc (by omega) _).alloc (by simp; omega) _
  clear hp1 hp2 hsz sW
  generalize ((w1.alloc (.cells (wa lo) 24)).alloc (.cells (wa hi) 24)) = w2 at *
  generalize w1.heap.size = b5 at *
  go_upto_region 2 with fail
  go_cut [7] (fun s7 wx => NumS wx s7 (32 + 32 + 1) (a % M * (b % M)) ∧ wx.heap[w.heap.size]? = some (.cells (wa a) 24) ∧ wx.heap[w.heap.size + 1]? = some (.cells (wa b) 24) ∧ wx.heap[b5]? = some (.cells (wa lo) 24) ∧ wx.heap[b5 + 1]? = some (.cells (wa hi) 24) ∧ Below w.heap.size w wx)
  case first =>
    have c1 := word_cells f2
    have c2 := word_cells f3
    have fo := fold_wa
    have bR := bW.drew
    go_region_with (first | (go_at_call_of 11 (Value.agg (wa a)); refine (nof_ref a _).mono ?_; rintro e wA ⟨va, rfl, na, hA⟩; (try replace nb := nb.stays hA); replace f2 := Below.stays hA f2; replace f3 := Below.stays hA f3; replace f5 := Below.stays hA f5; replace f6 := Below.stays hA f6; replace bR := bR.trans (hA.mono bR.size); (have c1 := word_cells f2); (have c2 := word_cells f3)) | (go_at_call_of 11 (Value.agg (wa b)); refine (nof_ref b _).mono ?_; rintro e wB ⟨vb, rfl, nb, hB⟩; (try replace na := na.stays hB); replace f2 := Below.stays hB f2; replace f3 := Below.stays hB f3; replace f5 := Below.stays hB f5; replace f6 := Below.stays hB f6; replace bR := bR.trans (hB.mono bR.size); (have c1 := word_cells f2); (have c2 := word_cells f3)) | (go_at_call 15; refine (times_ref va vb 32 32 (a % M) (b % M) _ na nb ⟨by omega, by omega⟩).mono ?_; rintro e wD ⟨vp, rfl, np, hD⟩; replace f2 := Below.stays hD f2; replace f3 := Below.stays hD f3; replace f5 := Below.stays hD f5; replace f6 := Below.stays hD f6; replace bR := bR.trans (hD.mono bR.size)))
    all_goals
      clear c1 c2 fo
      go_wp2_with fail
      go_meet
      exact ⟨np, f2, f3, f5, f6, bR⟩
  case rest =>
    clear f2 f3 f5 f6 bW
    obtain ⟨np, f2, f3, f5, f6, bW⟩ := hcut
    obtain ⟨pb, po, pc, rfl, hpc⟩ := np.form (by omega)
    have nh := high_num np (by omega)
    go_wp2_with fail
    have g5 := fun g : Ext wc => g.word f5
    have g6 := fun g : Ext wc => g.word f6
    have fo := fold_wa
    have eg := Try.guardW
    have e1 := fun w => equal_yes he1.out w
    have e2 := fun w => equal_yes he2.out w
    refine region_ext (by kernel_rfl) (by kernel_rfl) ?_
    repeat (go_big_quiet_step (first | (go_at_call 12; exact calls_ext (fixed2_walk _)) | (go_at_call 13; first | with_reducible exact calls_ext (nword_ref _ _ _ _ (np.stays (Ext.below _))) | with_reducible exact calls_ext (nword_ref _ _ _ _ (nh.stays (Ext.below _)))) | (go_at_call 18; with_reducible exact calls_ext (high_val _ _ _ _ _ (by omega) hpc))))
    refine wpQuiet_nil ?_
    rintro _ ⟨g, rfl⟩
    go_wp2
    go_ret
    exact ⟨rfl, bW.trans (g.below.mono bW.size)⟩
theorem wproducts_walk (a b : Nat) (w : World) : Calls Try.prog 5 #[wd a, wd b] w fun e w' => e = .returned (.bool true) ∧ Below w.heap.size w w' :=
  wproducts_walk0 a b _ _ w (Lib.hid rfl) (Lib.hid rfl) (Lib.hid fun w => product_wd a b w)

set_option maxRecDepth 100000 in
theorem wproducts_lifted (os : Os) (started : os.Started) (H : Type) (enc : TypeId × Value → H) :
    ReturnsInHanded {} Try.checked os 5 .any (Rows.wideProductsSpec.pre6 enc Try.prog Try.f5 Rows.wideProductsRow.domain false) (Rows.wideProductsSpec.post enc Try.prog Try.f5 false true false false) := by
  refine returnsInHanded_of_change (C := Try.checked) Try.own started (by kernel_rfl) Try.func5
    (ChangeSpec.witness6 (enc := enc) (C := Try.checked) false ⟨#[], #[w0000, w0000], []⟩ 8 (by kernel_rfl) (by kernel_rfl) (by kernel_rfl) (by kernel_rfl)) ?_
  intro W base args ds gs before hval0 hW hcnd _
  have hval : ∀ (j : Nat) t v, Try.f5.params[j]? = some t → args[j]? = some v → Value.okWide Try.prog W .any base t v := hval0
  have hW' := hW
  obtain ⟨p, q, hA0, hV, rfl, hfz, hnd⟩ := hW
  have hA : DataW.TrodAll enc Try.prog W 0 (fun _ => true) true Try.f5.params.toList args.toList ds p := hA0
  rw [Try.params5] at hA hval
  obtain ⟨v0, v1, d0, d1, p0, p1, rfl, rfl, rfl, h0, h1⟩ := trodAll_two hA
  obtain ⟨rfl, rfl⟩ := trodVars_none hV
  obtain ⟨a, rfl, rfl, rfl⟩ := open_word (hval 0 24 v0 rfl rfl) h0
  obtain ⟨b, rfl, rfl, rfl⟩ := open_word (hval 1 24 v1 rfl rfl) h1
  clear hA0 hval0
  simp only [List.append_nil] at hW'
  refine (wproducts_walk a b W).mono fun e W' ⟨he, bel⟩ => ?_
  subst he
  exact ⟨_, rfl, _, _, _, [], _, [], hW', trodAll_mk1 (shut_bool Try.underlying4 _), trodAll_mk2 (shut_word a _ _) (shut_word b _ _), rfl, bel.frame _, fun h => by cases h⟩

theorem wproducts_holds : Rows.WideProductsSaid :=
  OpenClaim.holds_of_wide 5 Try.f5 rfl rfl rfl rfl rfl rfl rfl ⟨rfl, rfl, rfl, rfl, rfl⟩ rfl rfl rfl rfl rfl (by kernel_rfl) Try.func5 (by kernel_rfl)
    (of_decide_eq_true (by kernel_rfl)) (by unfold Func.isWrapper; first | (rw [if_pos (by decide +kernel)]; kernel_rfl) | (rw [if_neg (by decide +kernel)]; exact ⟨rfl, rfl⟩))
    (fun os started H enc _ => wproducts_lifted os started H enc)
end Go.Proofs.Ytapkadmpfoeljaa
