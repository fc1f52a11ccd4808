/- The statement WordSums: for every input it returns true, and leaves all older memory as it was. -/
import Derived.Test.YtfgfggnbdnbgfaaRing
import Derived.Test.YtfgfggnbdnbgfaaRefW
import Derived.Test.YtfgfggnbdnbgfaaRefD
import Derived.Test.YtfgfggnbdnbgfaaMk
namespace Go.Proofs.Ytfgfggnbdnbgfaa
open Go.ChangeShapes Go.WideShapes Go.ChangeAt Go.RowKit SmWord
set_option maxRecDepth 100000

set_option maxHeartbeats 4000000 in
theorem sums_walk (a b : Nat) (w : World) :
    Calls Try.prog 3 #[wd a, wd b] w fun e w' => e = .returned (.bool true) ∧ Below w.heap.size w w' := by
  obtain ⟨x, hx⟩ : ∃ x, M - 1 - b % M + 1 = x := ⟨_, rfl⟩
  have HK : Hid ((a + x + b) % M = a % M) := Lib.hid (by rw [← hx]; exact sub_num_mod a b)
  have HR : Hid (∀ w : World, Calls Try.prog 17 #[.agg (da a), .agg (da b)] w fun e w' => e = .returned (.agg (da (a + x))) ∧ Below w.heap.size w w') := Lib.hid (fun w => by rw [← hx]; exact sub_ref a b w)
  clear hx
  go_enter Try.func3, Try.ntmps3
  go_wp2_with fail
  have f1 : ((w.alloc (.cells (wa a) 24)).alloc (.cells (wa b) 24)).heap[w.heap.size]? = some (.cells (wa a) 24) := blk_alloc (heap_alloc_new _ _)
  have f2 : ((w.alloc (.cells (wa a) 24)).alloc (.cells (wa b) 24)).heap[w.heap.size + 1]? = some (.cells (wa b) 24) := heap_alloc2_new _ _ _
  have bW : Below w.heap.size w ((w.alloc (.cells (wa a) 24)).alloc (.cells (wa b) 24)) := ((Below.refl _ _).alloc (Nat.le_refl _) _).alloc (by simp) _
  generalize (w.alloc (.cells (wa a) 24)).alloc (.cells (wa b) 24) = W at *
  have fo := fold_wa
  have eg := Try.guardW
  refine region_mk2 (aQ := ?aQ) 4 ⟨4, 6, 26, 5, 8, zD, da a⟩ ⟨5, 7, 26, 6, 10, zD, da b⟩ (by kernel_rfl) (by kernel_rfl) (by dsimp only; decide) (fun w1 => ?hq) ?hok1 ?hok2 ?hh
  case hq =>
    have g1 := fun g : Ext w1.on => g.word (w1.block (show W.drew.heap[w.heap.size]? = some (.cells (wa a) 24) from f1))
    have g2 := fun g : Ext w1.on => g.word (w1.block (show W.drew.heap[w.heap.size + 1]? = some (.cells (wa b) 24) from f2))
    simp only [List.take_succ_cons, List.take_zero]
    repeat (go_big_quiet_step (first | (go_at_call 11; with_reducible exact calls_ext (of_ref _ _))))
    refine wpQuiet_nil ?_
    rfl
  case hok1 => exact ⟨zD_run, infoArr _, rfl, arr_one _ _ _, by simp, rfl⟩
  case hok2 => exact ⟨zD_run, infoArr _, rfl, arr_one _ _ _, by simp, rfl⟩
  case hh =>
    intro b5 b6 w' hb _ _ _ f5 f6
    simp only [Act.put, List.setIfInBounds_toArray, List.set_cons_succ, List.set_cons_zero]
    have f1 := Ext.block ⟨w', hb⟩ f1
    have f2 := Ext.block ⟨w', hb⟩ f2
    have bW := bW.trans (hb.mono bW.size)
    go_wp2_with fail
    generalize w' = W at *
    have g1 := fun g : Ext W => g.word f1
    have g2 := fun g : Ext W => g.word f2
    have e1 := fun w => equal_yes (m := a + b) (n := a + b) rfl w
    have e2 := fun w => equal_yes (m := a + x) (n := a + x) rfl w
    have e3 := fun w => equal_yes (m := a) (n := a) rfl w
    refine region_ext (by kernel_rfl) (by kernel_rfl) ?_
    repeat (first | (go_big_quiet_want; refine quiet_load_row 26 _ rfl b5 (da a) rfl (fun w2 hw2 => by obtain ⟨g, rfl⟩ := hw2; exact g.block f5) Try.underlying26 (infoArr _) ?_; simp only [Act.put, List.setIfInBounds_toArray, List.set_cons_succ, List.set_cons_zero]; go_big_quiet_on) | (go_big_quiet_want; refine quiet_load_row 26 _ rfl b6 (da b) rfl (fun w2 hw2 => by obtain ⟨g, rfl⟩ := hw2; exact g.block f6) Try.underlying26 (infoArr _) ?_; simp only [Act.put, List.setIfInBounds_toArray, List.set_cons_succ, List.set_cons_zero]; go_big_quiet_on) | go_big_quiet_step (first | (go_at_call 12; exact calls_ext (fixed_walk _)) | (go_at_call 13; with_reducible exact calls_ext (add_wd _ _ _)) | (go_at_call 14; with_reducible exact calls_ext (add_ref _ _ _)) | (go_at_call 15; with_reducible exact calls_ext (word_ref _ _)) | (go_at_call 16; first | with_reducible exact calls_ext (sub_wd a b (a + x) _ HK.out) | with_reducible exact calls_ext (sub_wd (a + b) b a _ rfl)) | (go_at_call 17; with_reducible exact calls_ext (HR.out _))))
    refine wpQuiet_nil ?_
    rintro _ ⟨g, rfl⟩
    go_wp2
    go_ret
    exact ⟨rfl, bW.trans (g.below.mono bW.size)⟩

set_option maxRecDepth 100000 in
theorem sums_lifted (os : Os) (started : os.Started) (H : Type) (enc : TypeId × Value → H) :
    ReturnsInHanded {} Try.checked os 3 .any (Rows.wordSumsSpec.pre6 enc Try.prog Try.f3 Rows.wordSumsRow.domain false) (Rows.wordSumsSpec.post enc Try.prog Try.f3 false true false false) := by
  refine returnsInHanded_of_change (C := Try.checked) Try.own started (by kernel_rfl) Try.func3
    (ChangeSpec.witness6 (enc := enc) (C := Try.checked) false ⟨#[], #[w0000, w0000], []⟩ 8 (by kernel_rfl) (by kernel_rfl) (by kernel_rfl) (by kernel_rfl)) ?_
  intro W base args ds gs before hval0 hW hcnd _
  have hval : ∀ (j : Nat) t v, Try.f3.params[j]? = some t → args[j]? = some v → Value.okWide Try.prog W .any base t v := hval0
  have hW' := hW
  obtain ⟨p, q, hA0, hV, rfl, hfz, hnd⟩ := hW
  have hA : DataW.TrodAll enc Try.prog W 0 (fun _ => true) true Try.f3.params.toList args.toList ds p := hA0
  rw [Try.params3] at hA hval
  obtain ⟨v0, v1, d0, d1, p0, p1, rfl, rfl, rfl, h0, h1⟩ := trodAll_two hA
  obtain ⟨rfl, rfl⟩ := trodVars_none hV
  obtain ⟨a, rfl, rfl, rfl⟩ := open_word (hval 0 24 v0 rfl rfl) h0
  obtain ⟨b, rfl, rfl, rfl⟩ := open_word (hval 1 24 v1 rfl rfl) h1
  clear hA0 hval0
  simp only [List.append_nil] at hW'
  refine (sums_walk a b W).mono fun e W' ⟨he, bel⟩ => ?_
  subst he
  exact ⟨_, rfl, _, _, _, [], _, [], hW', trodAll_mk1 (shut_bool Try.underlying4 _), trodAll_mk2 (shut_word a _ _) (shut_word b _ _), rfl, bel.frame _, fun h => by cases h⟩

theorem sums_holds : Rows.WordSumsSaid :=
  OpenClaim.holds_of_wide 3 Try.f3 rfl rfl rfl rfl rfl rfl rfl ⟨rfl, rfl, rfl, rfl, rfl⟩ rfl rfl rfl rfl rfl (by kernel_rfl) Try.func3 (by kernel_rfl)
    (of_decide_eq_true (by kernel_rfl)) (by unfold Func.isWrapper; first | (rw [if_pos (by decide +kernel)]; kernel_rfl) | (rw [if_neg (by decide +kernel)]; exact ⟨rfl, rfl⟩))
    (fun os started H enc _ => sums_lifted os started H enc)
end Go.Proofs.Ytfgfggnbdnbgfaa
