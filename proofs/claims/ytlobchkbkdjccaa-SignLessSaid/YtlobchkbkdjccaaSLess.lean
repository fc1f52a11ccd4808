/- The statement SignLess: for every input it returns true, and leaves all older memory as it was. -/
import Derived.Test.YtlobchkbkdjccaaSgF
import Derived.Test.YtlobchkbkdjccaaSgE
import Derived.Test.YtlobchkbkdjccaaFrame
namespace Go.Proofs.Ytlobchkbkdjccaa
open Go.ChangeShapes Go.WideShapes Go.ChangeAt Go.RowKit SmWord
set_option maxRecDepth 100000

set_option maxHeartbeats 4000000 in
theorem sless_walk10 (a b : Nat) (w : World) (hE : Hid (∀ w : World, (Op.equalIn 10000 24 (.agg (wa a)) (.agg (wa b))).run Try.prog w = .ok false w)) (H1 : Hid (∀ w : World, Calls Try.prog 21 #[wd a, wd b] w fun e w' => e = .returned (.bool true) ∧ Below w.heap.size w w')) (H2 : Hid (∀ w : World, Calls Try.prog 21 #[wd b, wd a] w fun e w' => e = .returned (.bool false) ∧ Below w.heap.size w w')) (H3 : Hid (∀ w : World, Calls Try.prog 22 #[wd a, wd b] w fun e w' => e = .returned (.bool true) ∧ Below w.heap.size w w')) (H4 : Hid (∀ w : World, Calls Try.prog 22 #[wd b, wd a] w fun e w' => e = .returned (.bool false) ∧ Below w.heap.size w w')) :
    Calls Try.prog 5 #[wd a, wd b] w fun e w' => e = .returned (.bool true) ∧ Below w.heap.size w w' := by
  have hsz := wa_size
  go_enter Try.func5, Try.ntmps5
  go_upto_region 1 with fail
  have f2 : ((w.alloc (.cells (wa a) 24)).alloc (.cells (wa b) 24)).heap[w.heap.size]? = some (.cells (wa a) 24) := blk_alloc (blk_new _ rfl)
  have f3 : ((w.alloc (.cells (wa a) 24)).alloc (.cells (wa b) 24)).heap[w.heap.size + 1]? = some (.cells (wa b) 24) := blk_new _ (by simp)
  have bW : Below w.heap.size w ((w.alloc (.cells (wa a) 24)).alloc (.cells (wa b) 24)) := (((Below.refl _ _).alloc (Nat.le_refl _) _).alloc (by simp <;> omega) _)
  have sW : w.heap.size + 2 ≤ ((w.alloc (.cells (wa a) 24)).alloc (.cells (wa b) 24)).heap.size := by simp
  generalize ((w.alloc (.cells (wa a) 24)).alloc (.cells (wa b) 24)) = W at *
  clear hsz
  have gf2 := fun g : Ext W => g.word f2
  have gf3 := fun g : Ext W => g.word f3
  have fo := fold_wa
  have eg := Try.guardW
  refine region_ext (by kernel_rfl) (by kernel_rfl) ?_
  repeat (go_big_quiet_step ((go_at_call 21; first | with_reducible exact calls_ext (H1.out _) | with_reducible exact calls_ext (H2.out _))))
  refine wpQuiet_nil ?_
  rintro _ ⟨g, rfl⟩
  clear gf2 gf3
  have b1 := g.below
  replace f2 := Below.stays b1 f2
  replace f3 := Below.stays b1 f3
  replace bW := bW.trans (b1.mono bW.size)
  replace sW := Nat.le_trans sW b1.size
  clear b1
  generalize g.on = w1 at *
  go_upto_region 2 with fail
  have gf2 := fun g : Ext w1 => g.word f2
  have gf3 := fun g : Ext w1 => g.word f3
  have he := hE.out
  refine region_seq ?_
  repeat (go_big_quiet_step (first | (go_at_call 10; exact calls_ext (fixed3_walk _)) | (go_at_call 22; first | with_reducible exact calls_ext (H3.out _) | with_reducible exact calls_ext (H4.out _))))
  refine wpQuiet_nil ?_
  rintro _ ⟨g, rfl⟩
  go_wp2
  go_ret
  exact ⟨rfl, bW.trans (g.below.mono bW.size)⟩

set_option maxHeartbeats 4000000 in
theorem sless_walk01 (a b : Nat) (w : World) (hE : Hid (∀ w : World, (Op.equalIn 10000 24 (.agg (wa a)) (.agg (wa b))).run Try.prog w = .ok false w)) (H1 : Hid (∀ w : World, Calls Try.prog 21 #[wd a, wd b] w fun e w' => e = .returned (.bool false) ∧ Below w.heap.size w w')) (H2 : Hid (∀ w : World, Calls Try.prog 21 #[wd b, wd a] w fun e w' => e = .returned (.bool true) ∧ Below w.heap.size w w')) (H3 : Hid (∀ w : World, Calls Try.prog 22 #[wd a, wd b] w fun e w' => e = .returned (.bool false) ∧ Below w.heap.size w w')) (H4 : Hid (∀ w : World, Calls Try.prog 22 #[wd b, wd a] w fun e w' => e = .returned (.bool true) ∧ Below w.heap.size w w')) :
    Calls Try.prog 5 #[wd a, wd b] w fun e w' => e = .returned (.bool true) ∧ Below w.heap.size w w' := by
  have hsz := wa_size
  go_enter Try.func5, Try.ntmps5
  go_upto_region 1 with fail
  have f2 : ((w.alloc (.cells (wa a) 24)).alloc (.cells (wa b) 24)).heap[w.heap.size]? = some (.cells (wa a) 24) := blk_alloc (blk_new _ rfl)
  have f3 : ((w.alloc (.cells (wa a) 24)).alloc (.cells (wa b) 24)).heap[w.heap.size + 1]? = some (.cells (wa b) 24) := blk_new _ (by simp)
  have bW : Below w.heap.size w ((w.alloc (.cells (wa a) 24)).alloc (.cells (wa b) 24)) := (((Below.refl _ _).alloc (Nat.le_refl _) _).alloc (by simp <;> omega) _)
  have sW : w.heap.size + 2 ≤ ((w.alloc (.cells (wa a) 24)).alloc (.cells (wa b) 24)).heap.size := by simp
  generalize ((w.alloc (.cells (wa a) 24)).alloc (.cells (wa b) 24)) = W at *
  clear hsz
  have gf2 := fun g : Ext W => g.word f2
  have gf3 := fun g : Ext W => g.word f3
  have fo := fold_wa
  have eg := Try.guardW
  refine region_ext (by kernel_rfl) (by kernel_rfl) ?_
  repeat (go_big_quiet_step ((go_at_call 21; first | with_reducible exact calls_ext (H1.out _) | with_reducible exact calls_ext (H2.out _))))
  refine wpQuiet_nil ?_
  rintro _ ⟨g, rfl⟩
  clear gf2 gf3
  have b1 := g.below
  replace f2 := Below.stays b1 f2
  replace f3 := Below.stays b1 f3
  replace bW := bW.trans (b1.mono bW.size)
  replace sW := Nat.le_trans sW b1.size
  clear b1
  generalize g.on = w1 at *
  go_upto_region 2 with fail
  have gf2 := fun g : Ext w1 => g.word f2
  have gf3 := fun g : Ext w1 => g.word f3
  have he := hE.out
  refine region_seq ?_
  repeat (go_big_quiet_step (first | (go_at_call 10; exact calls_ext (fixed3_walk _)) | (go_at_call 22; first | with_reducible exact calls_ext (H3.out _) | with_reducible exact calls_ext (H4.out _))))
  refine wpQuiet_nil ?_
  rintro _ ⟨g, rfl⟩
  go_wp2
  go_ret
  exact ⟨rfl, bW.trans (g.below.mono bW.size)⟩

set_option maxHeartbeats 4000000 in
theorem sless_walk00 (a b : Nat) (w : World) (hE : Hid (∀ w : World, (Op.equalIn 10000 24 (.agg (wa a)) (.agg (wa b))).run Try.prog w = .ok true w)) (H1 : Hid (∀ w : World, Calls Try.prog 21 #[wd a, wd b] w fun e w' => e = .returned (.bool false) ∧ Below w.heap.size w w')) (H2 : Hid (∀ w : World, Calls Try.prog 21 #[wd b, wd a] w fun e w' => e = .returned (.bool false) ∧ Below w.heap.size w w')) (H3 : Hid (∀ w : World, Calls Try.prog 22 #[wd a, wd b] w fun e w' => e = .returned (.bool false) ∧ Below w.heap.size w w')) (H4 : Hid (∀ w : World, Calls Try.prog 22 #[wd b, wd a] w fun e w' => e = .returned (.bool false) ∧ Below w.heap.size w w')) :
    Calls Try.prog 5 #[wd a, wd b] w fun e w' => e = .returned (.bool true) ∧ Below w.heap.size w w' := by
  have hsz := wa_size
  go_enter Try.func5, Try.ntmps5
  go_upto_region 1 with fail
  have f2 : ((w.alloc (.cells (wa a) 24)).alloc (.cells (wa b) 24)).heap[w.heap.size]? = some (.cells (wa a) 24) := blk_alloc (blk_new _ rfl)
  have f3 : ((w.alloc (.cells (wa a) 24)).alloc (.cells (wa b) 24)).heap[w.heap.size + 1]? = some (.cells (wa b) 24) := blk_new _ (by simp)
  have bW : Below w.heap.size w ((w.alloc (.cells (wa a) 24)).alloc (.cells (wa b) 24)) := (((Below.refl _ _).alloc (Nat.le_refl _) _).alloc (by simp <;> omega) _)
  have sW : w.heap.size + 2 ≤ ((w.alloc (.cells (wa a) 24)).alloc (.cells (wa b) 24)).heap.size := by simp
  generalize ((w.alloc (.cells (wa a) 24)).alloc (.cells (wa b) 24)) = W at *
  clear hsz
  have gf2 := fun g : Ext W => g.word f2
  have gf3 := fun g : Ext W => g.word f3
  have fo := fold_wa
  have eg := Try.guardW
  refine region_ext (by kernel_rfl) (by kernel_rfl) ?_
  repeat (go_big_quiet_step ((go_at_call 21; first | with_reducible exact calls_ext (H1.out _) | with_reducible exact calls_ext (H2.out _))))
  refine wpQuiet_nil ?_
  rintro _ ⟨g, rfl⟩
  clear gf2 gf3
  have b1 := g.below
  replace f2 := Below.stays b1 f2
  replace f3 := Below.stays b1 f3
  replace bW := bW.trans (b1.mono bW.size)
  replace sW := Nat.le_trans sW b1.size
  clear b1
  generalize g.on = w1 at *
  go_upto_region 2 with fail
  have gf2 := fun g : Ext w1 => g.word f2
  have gf3 := fun g : Ext w1 => g.word f3
  have he := hE.out
  refine region_seq ?_
  repeat (go_big_quiet_step (first | (go_at_call 10; exact calls_ext (fixed3_walk _)) | (go_at_call 22; first | with_reducible exact calls_ext (H3.out _) | with_reducible exact calls_ext (H4.out _))))
  refine wpQuiet_nil ?_
  rintro _ ⟨g, rfl⟩
  go_wp2
  go_ret
  exact ⟨rfl, bW.trans (g.below.mono bW.size)⟩
theorem sless_walk (a b : Nat) (w : World) : Calls Try.prog 5 #[wd a, wd b] w fun e w' => e = .returned (.bool true) ∧ Below w.heap.size w w' := by
  have h1 := fun w => sless_wd a b w
  have h2 := fun w => sless_wd b a w
  have h3 := fun w => rless_wd a b w
  have h4 := fun w => rless_wd b a w
  obtain ⟨n1, n2⟩ := less_not a b
  cases hx : sless a b <;> cases hy : sless b a <;> rw [hx] at h1 h3 n1 n2 <;> rw [hy] at h2 h4 n1 n2
  · have he : a % M = b % M := Decidable.byContradiction fun h => by have := n2.2 h; simp at this
    exact sless_walk00 a b w (Lib.hid fun w => eqw_yes he w) (Lib.hid h1) (Lib.hid h2) (Lib.hid h3) (Lib.hid h4)
  · exact sless_walk01 a b w (Lib.hid fun w => eqw_no (n2.1 (.inr rfl)) w) (Lib.hid h1) (Lib.hid h2) (Lib.hid h3) (Lib.hid h4)
  · exact sless_walk10 a b w (Lib.hid fun w => eqw_no (n2.1 (.inl rfl)) w) (Lib.hid h1) (Lib.hid h2) (Lib.hid h3) (Lib.hid h4)
  · exact absurd ⟨rfl, rfl⟩ n1

set_option maxRecDepth 100000 in
theorem slesses_lifted (os : Os) (started : os.Started) (H : Type) (enc : TypeId × Value → H) :
    ReturnsInHanded {} Try.checked os 5 .any (Rows.signLessSpec.pre6 enc Try.prog Try.f5 Rows.signLessRow.domain false) (Rows.signLessSpec.post enc Try.prog Try.f5 false true false false) := by
  refine returnsInHanded_of_change (C := Try.checked) Try.own started (by kernel_rfl) Try.func5
    (ChangeSpec.witness6 (enc := enc) (C := Try.checked) false ⟨#[], #[w0000, w0000], []⟩ 8 (by kernel_rfl) (by kernel_rfl) (by kernel_rfl) (by kernel_rfl)) ?_
  intro W base args ds gs before hval0 hW hcnd _
  have hval : ∀ (j : Nat) t v, Try.f5.params[j]? = some t → args[j]? = some v → Value.okWide Try.prog W .any base t v := hval0
  have hW' := hW
  obtain ⟨p, q, hA0, hV, rfl, hfz, hnd⟩ := hW
  have hA : DataW.TrodAll enc Try.prog W 0 (fun _ => true) true Try.f5.params.toList args.toList ds p := hA0
  rw [Try.params5] at hA hval
  obtain ⟨v0, v1, d0, d1, p0, p1, rfl, rfl, rfl, h0, h1⟩ := trodAll_two hA
  obtain ⟨rfl, rfl⟩ := trodVars_none hV
  obtain ⟨a, rfl, rfl, rfl⟩ := open_word (hval 0 24 v0 rfl rfl) h0
  obtain ⟨b, rfl, rfl, rfl⟩ := open_word (hval 1 24 v1 rfl rfl) h1
  clear hA0 hval0
  simp only [List.append_nil] at hW'
  refine (sless_walk a b W).mono fun e W' ⟨he, bel⟩ => ?_
  subst he
  exact ⟨_, rfl, _, _, _, [], _, [], hW', trodAll_mk1 (shut_bool Try.underlying4 _), trodAll_mk2 (shut_word a _ _) (shut_word b _ _), rfl, bel.frame _, fun h => by cases h⟩

theorem slesses_holds : Rows.SignLessSaid :=
  OpenClaim.holds_of_wide 5 Try.f5 rfl rfl rfl rfl rfl rfl rfl ⟨rfl, rfl, rfl, rfl, rfl⟩ rfl rfl rfl rfl rfl (by kernel_rfl) Try.func5 (by kernel_rfl)
    (of_decide_eq_true (by kernel_rfl)) (by unfold Func.isWrapper; first | (rw [if_pos (by decide +kernel)]; kernel_rfl) | (rw [if_neg (by decide +kernel)]; exact ⟨rfl, rfl⟩))
    (fun os started H enc _ => slesses_lifted os started H enc)
end Go.Proofs.Ytlobchkbkdjccaa
