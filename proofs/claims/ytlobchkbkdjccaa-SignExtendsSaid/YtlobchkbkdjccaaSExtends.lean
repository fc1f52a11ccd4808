/- The statement SignExtends: for every input it returns true, and leaves all older memory as it was. -/
import Derived.Test.YtlobchkbkdjccaaSgF
import Derived.Test.YtlobchkbkdjccaaSgY
import Derived.Test.YtlobchkbkdjccaaFrame
namespace Go.Proofs.Ytlobchkbkdjccaa
open Go.ChangeShapes Go.WideShapes Go.ChangeAt Go.RowKit SmWord
set_option maxRecDepth 100000

set_option maxHeartbeats 2000000 in
theorem sextends_walk0 (n a x : Nat) (w : World) (H1 : Hid (∀ w : World, Calls Try.prog 23 #[wd n, wd a] w fun e w' => e = .returned (wd x) ∧ Below w.heap.size w w')) (H2 : Hid (∀ w : World, Calls Try.prog 24 #[wd n, wd a] w fun e w' => e = .returned (wd x) ∧ Below w.heap.size w w')) (H3 : Hid (∀ w : World, Calls Try.prog 23 #[wd n, wd x] w fun e w' => e = .returned (wd x) ∧ Below w.heap.size w w')) :
    Calls Try.prog 6 #[wd n, wd a] w fun e w' => e = .returned (.bool true) ∧ Below w.heap.size w w' := by
  have hs := store_new
  have hsz := wa_size
  go_enter Try.func6, Try.ntmps6
  go_upto_region 1 with fail
  have f2 : ((w.alloc (.cells (wa n) 24)).alloc (.cells (wa a) 24)).heap[w.heap.size]? = some (.cells (wa n) 24) := blk_alloc (blk_new _ rfl)
  have f3 : ((w.alloc (.cells (wa n) 24)).alloc (.cells (wa a) 24)).heap[w.heap.size + 1]? = some (.cells (wa a) 24) := blk_new _ (by simp)
  have bW : Below w.heap.size w ((w.alloc (.cells (wa n) 24)).alloc (.cells (wa a) 24)) := (((Below.refl _ _).alloc (Nat.le_refl _) _).alloc (by simp <;> omega) _)
  have sW : w.heap.size + 2 ≤ ((w.alloc (.cells (wa n) 24)).alloc (.cells (wa a) 24)).heap.size := by simp
  generalize ((w.alloc (.cells (wa n) 24)).alloc (.cells (wa a) 24)) = W at *
  go_wp2_with (refine wpList_load_row rfl 24 _ rfl _ rfl 24 _ (0, 0) _ (by assumption) Try.underlying24 rfl Try.infoWa ?_)
  refine (H1.out _).mono ?_
  rintro e w1 ⟨rfl, b1⟩
  replace f2 := Below.stays b1 f2
  replace f3 := Below.stays b1 f3
  replace bW := bW.trans (b1.mono bW.size)
  replace sW := Nat.le_trans sW b1.size
  clear b1
  go_upto_region 2 with fail
  replace f2 := blk_alloc (o' := .cells (wa x) 24) f2
  replace f3 := blk_alloc (o' := .cells (wa x) 24) f3
  have f5 : (w1.alloc (.cells (wa x) 24)).heap[w1.heap.size]? = some (.cells (wa x) 24) := heap_alloc_new _ _
  replace bW : Below w.heap.size w (w1.alloc (.cells (wa x) 24)) := bW.alloc (by omega) _
  have sb5 : w1.heap.size + 1 ≤ (w1.alloc (.cells (wa x) 24)).heap.size := by simp
  generalize (w1.alloc (.cells (wa x) 24)) = w2 at *
  generalize w1.heap.size = b5 at *
  have lb5 := sW
  replace sW := Nat.le_trans (Nat.le_succ_of_le sW) sb5
  clear hs hsz lb5 sb5
  have gf2 := fun g : Ext w2 => g.word f2
  have gf3 := fun g : Ext w2 => g.word f3
  have gf5 := fun g : Ext w2 => g.word f5
  have fo := fold_wa
  have eg := Try.guardW
  have e1 := fun w => eqw_yes (m := x) (n := x) rfl w
  refine region_ext (by kernel_rfl) (by kernel_rfl) ?_
  repeat (go_big_quiet_step (first | (go_at_call 10; exact calls_ext (fixed3_walk _)) | (go_at_call 24; with_reducible exact calls_ext (H2.out _)) | (go_at_call 23; with_reducible exact calls_ext (H3.out _))))
  refine wpQuiet_nil ?_
  rintro _ ⟨g, rfl⟩
  go_wp2
  go_ret
  exact ⟨rfl, bW.trans (g.below.mono bW.size)⟩
theorem exn_again (n a : Nat) : exn n (exn n a) = exn n a := by
  unfold exn
  by_cases h : smallB n = true ∧ l0 n ≤ 30
  · rw [if_pos h, if_pos h, ext_again _ _ h.2]
  · rw [if_neg h, if_neg h]
theorem sextends_walk (n a : Nat) (w : World) : Calls Try.prog 6 #[wd n, wd a] w fun e w' => e = .returned (.bool true) ∧ Below w.heap.size w w' :=
  sextends_walk0 n a _ w (Lib.hid fun w => extend_wd n a w) (Lib.hid fun w => rext_wd n a w) (Lib.hid fun w => by
    have := extend_wd n (exn n a) w
    rw [exn_again] at this
    exact this)

set_option maxRecDepth 100000 in
theorem sextends_lifted (os : Os) (started : os.Started) (H : Type) (enc : TypeId × Value → H) :
    ReturnsInHanded {} Try.checked os 6 .any (Rows.signExtendsSpec.pre6 enc Try.prog Try.f6 Rows.signExtendsRow.domain false) (Rows.signExtendsSpec.post enc Try.prog Try.f6 false true false false) := by
  refine returnsInHanded_of_change (C := Try.checked) Try.own started (by kernel_rfl) Try.func6
    (ChangeSpec.witness6 (enc := enc) (C := Try.checked) false ⟨#[], #[w0000, w0000], []⟩ 8 (by kernel_rfl) (by kernel_rfl) (by kernel_rfl) (by kernel_rfl)) ?_
  intro W base args ds gs before hval0 hW hcnd _
  have hval : ∀ (j : Nat) t v, Try.f6.params[j]? = some t → args[j]? = some v → Value.okWide Try.prog W .any base t v := hval0
  have hW' := hW
  obtain ⟨p, q, hA0, hV, rfl, hfz, hnd⟩ := hW
  have hA : DataW.TrodAll enc Try.prog W 0 (fun _ => true) true Try.f6.params.toList args.toList ds p := hA0
  rw [Try.params6] at hA hval
  obtain ⟨v0, v1, d0, d1, p0, p1, rfl, rfl, rfl, h0, h1⟩ := trodAll_two hA
  obtain ⟨rfl, rfl⟩ := trodVars_none hV
  obtain ⟨a, rfl, rfl, rfl⟩ := open_word (hval 0 24 v0 rfl rfl) h0
  obtain ⟨b, rfl, rfl, rfl⟩ := open_word (hval 1 24 v1 rfl rfl) h1
  clear hA0 hval0
  simp only [List.append_nil] at hW'
  refine (sextends_walk a b W).mono fun e W' ⟨he, bel⟩ => ?_
  subst he
  exact ⟨_, rfl, _, _, _, [], _, [], hW', trodAll_mk1 (shut_bool Try.underlying4 _), trodAll_mk2 (shut_word a _ _) (shut_word b _ _), rfl, bel.frame _, fun h => by cases h⟩

theorem sextends_holds : Rows.SignExtendsSaid :=
  OpenClaim.holds_of_wide 6 Try.f6 rfl rfl rfl rfl rfl rfl rfl ⟨rfl, rfl, rfl, rfl, rfl⟩ rfl rfl rfl rfl rfl (by kernel_rfl) Try.func6 (by kernel_rfl)
    (of_decide_eq_true (by kernel_rfl)) (by unfold Func.isWrapper; first | (rw [if_pos (by decide +kernel)]; kernel_rfl) | (rw [if_neg (by decide +kernel)]; exact ⟨rfl, rfl⟩))
    (fun os started H enc _ => sextends_lifted os started H enc)
end Go.Proofs.Ytlobchkbkdjccaa
