/- The statement WidePowers: for every input it returns true, and leaves all older memory as it was. -/
import Derived.Test.YtapkadmpfoeljaaRexp
import Derived.Test.YtapkadmpfoeljaaFrame
namespace Go.Proofs.Ytapkadmpfoeljaa
open Go.ChangeShapes Go.WideShapes Go.ChangeAt Go.RowKit SmWord
set_option maxRecDepth 100000
theorem equal_yes {m n : Nat} (h : m % M = n % M) (w : World) : (Op.equalIn 10000 24 (.agg (wa m)) (.agg (wa n))).run Try.prog w = .ok true w := by
  rw [equal_wa, decide_eq_true h]

set_option maxHeartbeats 2000000 in
theorem powers_walk0 (a n x : Nat) (w : World) (H1 : Hid (∀ w : World, Calls Try.prog 22 #[wd a, wd n] w fun e w' => e = .returned (wd x) ∧ Below w.heap.size w w')) (H2 : Hid (∀ w : World, Calls Try.prog 23 #[wd a, wd n] w fun e w' => e = .returned (wd x) ∧ Below w.heap.size w w')) :
    Calls Try.prog 7 #[wd a, wd n] w fun e w' => e = .returned (.bool true) ∧ Below w.heap.size w w' := by
  go_enter Try.func7, Try.ntmps7
  go_upto_region 1 with fail
  have f2 : ((w.alloc (.cells (wa a) 24)).alloc (.cells (wa n) 24)).heap[w.heap.size]? = some (.cells (wa a) 24) := blk_alloc (blk_new _ rfl)
  have f3 : ((w.alloc (.cells (wa a) 24)).alloc (.cells (wa n) 24)).heap[w.heap.size + 1]? = some (.cells (wa n) 24) := blk_new _ (by simp)
  have bW : Below w.heap.size w ((w.alloc (.cells (wa a) 24)).alloc (.cells (wa n) 24)) := (((Below.refl _ _).alloc (Nat.le_refl _) _).alloc (by simp <;> omega) _)
  have sW : w.heap.size + 2 ≤ ((w.alloc (.cells (wa a) 24)).alloc (.cells (wa n) 24)).heap.size := by simp
  generalize ((w.alloc (.cells (wa a) 24)).alloc (.cells (wa n) 24)) = W at *
  have g2 := fun g : Ext W => g.word f2
  have g3 := fun g : Ext W => g.word f3
  have fo := fold_wa
  have eg := Try.guardW
  have e1 := fun w => equal_yes (m := x) (n := x) rfl w
  refine region_ext (by kernel_rfl) (by kernel_rfl) ?_
  repeat (go_big_quiet_step (first | (go_at_call 12; exact calls_ext (fixed2_walk _)) | (go_at_call 22; with_reducible exact calls_ext (H1.out _)) | (go_at_call 23; with_reducible exact calls_ext (H2.out _))))
  refine wpQuiet_nil ?_
  rintro _ ⟨g, rfl⟩
  go_wp2
  go_ret
  exact ⟨rfl, bW.trans (g.below.mono bW.size)⟩
theorem powers_walk (a n : Nat) (w : World) : Calls Try.prog 7 #[wd a, wd n] w fun e w' => e = .returned (.bool true) ∧ Below w.heap.size w w' :=
  powers_walk0 a n _ w (Lib.hid fun w => exp_wd a n w) (Lib.hid fun w => rexp_walk a n w)

set_option maxRecDepth 100000 in
theorem powers_lifted (os : Os) (started : os.Started) (H : Type) (enc : TypeId × Value → H) :
    ReturnsInHanded {} Try.checked os 7 .any (Rows.widePowersSpec.pre6 enc Try.prog Try.f7 Rows.widePowersRow.domain false) (Rows.widePowersSpec.post enc Try.prog Try.f7 false true false false) := by
  refine returnsInHanded_of_change (C := Try.checked) Try.own started (by kernel_rfl) Try.func7
    (ChangeSpec.witness6 (enc := enc) (C := Try.checked) false ⟨#[], #[w0000, w0000], []⟩ 8 (by kernel_rfl) (by kernel_rfl) (by kernel_rfl) (by kernel_rfl)) ?_
  intro W base args ds gs before hval0 hW hcnd _
  have hval : ∀ (j : Nat) t v, Try.f7.params[j]? = some t → args[j]? = some v → Value.okWide Try.prog W .any base t v := hval0
  have hW' := hW
  obtain ⟨p, q, hA0, hV, rfl, hfz, hnd⟩ := hW
  have hA : DataW.TrodAll enc Try.prog W 0 (fun _ => true) true Try.f7.params.toList args.toList ds p := hA0
  rw [Try.params7] at hA hval
  obtain ⟨v0, v1, d0, d1, p0, p1, rfl, rfl, rfl, h0, h1⟩ := trodAll_two hA
  obtain ⟨rfl, rfl⟩ := trodVars_none hV
  obtain ⟨a, rfl, rfl, rfl⟩ := open_word (hval 0 24 v0 rfl rfl) h0
  obtain ⟨b, rfl, rfl, rfl⟩ := open_word (hval 1 24 v1 rfl rfl) h1
  clear hA0 hval0
  simp only [List.append_nil] at hW'
  refine (powers_walk a b W).mono fun e W' ⟨he, bel⟩ => ?_
  subst he
  exact ⟨_, rfl, _, _, _, [], _, [], hW', trodAll_mk1 (shut_bool Try.underlying4 _), trodAll_mk2 (shut_word a _ _) (shut_word b _ _), rfl, bel.frame _, fun h => by cases h⟩

theorem powers_holds : Rows.WidePowersSaid :=
  OpenClaim.holds_of_wide 7 Try.f7 rfl rfl rfl rfl rfl rfl rfl ⟨rfl, rfl, rfl, rfl, rfl⟩ rfl rfl rfl rfl rfl (by kernel_rfl) Try.func7 (by kernel_rfl)
    (of_decide_eq_true (by kernel_rfl)) (by unfold Func.isWrapper; first | (rw [if_pos (by decide +kernel)]; kernel_rfl) | (rw [if_neg (by decide +kernel)]; exact ⟨rfl, rfl⟩))
    (fun os started H enc _ => powers_lifted os started H enc)
end Go.Proofs.Ytapkadmpfoeljaa
