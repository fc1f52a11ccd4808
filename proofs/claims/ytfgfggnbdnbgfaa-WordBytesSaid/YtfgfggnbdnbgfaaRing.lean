/- The statement WordRing, walked: for every three words it returns true, and leaves all older memory as it was. -/
import Derived.Test.YtfgfggnbdnbgfaaFixed
import Derived.Test.YtfgfggnbdnbgfaaFrame
namespace Go.Proofs.Ytfgfggnbdnbgfaa
open Go.ChangeShapes Go.WideShapes Go.ChangeAt Go.RowKit SmWord
set_option maxRecDepth 100000

theorem equal_yes {m n : Nat} (h : m % M = n % M) (w : World) : (Op.equalIn 10000 24 (.agg (wa m)) (.agg (wa n))).run Try.prog w = .ok true w := by
  rw [equal_wa, decide_eq_true h]

set_option maxHeartbeats 2000000 in
theorem ring_walk (a b c : Nat) (w : World) :
    Calls Try.prog 5 #[wd a, wd b, wd c] w fun e w' => e = .returned (.bool true) ∧ Below w.heap.size w w' := by
  go_enter Try.func5, Try.ntmps5
  go_wp2_with fail
  have f1 : (((w.alloc (.cells (wa a) 24)).alloc (.cells (wa b) 24)).alloc (.cells (wa c) 24)).heap[w.heap.size]? = some (.cells (wa a) 24) :=
    Below.stays ((Below.refl _ _).alloc (Nat.le_refl _) _) (Below.stays ((Below.refl _ _).alloc (Nat.le_refl _) _) (heap_alloc_new _ _))
  have f2 : (((w.alloc (.cells (wa a) 24)).alloc (.cells (wa b) 24)).alloc (.cells (wa c) 24)).heap[w.heap.size + 1]? = some (.cells (wa b) 24) :=
    Below.stays ((Below.refl _ _).alloc (Nat.le_refl _) _) (heap_alloc2_new _ _ _)
  have f3 : (((w.alloc (.cells (wa a) 24)).alloc (.cells (wa b) 24)).alloc (.cells (wa c) 24)).heap[w.heap.size + 1 + 1]? = some (.cells (wa c) 24) := by
    have := heap_alloc_new ((w.alloc (.cells (wa a) 24)).alloc (.cells (wa b) 24)) (.cells (wa c) 24)
    simpa using this
  have bW : Below w.heap.size w (((w.alloc (.cells (wa a) 24)).alloc (.cells (wa b) 24)).alloc (.cells (wa c) 24)) :=
    (((Below.refl _ _).alloc (Nat.le_refl _) _).alloc (by simp) _).alloc (by simp; omega) _
  generalize ((w.alloc (.cells (wa a) 24)).alloc (.cells (wa b) 24)).alloc (.cells (wa c) 24) = W at *
  have g1 := fun g : Ext W => g.word f1
  have g2 := fun g : Ext W => g.word f2
  have g3 := fun g : Ext W => g.word f3
  have fo := fold_wa
  have eg := Try.guardW
  have e1 := fun w => equal_yes (m := a + b) (n := b + a) (by rw [Nat.add_comm]) w
  have e2 := fun w => equal_yes (m := a * b) (n := b * a) (by rw [Nat.mul_comm]) w
  have e3 := fun w => equal_yes (m := a + b + c) (n := a + (b + c)) (by rw [Nat.add_assoc]) w
  refine region_ext (by kernel_rfl) (by kernel_rfl) ?_
  repeat (go_big_quiet_step (first | (go_at_call 13; exact calls_ext (add_wd _ _ _)) | (go_at_call 18; exact calls_ext (mul_wd _ _ _))))
  refine wpQuiet_nil ?_
  rintro _ ⟨g, rfl⟩
  clear e1 e2 e3
  go_wp2_with fail
  have f1 := g.block f1
  have f2 := g.block f2
  have f3 := g.block f3
  have bW := bW.trans (g.below.mono bW.size)
  clear g1 g2 g3
  generalize g.on = W at *
  have g1 := fun g : Ext W => g.word f1
  have g2 := fun g : Ext W => g.word f2
  have g3 := fun g : Ext W => g.word f3
  have e1 := fun w => equal_yes (m := a * b * c) (n := a * (b * c)) (by rw [Nat.mul_assoc]) w
  have e2 := fun w => equal_yes (m := a * (b + c)) (n := a * b + a * c) (by rw [Nat.mul_add]) w
  refine region_ext (by kernel_rfl) (by kernel_rfl) ?_
  repeat (go_big_quiet_step (first | (go_at_call 12; exact calls_ext (fixed_walk _)) | (go_at_call 13; exact calls_ext (add_wd _ _ _)) | (go_at_call 18; exact calls_ext (mul_wd _ _ _))))
  refine wpQuiet_nil ?_
  rintro _ ⟨g, rfl⟩
  go_wp2
  go_ret
  exact ⟨rfl, bW.trans (g.below.mono bW.size)⟩

set_option maxRecDepth 100000 in
theorem ring_lifted (os : Os) (started : os.Started) (H : Type) (enc : TypeId × Value → H) :
    ReturnsInHanded {} Try.checked os 5 .any (Rows.wordRingSpec.pre6 enc Try.prog Try.f5 Rows.wordRingRow.domain false) (Rows.wordRingSpec.post enc Try.prog Try.f5 false true false false) := by
  refine returnsInHanded_of_change (C := Try.checked) Try.own started (by kernel_rfl) Try.func5
    (ChangeSpec.witness6 (enc := enc) (C := Try.checked) false ⟨#[], #[w0000, w0000, w0000], []⟩ 8 (by kernel_rfl) (by kernel_rfl) (by kernel_rfl) (by kernel_rfl)) ?_
  intro W base args ds gs before hval0 hW hcnd _
  have hval : ∀ (j : Nat) t v, Try.f5.params[j]? = some t → args[j]? = some v → Value.okWide Try.prog W .any base t v := hval0
  have hW' := hW
  obtain ⟨p, q, hA0, hV, rfl, hfz, hnd⟩ := hW
  have hA : DataW.TrodAll enc Try.prog W 0 (fun _ => true) true Try.f5.params.toList args.toList ds p := hA0
  rw [Try.params5] at hA hval
  obtain ⟨v0, v1, v2, d0, d1, d2, p0, p1, p2, rfl, rfl, rfl, h0, h1, h2⟩ := trodAll_three hA
  obtain ⟨rfl, rfl⟩ := trodVars_none hV
  obtain ⟨a, rfl, rfl, rfl⟩ := open_word (hval 0 24 v0 rfl rfl) h0
  obtain ⟨b, rfl, rfl, rfl⟩ := open_word (hval 1 24 v1 rfl rfl) h1
  obtain ⟨c, rfl, rfl, rfl⟩ := open_word (hval 2 24 v2 rfl rfl) h2
  clear hA0 hval0
  simp only [List.append_nil] at hW'
  refine (ring_walk a b c W).mono fun e W' ⟨he, bel⟩ => ?_
  subst he
  exact ⟨_, rfl, _, _, _, [], _, [], hW', trodAll_mk1 (shut_bool Try.underlying4 _), trodAll_mk3 (shut_word a _ _) (shut_word b _ _) (shut_word c _ _), rfl, bel.frame _, fun h => by cases h⟩

theorem ring_holds : Rows.WordRingSaid :=
  OpenClaim.holds_of_wide 5 Try.f5 rfl rfl rfl rfl rfl rfl rfl ⟨rfl, rfl, rfl, rfl, rfl⟩ rfl rfl rfl rfl rfl (by kernel_rfl) Try.func5 (by kernel_rfl)
    (of_decide_eq_true (by kernel_rfl)) (by unfold Func.isWrapper; first | (rw [if_pos (by decide +kernel)]; kernel_rfl) | (rw [if_neg (by decide +kernel)]; exact ⟨rfl, rfl⟩))
    (fun os started H enc _ => ring_lifted os started H enc)
end Go.Proofs.Ytfgfggnbdnbgfaa
