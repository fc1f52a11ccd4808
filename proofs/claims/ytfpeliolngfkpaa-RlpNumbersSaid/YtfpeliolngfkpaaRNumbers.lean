/- The statement RlpNumbers: for every input (any word) it returns true, and leaves all older memory as it was. -/
import Derived.Test.YtfpeliolngfkpaaRrO
namespace Go.Proofs.Ytfpeliolngfkpaa
open Go.ChangeShapes Go.WideShapes Go.ChangeAt Go.RowKit SmWord
set_option maxRecDepth 100000

set_option maxRecDepth 100000 in
theorem rlpNumbers_lifted (os : Os) (started : os.Started) (H : Type) (enc : TypeId × Value → H) :
    ReturnsInHanded {} Try.checked os 5 .any (Rows.rlpNumbersSpec.pre6 enc Try.prog Try.f5 Rows.rlpNumbersRow.domain false) (Rows.rlpNumbersSpec.post enc Try.prog Try.f5 false true false false) := by
  refine returnsInHanded_of_change (C := Try.checked) Try.own started (by kernel_rfl) Try.func5
    (ChangeSpec.witness6 (enc := enc) (C := Try.checked) false ⟨#[], #[w0000], []⟩ 8 (by kernel_rfl) (by kernel_rfl) (by kernel_rfl) (by kernel_rfl)) ?_
  intro W base args ds gs before hval0 hW hcnd _
  have hval : ∀ (j : Nat) t v, Try.f5.params[j]? = some t → args[j]? = some v → Value.okWide Try.prog W .any base t v := hval0
  have hW' := hW
  obtain ⟨p, q, hA0, hV, rfl, hfz, hnd⟩ := hW
  have hA : DataW.TrodAll enc Try.prog W 0 (fun _ => true) true Try.f5.params.toList args.toList ds p := hA0
  rw [Try.params5] at hA hval
  obtain ⟨v0, d0, rfl, rfl, h0⟩ := trodAll_one hA
  obtain ⟨rfl, rfl⟩ := trodVars_none hV
  obtain ⟨a, rfl, rfl, rfl⟩ := open_word (hval 0 39 v0 rfl rfl) h0
  clear hA0 hval0
  simp only [List.append_nil] at hW'
  have hfix : ∃ m, m < 256 ^ 32 ∧ wd m = wd a ∧ dw (H := H) m = dw a := by
    have hc := wa_congr (m := a % M) (n := a) (Nat.mod_mod _ _)
    refine ⟨a % M, Nat.lt_of_lt_of_le (Nat.mod_lt _ (by decide)) (by decide), congrArg Value.agg hc, ?_⟩
    simp only [wa, Array.mk.injEq, List.cons.injEq, Value.int.injEq, true_and, and_true] at hc
    simp only [dw, hc]
  obtain ⟨m, hm, e1, e2⟩ := hfix
  rw [← e1, ← e2] at hW'
  rw [← e1]
  refine (numbers_walk m W hm).mono fun e W' ⟨he, bel⟩ => ?_
  subst he
  exact ⟨_, rfl, _, _, _, [], _, [], hW', trodAll_mk1 (shut_bool Try.underlying4 _), trodAll_mk1 (shut_word m _ _), rfl, bel.frame _, fun h => by cases h⟩

theorem rlpNumbers_holds : Rows.RlpNumbersSaid :=
  OpenClaim.holds_of_wide 5 Try.f5 rfl rfl rfl rfl rfl rfl rfl ⟨rfl, rfl, rfl, rfl, rfl⟩ rfl rfl rfl rfl rfl (by kernel_rfl) Try.func5 (by kernel_rfl)
    (of_decide_eq_true (by kernel_rfl)) (by unfold Func.isWrapper; first | (rw [if_pos (by decide +kernel)]; kernel_rfl) | (rw [if_neg (by decide +kernel)]; exact ⟨rfl, rfl⟩))
    (fun os started H enc _ => rlpNumbers_lifted os started H enc)
end Go.Proofs.Ytfpeliolngfkpaa
