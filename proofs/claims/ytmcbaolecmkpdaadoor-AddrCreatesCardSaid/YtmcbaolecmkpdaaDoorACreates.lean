/- The statement AddrCreates, and its card: for every input (any address and any nonce) it returns true, and each argument reads behind the call as it read before. Condition: package keccak's two tables (the rounds' constants and the lanes' way) hold what the program's text lays (the card ties them to it). -/
import Derived.Test.YtmcbaolecmkpdaaDoorGg
import Derived.Test.YtmcbaolecmkpdaaDoorGj
namespace Go.Proofs.YtmcbaolecmkpdaaDoor
open Go.ChangeShapes Go.WideShapes Go.ChangeAt Go.RowKit SmWord
set_option maxRecDepth 100000

theorem addrCreates_contract (H : Type) (enc : TypeId × Value → H) (W : World) (base : Nat) (args : Array Value) (ds gs : List (DataW H)) (before : List MemPlace)
    (hval : ∀ (j : Nat) t v, Tryd.f4.params[j]? = some t → args[j]? = some v → Value.okWide Tryd.prog W .any base t v)
    (hW : DataW.Whole enc Tryd.prog Tryd.f4.params.toList Rows.addrCreatesSpec.vars false W args.toList ds gs before) (hL : laidMet Tryd.prog Rows.addrCreatesRow.laid W) :
    Calls Tryd.prog 4 args W fun e W' => ∃ v, e = .returned v ∧ Rows.addrCreatesSpec.post enc Tryd.prog Tryd.f4 false true false false W args v W' := by
  have hT := tab_of_laid hL
  have hW' := hW
  obtain ⟨p, q, hA0, hV, rfl, hfz, hnd⟩ := hW
  have hA : DataW.TrodAll enc Tryd.prog W 0 (fun _ => true) true Tryd.f4.params.toList args.toList ds p := hA0
  rw [Tryd.params4] at hA hval
  obtain ⟨v0, v1, d0, d1, p0, p1, rfl, rfl, rfl, h0, h1⟩ := trodAll_two hA
  obtain ⟨rfl, rfl⟩ := trodVars_none hV
  obtain ⟨f, rfl, hf⟩ := open_addr (hval 0 23 v0 rfl rfl) h0
  obtain ⟨zn, rfl, rfl, rfl, wn⟩ := open_int Tryd.underlying24 (hval 1 24 v1 rfl rfl) h1
  obtain ⟨nn, rfl, hnn⟩ := wf_u64 wn
  clear hA0
  simp only [List.append_nil] at hW'
  have hlt : ∀ x ∈ p0, x.block < W.heap.size := fun x hx => by simpa using hW'.lt x (by simpa using hx)
  have l0 : ∀ x ∈ p0, x.block < W.heap.size := fun x hx => hlt x (by simp [hx])
  refine (creates_walk f nn W hf hnn hT).mono fun e W' ⟨he, bel⟩ => ?_
  subst he
  exact ⟨_, rfl, _, _, _, [], _, [], hW', trodAll_mk1 (shut_bool Tryd.underlying4 _), trodAll_mk2 (Below.trod Tryd.laidOutX (by kernel_rfl) (of_decide_eq_true (by kernel_rfl)) h0 bel l0) (shut_int Tryd.underlying24 wn), rfl, bel.frame _, fun h => by cases h⟩
theorem addrCreates_reads (os : Os) {H : Type} (enc : TypeId × Value → H) : ∃ places, DataW.whole enc Tryd.prog ((laidWorld os).forCall (fun _ _ => 0) ⟨#[], #[.agg zA, .int .u64 0], []⟩).memory Tryd.f4.params.toList Rows.addrCreatesSpec.vars false #[Value.agg zA, .int .u64 0].toList 8 = some ([.agg (List.replicate 20 (.lit (.int .u8 0))), .lit (.int .u64 0)], [], places) :=
  ⟨[], by kernel_rfl⟩
theorem addrCreates_lifted (os : Os) (started : os.Started) (H : Type) (enc : TypeId × Value → H) (F : Stop.Interp) :
    ReturnsInHanded {} Tryd.checked os 4 .any ((OpenSpec.ofChange Rows.addrCreatesSpec).preRow enc Tryd.prog Tryd.f4 Rows.addrCreatesRow.domain false Rows.addrCreatesRow.laid) (((OpenSpec.ofChange Rows.addrCreatesSpec).at F).post enc Tryd.prog Tryd.f4 false true false false) := by
  obtain ⟨places, hx⟩ := addrCreates_reads os enc
  refine returnsInHanded_of_row (C := Tryd.checked) (s := OpenSpec.ofChange Rows.addrCreatesSpec) Tryd.own started (by kernel_rfl) Tryd.func4
    (witness_row_at (enc := enc) (C := Tryd.checked) false (laidWorld os) #[.agg zA, .int .u64 0] rfl (by kernel_rfl) (by kernel_rfl) (by kernel_rfl)
      (OpenSpec.preRow_of_cond 8 hx (by kernel_rfl) (fun k hk => by cases hk) (by kernel_rfl) (laid_met os _))) ?_
  intro W base args ds gs before hval hW _ _ _ hL _ _
  exact addrCreates_contract H enc W base args ds gs before hval hW hL
theorem addrCreates_said : Rows.AddrCreatesSaid :=
  OpenClaim.holds_of_cond 4 Tryd.f4 rfl rfl rfl rfl rfl rfl rfl ⟨rfl, rfl, rfl, rfl, rfl⟩ rfl rfl rfl rfl rfl (by kernel_rfl) Tryd.func4 (by kernel_rfl)
    (of_decide_eq_true (by kernel_rfl)) (by unfold Func.isWrapper; first | (rw [if_pos (by decide +kernel)]; kernel_rfl) | (rw [if_neg (by decide +kernel)]; exact ⟨rfl, rfl⟩))
    (fun os started H enc _ F => by rw [OpenClaim.pre_eq_preRow]; exact addrCreates_lifted os started H enc F)
theorem addrCreates_plain (f : FuncId) (fn : Func) (hf : Tryd.pinned.checked.prog.funcNamed "smithy/smithylaw08.AddrCreates" = some f) (hfn : Tryd.pinned.checked.prog.funcs[f]? = some fn) :
    false = Tryd.pinned.checked.prog.looks [] ∧ ∀ (j : Nat) t, fn.params[j]? = some t → Tryd.pinned.checked.prog.wantsStandIn t = false := by
  obtain rfl : f = 4 := Option.some.inj ((show Tryd.prog.funcNamed "smithy/smithylaw08.AddrCreates" = some 4 by kernel_rfl).symm.trans hf) |>.symm
  obtain rfl : fn = Tryd.f4 := (Option.some.inj (Tryd.func4.symm.trans hfn)).symm
  refine ⟨by kernel_rfl, fun j t ht => ?_⟩
  rw [Tryd.params4] at ht
  have hm : t ∈ [23, 24] := by simpa using Array.mem_of_getElem? ht
  have hall : ([23, 24].all fun u => !Tryd.prog.wantsStandIn u) = true := by kernel_rfl
  exact (show Tryd.prog.wantsStandIn t = false by simpa using List.all_eq_true.1 hall t hm)
theorem addrCreates_card : Rows.AddrCreatesCardSaid :=
  Claim7.holds_tied_plain_at .later [] _ _ _ _ addrCreates_said (fun _ h => by cases h) (by kernel_rfl) (fun _ h => by cases h) addrCreates_row_tie rfl ⟨rfl, rfl⟩ (by kernel_rfl) rfl addrCreates_plain (by kernel_rfl)
end Go.Proofs.YtmcbaolecmkpdaaDoor
