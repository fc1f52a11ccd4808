/- The statement WideRests: for every input it returns true, and leaves all older memory as it was. -/
import Derived.Test.YtapkadmpfoeljaaFixedB
import Derived.Test.YtapkadmpfoeljaaNumH
import Derived.Test.YtapkadmpfoeljaaFrame
import Derived.Deep.RegionHeld3
import Derived.Deep.RegionWith
namespace Go.Proofs.Ytapkadmpfoeljaa
open Go.ChangeShapes Go.WideShapes Go.ChangeAt Go.RowKit SmWord
set_option maxRecDepth 100000
theorem equal_yes {m n : Nat} (h : m % M = n % M) (w : World) : (Op.equalIn 10000 24 (.agg (wa m)) (.agg (wa n))).run Try.prog w = .ok true w := by
  rw [equal_wa, decide_eq_true h]

set_option maxHeartbeats 4000000 in
theorem rests_walk (a b m : Nat) (w : World) : Calls Try.prog 6 #[wd a, wd b, wd m] w fun e w' => e = .returned (.bool true) ∧ Below w.heap.size w w' := by
  go_enter Try.func6, Try.ntmps6
  go_upto_region 1 with fail
  have f3 : (((w.alloc (.cells (wa a) 24)).alloc (.cells (wa b) 24)).alloc (.cells (wa m) 24)).heap[w.heap.size]? = some (.cells (wa a) 24) := blk_alloc (blk_alloc (blk_new _ rfl))
  have f4 : (((w.alloc (.cells (wa a) 24)).alloc (.cells (wa b) 24)).alloc (.cells (wa m) 24)).heap[w.heap.size + 1]? = some (.cells (wa b) 24) := blk_alloc (blk_new _ (by simp))
  have f5 : (((w.alloc (.cells (wa a) 24)).alloc (.cells (wa b) 24)).alloc (.cells (wa m) 24)).heap[w.heap.size + 1 + 1]? = some (.cells (wa m) 24) := blk_new _ (by simp)
  have bW : Below w.heap.size w (((w.alloc (.cells (wa a) 24)).alloc (.cells (wa b) 24)).alloc (.cells (wa m) 24)) := ((((Below.refl _ _).alloc (Nat.le_refl _) _).alloc (by simp <;> omega) _).alloc (by simp <;> omega) _)
  have sW : w.heap.size + 3 ≤ (((w.alloc (.cells (wa a) 24)).alloc (.cells (wa b) 24)).alloc (.cells (wa m) 24)).heap.size := by simp
  generalize (((w.alloc (.cells (wa a) 24)).alloc (.cells (wa b) 24)).alloc (.cells (wa m) 24)) = W at *
  go_cut [7, 8, 9] (fun s7 s8 s9 wx => NumS wx s7 32 (a % M) ∧ NumS wx s8 32 (b % M) ∧ NumS wx s9 32 (m % M) ∧ wx.heap[w.heap.size]? = some (.cells (wa a) 24) ∧ wx.heap[w.heap.size + 1]? = some (.cells (wa b) 24) ∧ wx.heap[w.heap.size + 1 + 1]? = some (.cells (wa m) 24) ∧ Below w.heap.size w wx)
  case first =>
    have fo := fold_wa
    have bR := bW.drew
    go_region_held3 (fun w' => (w'.cell? ⟨w.heap.size, 0, none⟩ = some (.int .u64 ((l0 a : Nat) : Int)) ∧ w'.cell? ⟨w.heap.size, 1, none⟩ = some (.int .u64 ((l1 a : Nat) : Int)) ∧ w'.cell? ⟨w.heap.size, 2, none⟩ = some (.int .u64 ((l2 a : Nat) : Int)) ∧ w'.cell? ⟨w.heap.size, 3, none⟩ = some (.int .u64 ((l3 a : Nat) : Int))) ∧ (w'.cell? ⟨w.heap.size + 1, 0, none⟩ = some (.int .u64 ((l0 b : Nat) : Int)) ∧ w'.cell? ⟨w.heap.size + 1, 1, none⟩ = some (.int .u64 ((l1 b : Nat) : Int)) ∧ w'.cell? ⟨w.heap.size + 1, 2, none⟩ = some (.int .u64 ((l2 b : Nat) : Int)) ∧ w'.cell? ⟨w.heap.size + 1, 3, none⟩ = some (.int .u64 ((l3 b : Nat) : Int))) ∧ (w'.cell? ⟨w.heap.size + 1 + 1, 0, none⟩ = some (.int .u64 ((l0 m : Nat) : Int)) ∧ w'.cell? ⟨w.heap.size + 1 + 1, 1, none⟩ = some (.int .u64 ((l1 m : Nat) : Int)) ∧ w'.cell? ⟨w.heap.size + 1 + 1, 2, none⟩ = some (.int .u64 ((l2 m : Nat) : Int)) ∧ w'.cell? ⟨w.heap.size + 1 + 1, 3, none⟩ = some (.int .u64 ((l3 m : Nat) : Int)))) (exact ⟨word_cells f3, word_cells f4, word_cells f5⟩) (first | (go_at_call_of 11 (Value.agg (wa a)); refine (nof_ref a _).mono ?_; rintro e w' ⟨va, rfl, na, hna⟩; replace f3 := Below.stays hna f3; replace f4 := Below.stays hna f4; replace f5 := Below.stays hna f5; replace bR := bR.trans (hna.mono bR.size); (try replace nb := nb.stays hna); (try replace nc := nc.stays hna)) | (go_at_call_of 11 (Value.agg (wa b)); refine (nof_ref b _).mono ?_; rintro e w' ⟨vb, rfl, nb, hnb⟩; replace f3 := Below.stays hnb f3; replace f4 := Below.stays hnb f4; replace f5 := Below.stays hnb f5; replace bR := bR.trans (hnb.mono bR.size); (try replace na := na.stays hnb); (try replace nc := nc.stays hnb)) | (go_at_call_of 11 (Value.agg (wa m)); refine (nof_ref m _).mono ?_; rintro e w' ⟨vc, rfl, nc, hnc⟩; replace f3 := Below.stays hnc f3; replace f4 := Below.stays hnc f4; replace f5 := Below.stays hnc f5; replace bR := bR.trans (hnc.mono bR.size); (try replace na := na.stays hnc); (try replace nb := nb.stays hnc)))
    all_goals
      go_wp2_with fail
      go_meet
      exact ⟨na, nb, nc, f3, f4, f5, bR⟩
  case rest =>
    clear f3 f4 f5 bW
    obtain ⟨na, nb, nc, f3, f4, f5, bW⟩ := hcut
    go_wp2_with fail
    refine (plus_ref _ _ 32 32 (a % M) (b % M) _ na nb ⟨by omega, by omega⟩).mono ?_
    rintro e w1 ⟨vs, rfl, ns, hX⟩
    replace f3 := Below.stays hX f3
    replace f4 := Below.stays hX f4
    replace f5 := Below.stays hX f5
    replace na := na.stays hX
    replace nb := nb.stays hX
    replace nc := nc.stays hX
    replace bW := bW.trans (hX.mono bW.size)
    clear hX
    go_wp2_with fail
    refine (rdiv_ref vs _ (max 32 32 + 1) 32 (a % M + b % M) (m % M) _ ns nc ⟨by omega, by omega⟩).mono ?_
    rintro e w2 ⟨q1, r1, k1, rfl, _, ns, hX⟩
    replace f3 := Below.stays hX f3
    replace f4 := Below.stays hX f4
    replace f5 := Below.stays hX f5
    replace na := na.stays hX
    replace nb := nb.stays hX
    replace nc := nc.stays hX
    replace bW := bW.trans (hX.mono bW.size)
    clear hX
    go_wp2_with fail
    refine (times_ref _ _ 32 32 (a % M) (b % M) _ na nb ⟨by omega, by omega⟩).mono ?_
    rintro e w3 ⟨vp, rfl, np, hX⟩
    replace f3 := Below.stays hX f3
    replace f4 := Below.stays hX f4
    replace f5 := Below.stays hX f5
    replace na := na.stays hX
    replace nb := nb.stays hX
    replace nc := nc.stays hX
    replace ns := ns.stays hX
    replace bW := bW.trans (hX.mono bW.size)
    clear hX
    go_wp2_with fail
    refine (rdiv_ref vp _ (32 + 32 + 1) 32 (a % M * (b % M)) (m % M) _ np nc ⟨by omega, by omega⟩).mono ?_
    rintro e w4 ⟨q2, r2, k2, rfl, _, np, hX⟩
    replace f3 := Below.stays hX f3
    replace f4 := Below.stays hX f4
    replace f5 := Below.stays hX f5
    replace na := na.stays hX
    replace nb := nb.stays hX
    replace nc := nc.stays hX
    replace ns := ns.stays hX
    replace bW := bW.trans (hX.mono bW.size)
    clear hX
    clear na nb nc
    go_upto_region 4 with fail
    have g3 := fun g : Ext w4 => g.word f3
    have g4 := fun g : Ext w4 => g.word f4
    have g5 := fun g : Ext w4 => g.word f5
    have fo := fold_wa
    have eg := Try.guardW
    have e1 := fun w => equal_yes (m := rs (a % M + b % M) (m % M)) (n := rs (a % M + b % M) (m % M)) rfl w
    have e2 := fun w => equal_yes (m := rs (a % M * (b % M)) (m % M)) (n := rs (a % M * (b % M)) (m % M)) rfl w
    refine region_seq ?_
    repeat (go_big_quiet_step (first | (go_at_call 12; exact calls_ext (fixed2_walk _)) | (go_at_call 20; with_reducible exact calls_ext (addMod_wd _ _ _ _)) | (go_at_call 21; with_reducible exact calls_ext (mulMod_wd _ _ _ _)) | (go_at_call 13; first | with_reducible exact calls_ext (nword_ref _ _ _ _ (ns.stays (Ext.below _))) | with_reducible exact calls_ext (nword_ref _ _ _ _ (np.stays (Ext.below _))))))
    refine wpQuiet_nil ?_
    rintro _ ⟨g, rfl⟩
    go_wp2
    go_ret
    exact ⟨rfl, bW.trans (g.below.mono bW.size)⟩

set_option maxRecDepth 100000 in
theorem rests_lifted (os : Os) (started : os.Started) (H : Type) (enc : TypeId × Value → H) :
    ReturnsInHanded {} Try.checked os 6 .any (Rows.wideRestsSpec.pre6 enc Try.prog Try.f6 Rows.wideRestsRow.domain false) (Rows.wideRestsSpec.post enc Try.prog Try.f6 false true false false) := by
  refine returnsInHanded_of_change (C := Try.checked) Try.own started (by kernel_rfl) Try.func6
    (ChangeSpec.witness6 (enc := enc) (C := Try.checked) false ⟨#[], #[w0000, w0000, w0000], []⟩ 8 (by kernel_rfl) (by kernel_rfl) (by kernel_rfl) (by kernel_rfl)) ?_
  intro W base args ds gs before hval0 hW hcnd _
  have hval : ∀ (j : Nat) t v, Try.f6.params[j]? = some t → args[j]? = some v → Value.okWide Try.prog W .any base t v := hval0
  have hW' := hW
  obtain ⟨p, q, hA0, hV, rfl, hfz, hnd⟩ := hW
  have hA : DataW.TrodAll enc Try.prog W 0 (fun _ => true) true Try.f6.params.toList args.toList ds p := hA0
  rw [Try.params6] at hA hval
  obtain ⟨v0, v1, v2, d0, d1, d2, p0, p1, p2, rfl, rfl, rfl, h0, h1, h2⟩ := trodAll_three hA
  obtain ⟨rfl, rfl⟩ := trodVars_none hV
  obtain ⟨a, rfl, rfl, rfl⟩ := open_word (hval 0 24 v0 rfl rfl) h0
  obtain ⟨b, rfl, rfl, rfl⟩ := open_word (hval 1 24 v1 rfl rfl) h1
  obtain ⟨c, rfl, rfl, rfl⟩ := open_word (hval 2 24 v2 rfl rfl) h2
  clear hA0 hval0
  simp only [List.append_nil] at hW'
  refine (rests_walk a b c W).mono fun e W' ⟨he, bel⟩ => ?_
  subst he
  exact ⟨_, rfl, _, _, _, [], _, [], hW', trodAll_mk1 (shut_bool Try.underlying4 _), trodAll_mk3 (shut_word a _ _) (shut_word b _ _) (shut_word c _ _), rfl, bel.frame _, fun h => by cases h⟩

theorem rests_holds : Rows.WideRestsSaid :=
  OpenClaim.holds_of_wide 6 Try.f6 rfl rfl rfl rfl rfl rfl rfl ⟨rfl, rfl, rfl, rfl, rfl⟩ rfl rfl rfl rfl rfl (by kernel_rfl) Try.func6 (by kernel_rfl)
    (of_decide_eq_true (by kernel_rfl)) (by unfold Func.isWrapper; first | (rw [if_pos (by decide +kernel)]; kernel_rfl) | (rw [if_neg (by decide +kernel)]; exact ⟨rfl, rfl⟩))
    (fun os started H enc _ => rests_lifted os started H enc)
end Go.Proofs.Ytapkadmpfoeljaa
