/- The statement WideExponents: for every input it returns true, and leaves all older memory as it was. -/
import Derived.Test.YtapkadmpfoeljaaRexp
import Derived.Test.YtapkadmpfoeljaaNumC
import Derived.Test.YtapkadmpfoeljaaFrame
namespace Go.Proofs.Ytapkadmpfoeljaa
open Go.ChangeShapes Go.WideShapes Go.ChangeAt Go.RowKit SmWord
set_option maxRecDepth 100000
theorem equal_yes {m n : Nat} (h : m % M = n % M) (w : World) : (Op.equalIn 10000 24 (.agg (wa m)) (.agg (wa n))).run Try.prog w = .ok true w := by
  rw [equal_wa, decide_eq_true h]

set_option maxHeartbeats 2000000 in
theorem exponents_walk0 (a n m x y z : Nat) (w : World) (hN : Hid (#[Value.int .u64 (n : Int), .int .u64 0, .int .u64 0, .int .u64 0] = wa n)) (hM : Hid (#[Value.int .u64 (m : Int), .int .u64 0, .int .u64 0, .int .u64 0] = wa m)) (hz : Hid (z % M = (x * y) % M))
    (H1 : Hid (∀ w : World, Calls Try.prog 22 #[wd a, wd n] w fun e w' => e = .returned (wd x) ∧ Below w.heap.size w w')) (H2 : Hid (∀ w : World, Calls Try.prog 22 #[wd a, wd m] w fun e w' => e = .returned (wd y) ∧ Below w.heap.size w w')) (H3 : Hid (∀ w : World, Calls Try.prog 22 #[wd a, wd (n % M + m % M)] w fun e w' => e = .returned (wd z) ∧ Below w.heap.size w w')) :
    Calls Try.prog 8 #[wd a, .int .u64 (n : Int), .int .u64 (m : Int)] w fun e w' => e = .returned (.bool true) ∧ Below w.heap.size w w' := by
  have hs := store_new
  have hsz := wa_size
  have hn := hN.out
  have hm := hM.out
  go_enter Try.func8, Try.ntmps8
  go_upto_region 1 with fail
  have f3 : (w.alloc (.cells (wa a) 24)).heap[w.heap.size]? = some (.cells (wa a) 24) := blk_new _ rfl
  have bW : Below w.heap.size w (w.alloc (.cells (wa a) 24)) := ((Below.refl _ _).alloc (Nat.le_refl _) _)
  have sW : w.heap.size + 1 ≤ (w.alloc (.cells (wa a) 24)).heap.size := by simp
  generalize (w.alloc (.cells (wa a) 24)) = W at *
  go_wp2_with fail
  refine (nof_ref n _).mono ?_
  rintro e w1 ⟨v1, rfl, n1, b1⟩
  replace f3 := Below.stays b1 f3
  replace bW := bW.trans (b1.mono bW.size)
  replace sW := Nat.le_trans sW b1.size
  clear b1
  go_wp2_with fail
  refine (nof_ref m _).mono ?_
  rintro e w2 ⟨v2, rfl, n2, b1⟩
  replace n1 := n1.stays b1
  replace f3 := Below.stays b1 f3
  replace bW := bW.trans (b1.mono bW.size)
  replace sW := Nat.le_trans sW b1.size
  clear b1
  go_wp2_with fail
  refine (plus_ref v1 v2 32 32 (n % M) (m % M) _ n1 n2 ⟨by omega, by omega⟩).mono ?_
  rintro e w3 ⟨v3, rfl, n3, b1⟩
  clear n1 n2
  replace f3 := Below.stays b1 f3
  replace bW := bW.trans (b1.mono bW.size)
  replace sW := Nat.le_trans sW b1.size
  clear b1
  go_wp2_with fail
  refine (nword_ref v3 _ (n % M + m % M) _ n3).mono ?_
  rintro e w4 ⟨rfl, b1⟩
  replace f3 := Below.stays b1 f3
  replace bW := bW.trans (b1.mono bW.size)
  replace sW := Nat.le_trans sW b1.size
  clear b1
  clear n3
  go_upto_region 2 with fail
  replace f3 := blk_alloc (o' := .cells (wa (n % M + m % M)) 24) f3
  have f7 : (w4.alloc (.cells (wa (n % M + m % M)) 24)).heap[w4.heap.size]? = some (.cells (wa (n % M + m % M)) 24) := heap_alloc_new _ _
  replace bW : Below w.heap.size w (w4.alloc (.cells (wa (n % M + m % M)) 24)) := bW.alloc (by omega) _
  have sb7 : w4.heap.size + 1 ≤ (w4.alloc (.cells (wa (n % M + m % M)) 24)).heap.size := by simp
  generalize (w4.alloc (.cells (wa (n % M + m % M)) 24)) = w5 at *
  generalize w4.heap.size = b7 at *
  have lb7 := sW
  replace sW := Nat.le_trans (Nat.le_succ_of_le sW) sb7
  clear hs hsz
  refine region_mk2 (aQ := ?aQ) 10 ⟨10, 12, 43, 8, 22, zD, da x⟩ ⟨11, 13, 43, 9, 27, zD, da y⟩ (by kernel_rfl) (by kernel_rfl) (by simp) (fun w1x => ?hq) ?hok1 ?hok2 ?hh
  case hq =>
    simp only [List.take_succ_cons, List.take_zero]
    repeat (first | (go_big_quiet_want; refine quiet_load_row 24 _ rfl _ (wa a) rfl (fun w2 hw2 => by obtain ⟨g, rfl⟩ := hw2; exact g.block (w1x.block f3)) Try.underlying24 Try.infoWa ?_; simp only [Act.put, List.setIfInBounds_toArray, List.set_cons_succ, List.set_cons_zero]; go_big_quiet_on) | go_big_quiet_step (first | (go_at_call 22; first | with_reducible exact calls_ext (H1.out _) | with_reducible exact calls_ext (H2.out _)) | (go_at_call 24; with_reducible exact calls_ext (of_ref _ _))))
    refine wpQuiet_nil ?_
    rfl
  case hok1 => exact ⟨zD_run, infoArr _, rfl, arr_one _ _ _, by simp, rfl⟩
  case hok2 => exact ⟨zD_run, infoArr _, rfl, arr_one _ _ _, by simp, rfl⟩
  case hh =>
    intro b8 b9 w6 b1 _ _ _ f8 f9
    simp only [Act.put, List.setIfInBounds_toArray, List.set_cons_succ, List.set_cons_zero]
    replace f3 := Below.stays b1 f3
    replace f7 := Below.stays b1 f7
    replace bW := bW.trans (b1.mono bW.size)
    clear b1 hn hm
    go_wp2_with fail
    have g3 := fun g : Ext w6 => g.word f3
    have g7 := fun g : Ext w6 => g.word f7
    have fo := fold_wa
    have eg := Try.guardW
    have e1 := fun w => equal_yes hz.out w
    refine region_ext (by kernel_rfl) (by kernel_rfl) ?_
    repeat (first | (go_big_quiet_want; refine quiet_load_row 43 (.tmp 8) rfl _ (da x) rfl (fun w2 hw2 => by obtain ⟨g, rfl⟩ := hw2; exact g.block f8) Try.underlying43 (infoArr _) ?_; simp only [Act.put, List.setIfInBounds_toArray, List.set_cons_succ, List.set_cons_zero]; go_big_quiet_on) | (go_big_quiet_want; refine quiet_load_row 43 (.tmp 9) rfl _ (da y) rfl (fun w2 hw2 => by obtain ⟨g, rfl⟩ := hw2; exact g.block f9) Try.underlying43 (infoArr _) ?_; simp only [Act.put, List.setIfInBounds_toArray, List.set_cons_succ, List.set_cons_zero]; go_big_quiet_on) | go_big_quiet_step (first | (go_at_call 12; exact calls_ext (fixed2_walk _)) | (go_at_call 22; with_reducible exact calls_ext (H3.out _)) | (go_at_call 25; with_reducible exact calls_ext (mul_ref _ _ _)) | (go_at_call 26; with_reducible exact calls_ext (word_ref _ _))))
    refine wpQuiet_nil ?_
    rintro _ ⟨g, rfl⟩
    go_wp2
    go_ret
    exact ⟨rfl, bW.trans (g.below.mono bW.size)⟩
theorem small_wa {n : Nat} (h : n < B) : #[Value.int .u64 (n : Int), .int .u64 0, .int .u64 0, .int .u64 0] = wa n := by
  have := wd_num (a := n) (b := 0) (c := 0) (d := 0) h (by decide) (by decide) (by decide)
  rw [show num n 0 0 0 = n by simp [num]] at this
  exact (Value.agg.inj this).symm
theorem exponents_walk (a n m : Nat) (hn : n < B) (hm : m < B) (w : World) : Calls Try.prog 8 #[wd a, .int .u64 (n : Int), .int .u64 (m : Int)] w fun e w' => e = .returned (.bool true) ∧ Below w.heap.size w w' := by
  have hM : B < M := by decide
  have e1 : n % M = n := Nat.mod_eq_of_lt (by omega)
  have e2 : m % M = m := Nat.mod_eq_of_lt (by omega)
  have h2 : B + B < M := by decide
  have e3 : (n % M + m % M) % M = n + m := by rw [e1, e2, Nat.mod_eq_of_lt (by omega)]
  refine exponents_walk0 a n m (a ^ n) (a ^ m) (a ^ (n + m)) w (Lib.hid (small_wa hn)) (Lib.hid (small_wa hm)) (Lib.hid (by rw [Nat.pow_add])) (Lib.hid fun w => ?_) (Lib.hid fun w => ?_) (Lib.hid fun w => ?_)
  · have := exp_wd a n w; rw [e1] at this; exact this
  · have := exp_wd a m w; rw [e2] at this; exact this
  · have := exp_wd a (n % M + m % M) w; rw [e3] at this; exact this

set_option maxRecDepth 100000 in
theorem exponents_lifted (os : Os) (started : os.Started) (H : Type) (enc : TypeId × Value → H) :
    ReturnsInHanded {} Try.checked os 8 .any (Rows.wideExponentsSpec.pre6 enc Try.prog Try.f8 Rows.wideExponentsRow.domain false) (Rows.wideExponentsSpec.post enc Try.prog Try.f8 false true false false) := by
  refine returnsInHanded_of_change (C := Try.checked) Try.own started (by kernel_rfl) Try.func8
    (ChangeSpec.witness6 (enc := enc) (C := Try.checked) false ⟨#[], #[w0000, .int .u64 0, .int .u64 0], []⟩ 8 (by kernel_rfl) (by kernel_rfl) (by kernel_rfl) (by kernel_rfl)) ?_
  intro W base args ds gs before hval0 hW hcnd _
  have hval : ∀ (j : Nat) t v, Try.f8.params[j]? = some t → args[j]? = some v → Value.okWide Try.prog W .any base t v := hval0
  have hW' := hW
  obtain ⟨p, q, hA0, hV, rfl, hfz, hnd⟩ := hW
  have hA : DataW.TrodAll enc Try.prog W 0 (fun _ => true) true Try.f8.params.toList args.toList ds p := hA0
  rw [Try.params8] at hA hval
  obtain ⟨v0, v1, v2, d0, d1, d2, p0, p1, p2, rfl, rfl, rfl, h0, h1, h2⟩ := trodAll_three hA
  obtain ⟨rfl, rfl⟩ := trodVars_none hV
  obtain ⟨a, rfl, rfl, rfl⟩ := open_word (hval 0 24 v0 rfl rfl) h0
  obtain ⟨zn, rfl, rfl, rfl, wn⟩ := open_int Try.underlying22 (hval 1 22 v1 rfl rfl) h1
  obtain ⟨n, rfl, ln⟩ := wf_u64 wn
  obtain ⟨zm, rfl, rfl, rfl, wm⟩ := open_int Try.underlying22 (hval 2 22 v2 rfl rfl) h2
  obtain ⟨m, rfl, lm⟩ := wf_u64 wm
  clear hA0 hval0
  simp only [List.append_nil] at hW'
  refine (exponents_walk a n m ln lm W).mono fun e W' ⟨he, bel⟩ => ?_
  subst he
  exact ⟨_, rfl, _, _, _, [], _, [], hW', trodAll_mk1 (shut_bool Try.underlying4 _), trodAll_mk3 (shut_word a _ _) (shut_int Try.underlying22 wn) (shut_int Try.underlying22 wm), rfl, bel.frame _, fun h => by cases h⟩

theorem exponents_holds : Rows.WideExponentsSaid :=
  OpenClaim.holds_of_wide 8 Try.f8 rfl rfl rfl rfl rfl rfl rfl ⟨rfl, rfl, rfl, rfl, rfl⟩ rfl rfl rfl rfl rfl (by kernel_rfl) Try.func8 (by kernel_rfl)
    (of_decide_eq_true (by kernel_rfl)) (by unfold Func.isWrapper; first | (rw [if_pos (by decide +kernel)]; kernel_rfl) | (rw [if_neg (by decide +kernel)]; exact ⟨rfl, rfl⟩))
    (fun os started H enc _ => exponents_lifted os started H enc)
end Go.Proofs.Ytapkadmpfoeljaa
