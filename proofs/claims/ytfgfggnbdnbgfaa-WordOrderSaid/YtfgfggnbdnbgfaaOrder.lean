/- The statement WordOrder, walked: for every three words it returns true, and leaves all older memory as it was. -/
import Derived.Test.YtfgfggnbdnbgfaaRing
import Derived.Test.YtfgfggnbdnbgfaaSeq
import Derived.Test.YtfgfggnbdnbgfaaMk
import Derived.Deep.DeepCutAuto
namespace Go.Proofs.Ytfgfggnbdnbgfaa
open Go.ChangeShapes Go.WideShapes Go.ChangeAt Go.RowKit SmWord
set_option maxRecDepth 100000

set_option maxHeartbeats 4000000 in
theorem order_walk (a b c : Nat) (x y t z : Int) (w : World) (hx : x = -1 ∨ x = 0 ∨ x = 1) (ht : t = -1 ∨ t = 0 ∨ t = 1) (_hz0 : -1 ≤ z) (_hz1 : z ≤ 1) (hy : Hid (y = -x))
    (h1 : x ≤ 0 → t ≤ 0 → z ≤ 0) (h2 : 0 ≤ x → 0 ≤ t → 0 ≤ z)
    (H1 : Hid (∀ w : World, Calls Try.prog 34 #[wd a, wd b] w fun e w' => e = .returned (.int .i64 x) ∧ Below w.heap.size w w'))
    (H2 : Hid (∀ w : World, Calls Try.prog 34 #[wd b, wd c] w fun e w' => e = .returned (.int .i64 t) ∧ Below w.heap.size w w'))
    (H3 : Hid (∀ w : World, Calls Try.prog 34 #[wd a, wd c] w fun e w' => e = .returned (.int .i64 z) ∧ Below w.heap.size w w'))
    (H4 : Hid (∀ w : World, Calls Try.prog 34 #[wd b, wd a] w fun e w' => e = .returned (.int .i64 y) ∧ Below w.heap.size w w'))
    (HE : ∀ w : World, (Op.equalIn 10000 24 (.agg (wa a)) (.agg (wa b))).run Try.prog w = .ok (decide (x = 0)) w)
    (p : Bool) (E1 : Hid (∀ w : World, (Op.equalIn 10000 24 (.agg (wa (a + 1))) (.agg #[.int .u64 0, .int .u64 0, .int .u64 0, .int .u64 0])).run Try.prog w = .ok p w))
    (E2 : Hid (∀ w : World, (Op.equalIn 10000 24 (.agg (wa a)) (.agg (wa kNot))).run Try.prog w = .ok p w))
    (H5 : Hid (p = false → ∀ w : World, Calls Try.prog 34 #[wd a, wd (a + 1)] w fun e w' => e = .returned (.int .i64 (-1)) ∧ Below w.heap.size w w')) :
    Calls Try.prog 10 #[wd a, wd b, wd c] w fun e w' => e = .returned (.bool true) ∧ Below w.heap.size w w' := by
  go_enter Try.func10, Try.ntmps10
  go_wp2_with fail
  have f1 : (((w.alloc (.cells (wa a) 24)).alloc (.cells (wa b) 24)).alloc (.cells (wa c) 24)).heap[w.heap.size]? = some (.cells (wa a) 24) :=
    Below.stays ((Below.refl _ _).alloc (Nat.le_refl _) _) (Below.stays ((Below.refl _ _).alloc (Nat.le_refl _) _) (heap_alloc_new _ _))
  have f2 : (((w.alloc (.cells (wa a) 24)).alloc (.cells (wa b) 24)).alloc (.cells (wa c) 24)).heap[w.heap.size + 1]? = some (.cells (wa b) 24) :=
    Below.stays ((Below.refl _ _).alloc (Nat.le_refl _) _) (heap_alloc2_new _ _ _)
  have f3 : (((w.alloc (.cells (wa a) 24)).alloc (.cells (wa b) 24)).alloc (.cells (wa c) 24)).heap[w.heap.size + 1 + 1]? = some (.cells (wa c) 24) := by
    have := heap_alloc_new ((w.alloc (.cells (wa a) 24)).alloc (.cells (wa b) 24)) (.cells (wa c) 24)
    simpa using this
  have bW : Below w.heap.size w (((w.alloc (.cells (wa a) 24)).alloc (.cells (wa b) 24)).alloc (.cells (wa c) 24)) :=
    (((Below.refl _ _).alloc (Nat.le_refl _) _).alloc (by simp) _).alloc (by simp; omega) _
  generalize ((w.alloc (.cells (wa a) 24)).alloc (.cells (wa b) 24)).alloc (.cells (wa c) 24) = W at *
  have g1 := fun g : Ext W => g.word f1
  have g2 := fun g : Ext W => g.word f2
  have g3 := fun g : Ext W => g.word f3
  have fo := fold_wa
  have eg := Try.guardW
  refine region_ext (by kernel_rfl) (by kernel_rfl) ?_
  repeat (go_big_quiet_step (first | (go_at_call 34; first | with_reducible exact calls_ext (H1.out _) | with_reducible exact calls_ext (H2.out _) | with_reducible exact calls_ext (H3.out _))))
  refine wpQuiet_nil ?_
  rintro _ ⟨g, rfl⟩
  have f1 := g.block f1
  have f2 := g.block f2
  have f3 := g.block f3
  have bW := bW.trans (g.below.mono bW.size)
  clear g1 g2 g3
  generalize g.on = W at *
  go_upto_region 2 with fail
  go_cut [57] (fun s57 wx => s57 = .bool false ∧ Below W.heap.size W wx)
  case first =>
    have g1 := fun g : Ext W => g.word f1
    have g2 := fun g : Ext W => g.word f2
    have g3 := fun g : Ext W => g.word f3
    rcases hx with rfl | rfl | rfl <;> rcases ht with rfl | rfl | rfl
    all_goals
      obtain rfl := hy.out
      simp at HE
      try (have d1 : decide (0 < z) = false := decide_eq_false (Int.not_lt.2 (h1 (by decide) (by decide))))
      try (have d2 : decide (z < 0) = false := decide_eq_false (Int.not_lt.2 (h2 (by decide) (by decide))))
      clear h1 h2
      refine region_seq ?_
      repeat (go_big_quiet_step ((go_at_call 34; with_reducible exact calls_ext (H4.out _))))
      refine wpQuiet_nil ?_
      rintro _ ⟨g, rfl⟩
      go_wp2_with fail
      go_meet
      exact ⟨rfl, g.below⟩
  case rest =>
    obtain ⟨rfl, bC⟩ := hcut
    have f1 := Below.stays bC f1
    have f2 := Below.stays bC f2
    have f3 := Below.stays bC f3
    have bW := bW.trans (bC.mono bW.size)
    clear hx ht _hz0 _hz1 hy h1 h2 H1 H2 H3 H4 HE
    go_wp2_with fail
    generalize wc = W at *
    refine region_mk1 (aQ := ?aQ) 3 ⟨3, 4, 24, 10, 60, #[.int .u64 0, .int .u64 0, .int .u64 0, .int .u64 0], wa (a + 1)⟩ (by kernel_rfl) (by kernel_rfl) (fun w1 => ?hq) ?hok ?hh
    case hq =>
      have g1 := fun g : Ext w1.on => g.word (w1.block (show W.drew.heap[w.heap.size]? = some (.cells (wa a) 24) from f1))
      simp only [List.take_succ_cons, List.take_zero]
      repeat (go_big_quiet_step (first | (go_at_call 33; exact calls_ext (of_wd 1 _ (by decide))) | (go_at_call 13; with_reducible exact calls_ext (add_wd a 1 _))))
      refine wpQuiet_nil ?_
      rfl
    case hok => exact ⟨Try.zeroValue24, Try.infoW, rfl, by simp [wa, Value.oneCell'], by simp, rfl⟩
    case hh =>
      intro b10 w' hb hb10 f4
      simp only [Act.put, List.setIfInBounds_toArray, List.set_cons_succ, List.set_cons_zero]
      have f1 := Below.stays hb f1
      have bW := bW.trans (hb.mono bW.size)
      go_wp2_with fail
      generalize w' = W at *
      have g1 := fun g : Ext W => g.word f1
      have g4 := fun g : Ext W => g.word f4
      have E1 := E1.out
      have E2 := E2.out
      have H5 : Hid _ := Lib.hid H5.out
      cases p
      · refine region_ext (by kernel_rfl) (by kernel_rfl) ?_
        repeat (go_big_quiet_step (first | (go_at_call 12; exact calls_ext (fixed_walk _)) | (go_at_call 24; exact calls_ext (fx_not _)) | (go_at_call 34; with_reducible exact calls_ext (H5.out rfl _))))
        refine wpQuiet_nil ?_
        rintro _ ⟨g, rfl⟩
        go_wp2
        go_ret
        exact ⟨rfl, bW.trans (g.below.mono bW.size)⟩
      · refine region_ext (by kernel_rfl) (by kernel_rfl) ?_
        repeat (go_big_quiet_step (first | (go_at_call 12; exact calls_ext (fixed_walk _)) | (go_at_call 24; exact calls_ext (fx_not _))))
        refine wpQuiet_nil ?_
        rintro _ ⟨g, rfl⟩
        go_wp2
        go_ret
        exact ⟨rfl, bW.trans (g.below.mono bW.size)⟩

theorem cmpN_bounds (m n : Nat) : cmpN m n = -1 ∨ cmpN m n = 0 ∨ cmpN m n = 1 := by
  unfold cmpN; split
  · exact .inl rfl
  · split
    · exact .inr (.inr rfl)
    · exact .inr (.inl rfl)
theorem order_full (a b c : Nat) (w : World) :
    Calls Try.prog 10 #[wd a, wd b, wd c] w fun e w' => e = .returned (.bool true) ∧ Below w.heap.size w w' := by
  have hz := cmpN_bounds (a % M) (c % M)
  have e0 : ∀ m n : Nat, (cmpN m n ≤ 0 ↔ m ≤ n) ∧ (0 ≤ cmpN m n ↔ n ≤ m) ∧ (cmpN m n = 0 ↔ m = n) ∧ cmpN n m = - cmpN m n := fun m n => by
    unfold cmpN; (repeat' split) <;> omega
  obtain ⟨ab1, ab2, ab3, ab4⟩ := e0 (a % M) (b % M)
  obtain ⟨bc1, bc2, _, _⟩ := e0 (b % M) (c % M)
  obtain ⟨ac1, ac2, _, _⟩ := e0 (a % M) (c % M)
  have hM : (0 : Nat) < M := by decide
  have hp : decide ((a + 1) % M = 0 % M) = decide (a % M = kNot % M) := by
    have hk : kNot % M = M - 1 := by decide
    rw [hk, decide_eq_decide, Nat.zero_mod, Nat.add_mod, show 1 % M = 1 by decide]
    have hlt := Nat.mod_lt a hM
    by_cases h : a % M = M - 1
    · rw [h, show M - 1 + 1 = M by omega, Nat.mod_self]; simp
    · rw [Nat.mod_eq_of_lt (by omega)]; constructor <;> intro h' <;> omega
  refine order_walk a b c (cmpN (a % M) (b % M)) (cmpN (b % M) (a % M)) (cmpN (b % M) (c % M)) (cmpN (a % M) (c % M)) w (cmpN_bounds _ _) (cmpN_bounds _ _) (by omega) (by omega) ab4 (fun h1 h2 => ac1.2 (Nat.le_trans (ab1.1 h1) (bc1.1 h2))) (fun h1 h2 => ac2.2 (Nat.le_trans (bc2.1 h2) (ab2.1 h1)))
    (fun w => compare_wd a b w) (fun w => compare_wd b c w) (fun w => compare_wd a c w) (fun w => compare_wd b a w) (fun w => by rw [equal_wa, decide_eq_decide.2 ab3.symm])
    (decide ((a + 1) % M = 0 % M)) (fun w => equal_wa (a + 1) 0 w) (fun w => by rw [equal_wa, hp]) (fun hf w => ?_)
  have hne : (a + 1) % M ≠ 0 := by simpa using of_decide_eq_false hf
  have hlt := Nat.mod_lt a hM
  have hs : (a + 1) % M = a % M + 1 := by
    rw [Nat.add_mod, show 1 % M = 1 by decide] at hne ⊢
    by_cases h : a % M = M - 1
    · rw [h, show M - 1 + 1 = M by omega, Nat.mod_self] at hne; exact absurd rfl hne
    · exact Nat.mod_eq_of_lt (by omega)
  have := compare_wd a (a + 1) w
  rw [hs, show cmpN (a % M) (a % M + 1) = -1 by unfold cmpN; rw [if_pos (by omega)]] at this
  exact this

set_option maxRecDepth 100000 in
theorem order_lifted (os : Os) (started : os.Started) (H : Type) (enc : TypeId × Value → H) :
    ReturnsInHanded {} Try.checked os 10 .any (Rows.wordOrderSpec.pre6 enc Try.prog Try.f10 Rows.wordOrderRow.domain false) (Rows.wordOrderSpec.post enc Try.prog Try.f10 false true false false) := by
  refine returnsInHanded_of_change (C := Try.checked) Try.own started (by kernel_rfl) Try.func10
    (ChangeSpec.witness6 (enc := enc) (C := Try.checked) false ⟨#[], #[w0000, w0000, w0000], []⟩ 8 (by kernel_rfl) (by kernel_rfl) (by kernel_rfl) (by kernel_rfl)) ?_
  intro W base args ds gs before hval0 hW hcnd _
  have hval : ∀ (j : Nat) t v, Try.f10.params[j]? = some t → args[j]? = some v → Value.okWide Try.prog W .any base t v := hval0
  have hW' := hW
  obtain ⟨p, q, hA0, hV, rfl, hfz, hnd⟩ := hW
  have hA : DataW.TrodAll enc Try.prog W 0 (fun _ => true) true Try.f10.params.toList args.toList ds p := hA0
  rw [Try.params10] at hA hval
  obtain ⟨v0, v1, v2, d0, d1, d2, p0, p1, p2, rfl, rfl, rfl, h0, h1, h2⟩ := trodAll_three hA
  obtain ⟨rfl, rfl⟩ := trodVars_none hV
  obtain ⟨a, rfl, rfl, rfl⟩ := open_word (hval 0 24 v0 rfl rfl) h0
  obtain ⟨b, rfl, rfl, rfl⟩ := open_word (hval 1 24 v1 rfl rfl) h1
  obtain ⟨c, rfl, rfl, rfl⟩ := open_word (hval 2 24 v2 rfl rfl) h2
  clear hA0 hval0
  simp only [List.append_nil] at hW'
  refine (order_full a b c W).mono fun e W' ⟨he, bel⟩ => ?_
  subst he
  exact ⟨_, rfl, _, _, _, [], _, [], hW', trodAll_mk1 (shut_bool Try.underlying4 _), trodAll_mk3 (shut_word a _ _) (shut_word b _ _) (shut_word c _ _), rfl, bel.frame _, fun h => by cases h⟩

theorem order_holds : Rows.WordOrderSaid :=
  OpenClaim.holds_of_wide 10 Try.f10 rfl rfl rfl rfl rfl rfl rfl ⟨rfl, rfl, rfl, rfl, rfl⟩ rfl rfl rfl rfl rfl (by kernel_rfl) Try.func10 (by kernel_rfl)
    (of_decide_eq_true (by kernel_rfl)) (by unfold Func.isWrapper; first | (rw [if_pos (by decide +kernel)]; kernel_rfl) | (rw [if_neg (by decide +kernel)]; exact ⟨rfl, rfl⟩))
    (fun os started H enc _ => order_lifted os started H enc)
end Go.Proofs.Ytfgfggnbdnbgfaa
