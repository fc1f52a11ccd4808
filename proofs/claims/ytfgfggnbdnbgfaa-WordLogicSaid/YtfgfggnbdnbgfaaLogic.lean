/- The statement WordLogic: for every input it returns true, and leaves all older memory as it was. -/
import Derived.Test.YtfgfggnbdnbgfaaRing
import Derived.Test.YtfgfggnbdnbgfaaRefW
import Derived.Test.YtfgfggnbdnbgfaaLogicR
import Derived.Test.YtfgfggnbdnbgfaaMk
namespace Go.Proofs.Ytfgfggnbdnbgfaa
open Go.ChangeShapes Go.WideShapes Go.ChangeAt Go.RowKit SmWord
set_option maxRecDepth 100000

theorem bitN_toNat (x i : Nat) : bitN x i = (x.testBit i).toNat := (Nat.toNat_testBit x i).symm
theorem l_mod (m : Nat) : l0 (m % M) = l0 m ∧ l1 (m % M) = l1 m ∧ l2 (m % M) = l2 m ∧ l3 (m % M) = l3 m := parts_congr (Nat.mod_mod m M)
theorem and_parts (x y : Nat) : l0 (x &&& y) = l0 x &&& l0 y ∧ l1 (x &&& y) = l1 x &&& l1 y ∧ l2 (x &&& y) = l2 x &&& l2 y ∧ l3 (x &&& y) = l3 x &&& l3 y := by
  have hB : B = 2 ^ 64 := rfl
  unfold l0 l1 l2 l3
  simp only [hB, Nat.and_div_two_pow, Nat.and_mod_two_pow]
  exact ⟨trivial, trivial, trivial, trivial⟩
theorem or_parts (x y : Nat) : l0 (x ||| y) = l0 x ||| l0 y ∧ l1 (x ||| y) = l1 x ||| l1 y ∧ l2 (x ||| y) = l2 x ||| l2 y ∧ l3 (x ||| y) = l3 x ||| l3 y := by
  have hB : B = 2 ^ 64 := rfl
  unfold l0 l1 l2 l3
  simp only [hB, Nat.or_div_two_pow, Nat.or_mod_two_pow]
  exact ⟨trivial, trivial, trivial, trivial⟩
theorem xor_parts (x y : Nat) : l0 (x ^^^ y) = l0 x ^^^ l0 y ∧ l1 (x ^^^ y) = l1 x ^^^ l1 y ∧ l2 (x ^^^ y) = l2 x ^^^ l2 y ∧ l3 (x ^^^ y) = l3 x ^^^ l3 y := by
  have hB : B = 2 ^ 64 := rfl
  unfold l0 l1 l2 l3
  simp only [hB, Nat.xor_div_two_pow, Nat.xor_mod_two_pow]
  exact ⟨trivial, trivial, trivial, trivial⟩
theorem and_num (m n : Nat) : num (l0 m &&& l0 n) (l1 m &&& l1 n) (l2 m &&& l2 n) (l3 m &&& l3 n) % M = (m % M &&& n % M) % M := by
  obtain ⟨h0, h1, h2, h3⟩ := and_parts (m % M) (n % M)
  obtain ⟨m0, m1, m2, m3⟩ := l_mod m
  obtain ⟨n0, n1, n2, n3⟩ := l_mod n
  rw [← num_parts (m % M &&& n % M), h0, h1, h2, h3, m0, m1, m2, m3, n0, n1, n2, n3]
  exact Nat.mod_eq_of_lt (num_lt (Nat.and_lt_two_pow _ (n := 64) (l_lt n).1) (Nat.and_lt_two_pow _ (n := 64) (l_lt n).2.1) (Nat.and_lt_two_pow _ (n := 64) (l_lt n).2.2.1) (Nat.and_lt_two_pow _ (n := 64) (l_lt n).2.2.2))
theorem or_num (m n : Nat) : num (l0 m ||| l0 n) (l1 m ||| l1 n) (l2 m ||| l2 n) (l3 m ||| l3 n) % M = (m % M ||| n % M) % M := by
  obtain ⟨h0, h1, h2, h3⟩ := or_parts (m % M) (n % M)
  obtain ⟨m0, m1, m2, m3⟩ := l_mod m
  obtain ⟨n0, n1, n2, n3⟩ := l_mod n
  rw [← num_parts (m % M ||| n % M), h0, h1, h2, h3, m0, m1, m2, m3, n0, n1, n2, n3]
  exact Nat.mod_eq_of_lt (num_lt (Nat.or_lt_two_pow (n := 64) (l_lt m).1 (l_lt n).1) (Nat.or_lt_two_pow (n := 64) (l_lt m).2.1 (l_lt n).2.1) (Nat.or_lt_two_pow (n := 64) (l_lt m).2.2.1 (l_lt n).2.2.1) (Nat.or_lt_two_pow (n := 64) (l_lt m).2.2.2 (l_lt n).2.2.2))
theorem xor_num (m n : Nat) : num (l0 m ^^^ l0 n) (l1 m ^^^ l1 n) (l2 m ^^^ l2 n) (l3 m ^^^ l3 n) % M = (m % M ^^^ n % M) % M := by
  obtain ⟨h0, h1, h2, h3⟩ := xor_parts (m % M) (n % M)
  obtain ⟨m0, m1, m2, m3⟩ := l_mod m
  obtain ⟨n0, n1, n2, n3⟩ := l_mod n
  rw [← num_parts (m % M ^^^ n % M), h0, h1, h2, h3, m0, m1, m2, m3, n0, n1, n2, n3]
  exact Nat.mod_eq_of_lt (num_lt (Nat.xor_lt_two_pow (n := 64) (l_lt m).1 (l_lt n).1) (Nat.xor_lt_two_pow (n := 64) (l_lt m).2.1 (l_lt n).2.1) (Nat.xor_lt_two_pow (n := 64) (l_lt m).2.2.1 (l_lt n).2.2.1) (Nat.xor_lt_two_pow (n := 64) (l_lt m).2.2.2 (l_lt n).2.2.2))
theorem and_bits (m n : Nat) : ∀ i : Nat, i < 256 → bitN (m % M &&& n % M) i = if bitN m i + bitN n i = 2 then 1 else 0 := fun i hi => by
  rw [← bit_congr (Nat.mod_mod m M) hi, ← bit_congr (Nat.mod_mod n M) hi, bitN_toNat, bitN_toNat, bitN_toNat, Nat.testBit_and]
  cases (m % M).testBit i <;> cases (n % M).testBit i <;> rfl
theorem or_bits (m n : Nat) : ∀ i : Nat, i < 256 → bitN (m % M ||| n % M) i = if 0 < bitN m i + bitN n i then 1 else 0 := fun i hi => by
  rw [← bit_congr (Nat.mod_mod m M) hi, ← bit_congr (Nat.mod_mod n M) hi, bitN_toNat, bitN_toNat, bitN_toNat, Nat.testBit_or]
  cases (m % M).testBit i <;> cases (n % M).testBit i <;> rfl
theorem xor_bits (m n : Nat) : ∀ i : Nat, i < 256 → bitN (m % M ^^^ n % M) i = if bitN m i + bitN n i = 1 then 1 else 0 := fun i hi => by
  rw [← bit_congr (Nat.mod_mod m M) hi, ← bit_congr (Nat.mod_mod n M) hi, bitN_toNat, bitN_toNat, bitN_toNat, Nat.testBit_xor]
  cases (m % M).testBit i <;> cases (n % M).testBit i <;> rfl
theorem not_bits (m : Nat) : ∀ i : Nat, i < 256 → bitN (M - 1 - m % M) i = if bitN m i + bitN kAll i = 1 then 1 else 0 := fun i hi => by
  have hlt : m % M < 2 ^ 256 := by rw [← M_2]; exact Nat.mod_lt _ (by decide)
  have h1 : (M - 1 - m % M).testBit i = (decide (i < 256) && !(m % M).testBit i) := by
    rw [← Nat.testBit_two_pow_sub_succ hlt i, ← M_2]; congr 1; omega
  have h2 : kAll.testBit i = decide (i < 256) := by
    have := Nat.testBit_two_pow_sub_one 256 i
    rw [← M_2] at this
    exact this
  rw [← bit_congr (Nat.mod_mod m M) hi, bitN_toNat, bitN_toNat, bitN_toNat, h1, h2]
  simp only [hi, decide_true, Bool.true_and]
  cases (m % M).testBit i <;> rfl
theorem of_ones (w : World) : Calls Try.prog 11 #[.agg #[.int .u64 18446744073709551615, .int .u64 18446744073709551615, .int .u64 18446744073709551615, .int .u64 18446744073709551615]] w fun e w' => e = .returned (.agg (da kAll)) ∧ Below w.heap.size w w' := of_ref kAll w

set_option maxHeartbeats 4000000 in
theorem logic_walk (a b k t0 t1 t2 t3 u0 u1 u2 u3 : Nat) (w : World)
    (HO : Hid (∀ w : World, Calls Try.prog 11 #[.agg #[.int .u64 18446744073709551615, .int .u64 18446744073709551615, .int .u64 18446744073709551615, .int .u64 18446744073709551615]] w fun e w' => e = .returned (.agg (da k)) ∧ Below w.heap.size w w'))
    (H0 : Hid (∀ w : World, Calls Try.prog 20 #[wd a, wd b] w fun e w' => e = .returned (wd u0) ∧ Below w.heap.size w w')) (H1 : Hid (∀ w : World, Calls Try.prog 22 #[wd a, wd b] w fun e w' => e = .returned (wd u1) ∧ Below w.heap.size w w')) (H2 : Hid (∀ w : World, Calls Try.prog 23 #[wd a, wd b] w fun e w' => e = .returned (wd u2) ∧ Below w.heap.size w w')) (H3 : Hid (∀ w : World, Calls Try.prog 24 #[wd a] w fun e w' => e = .returned (wd u3) ∧ Below w.heap.size w w'))
    (L0 : Hid (∀ w : World, Calls Try.prog 21 #[.agg (da a), .agg (da b), .int .i64 0] w fun e w' => e = .returned (.agg (da t0)) ∧ Below w.heap.size w w')) (L1 : Hid (∀ w : World, Calls Try.prog 21 #[.agg (da a), .agg (da b), .int .i64 1] w fun e w' => e = .returned (.agg (da t1)) ∧ Below w.heap.size w w')) (L2 : Hid (∀ w : World, Calls Try.prog 21 #[.agg (da a), .agg (da b), .int .i64 2] w fun e w' => e = .returned (.agg (da t2)) ∧ Below w.heap.size w w')) (L3 : Hid (∀ w : World, Calls Try.prog 21 #[.agg (da a), .agg (da k), .int .i64 2] w fun e w' => e = .returned (.agg (da t3)) ∧ Below w.heap.size w w'))
    (e0 : Hid (u0 % M = t0 % M)) (e1 : Hid (u1 % M = t1 % M)) (e2 : Hid (u2 % M = t2 % M)) (e3 : Hid (u3 % M = t3 % M)) :
    Calls Try.prog 6 #[wd a, wd b] w fun e w' => e = .returned (.bool true) ∧ Below w.heap.size w w' := by
  go_enter Try.func6, Try.ntmps6
  go_wp2_with fail
  have f1 : ((w.alloc (.cells (wa a) 24)).alloc (.cells (wa b) 24)).heap[w.heap.size]? = some (.cells (wa a) 24) := blk_alloc (heap_alloc_new _ _)
  have f2 : ((w.alloc (.cells (wa a) 24)).alloc (.cells (wa b) 24)).heap[w.heap.size + 1]? = some (.cells (wa b) 24) := heap_alloc2_new _ _ _
  have bW : Below w.heap.size w ((w.alloc (.cells (wa a) 24)).alloc (.cells (wa b) 24)) := ((Below.refl _ _).alloc (Nat.le_refl _) _).alloc (by simp) _
  generalize (w.alloc (.cells (wa a) 24)).alloc (.cells (wa b) 24) = W at *
  have fo := fold_wa
  have eg := Try.guardW
  refine region_mk2 (aQ := ?aQ) 4 ⟨4, 6, 26, 5, 9, zD, da a⟩ ⟨5, 7, 26, 6, 11, zD, da b⟩ (by kernel_rfl) (by kernel_rfl) (by dsimp only; decide) (fun w1 => ?hq) ?hok1 ?hok2 ?hh
  case hq =>
    have g1 := fun g : Ext w1.on => g.word (w1.block (show W.drew.heap[w.heap.size]? = some (.cells (wa a) 24) from f1))
    have g2 := fun g : Ext w1.on => g.word (w1.block (show W.drew.heap[w.heap.size + 1]? = some (.cells (wa b) 24) from f2))
    simp only [List.take_succ_cons, List.take_zero]
    repeat (go_big_quiet_step (first | (go_at_call 11; with_reducible exact calls_ext (of_ref _ _))))
    refine wpQuiet_nil ?_
    rfl
  case hok1 => exact ⟨zD_run, infoArr _, rfl, arr_one _ _ _, by simp, rfl⟩
  case hok2 => exact ⟨zD_run, infoArr _, rfl, arr_one _ _ _, by simp, rfl⟩
  case hh =>
    intro b5 b6 w' hb _ _ _ f5 f6
    simp only [Act.put, List.setIfInBounds_toArray, List.set_cons_succ, List.set_cons_zero]
    have f1 := Below.stays hb f1
    have f2 := Below.stays hb f2
    have bW := bW.trans (hb.mono bW.size)
    clear hb
    go_wp2_with fail
    refine (HO.out _).mono ?_
    rintro e w1 ⟨rfl, b1⟩
    have f1 := Below.stays b1 f1
    have f2 := Below.stays b1 f2
    have f5 := Below.stays b1 f5
    have f6 := Below.stays b1 f6
    have bW := bW.trans (b1.mono bW.size)
    clear b1
    go_wp2_with (first | (refine wpList_alloc_row rfl 26 rfl zD zD_run ?_) | (refine wpList_store_row rfl 26 _ _ rfl _ zD (da k) rfl rfl (heap_alloc_new _ _) (infoArr _) rfl (arr_one _ _ _) ?_))
    have ne : ∀ {b : Nat} {o : Obj}, w1.heap[b]? = some o → b ≠ w1.heap.size := fun h e => by have := (Array.getElem?_eq_some_iff.1 h).1; omega
    have f7 : ((w1.alloc (.cells zD 26)).setRow w1.heap.size (da k)).heap[w1.heap.size]? = some (.cells (da k) 26) := blk_row (heap_alloc_new _ _)
    have f1 : ((w1.alloc (.cells zD 26)).setRow w1.heap.size (da k)).heap[w.heap.size]? = some (.cells (wa a) 24) := blk_row_other (blk_alloc f1) (ne f1)
    have f2 : ((w1.alloc (.cells zD 26)).setRow w1.heap.size (da k)).heap[w.heap.size + 1]? = some (.cells (wa b) 24) := blk_row_other (blk_alloc f2) (ne f2)
    have f5 : ((w1.alloc (.cells zD 26)).setRow w1.heap.size (da k)).heap[b5]? = some (.cells (da a) 26) := blk_row_other (blk_alloc f5) (ne f5)
    have f6 : ((w1.alloc (.cells zD 26)).setRow w1.heap.size (da k)).heap[b6]? = some (.cells (da b) 26) := blk_row_other (blk_alloc f6) (ne f6)
    have bW : Below w.heap.size w ((w1.alloc (.cells zD 26)).setRow w1.heap.size (da k)) := below_setRow (bW.alloc bW.size _) bW.size _
    generalize (w1.alloc (.cells zD 26)).setRow w1.heap.size (da k) = W at *
    have g1 := fun g : Ext W => g.word f1
    have g2 := fun g : Ext W => g.word f2
    have q0 := fun w => equal_yes e0.out w
    have q1 := fun w => equal_yes e1.out w
    have q2 := fun w => equal_yes e2.out w
    have q3 := fun w => equal_yes e3.out w
    clear ne
    try simp only [Act.put, List.setIfInBounds_toArray, List.set_cons_succ, List.set_cons_zero]
    refine region_ext (by kernel_rfl) (by kernel_rfl) ?_
    repeat (first | (go_big_quiet_want; refine quiet_load_row 26 _ rfl b5 (da a) rfl (fun w2 hw2 => by obtain ⟨g, rfl⟩ := hw2; exact g.block f5) Try.underlying26 (infoArr _) ?_; simp only [Act.put, List.setIfInBounds_toArray, List.set_cons_succ, List.set_cons_zero]; go_big_quiet_on) | (go_big_quiet_want; refine quiet_load_row 26 _ rfl b6 (da b) rfl (fun w2 hw2 => by obtain ⟨g, rfl⟩ := hw2; exact g.block f6) Try.underlying26 (infoArr _) ?_; simp only [Act.put, List.setIfInBounds_toArray, List.set_cons_succ, List.set_cons_zero]; go_big_quiet_on) | (go_big_quiet_want; refine quiet_load_row 26 _ rfl w1.heap.size (da k) rfl (fun w2 hw2 => by obtain ⟨g, rfl⟩ := hw2; exact g.block f7) Try.underlying26 (infoArr _) ?_; simp only [Act.put, List.setIfInBounds_toArray, List.set_cons_succ, List.set_cons_zero]; go_big_quiet_on) | go_big_quiet_step (first | (go_at_call 12; exact calls_ext (fixed_walk _)) | (go_at_call 15; with_reducible exact calls_ext (word_ref _ _)) | (go_at_call 20; with_reducible exact calls_ext (H0.out _)) | (go_at_call 22; with_reducible exact calls_ext (H1.out _)) | (go_at_call 23; with_reducible exact calls_ext (H2.out _)) | (go_at_call 24; with_reducible exact calls_ext (H3.out _)) | (go_at_call 21; first | with_reducible exact calls_ext (L0.out _) | with_reducible exact calls_ext (L1.out _) | with_reducible exact calls_ext (L2.out _) | with_reducible exact calls_ext (L3.out _))))
    refine wpQuiet_nil ?_
    rintro _ ⟨g, rfl⟩
    go_wp2
    go_ret
    exact ⟨rfl, bW.trans (g.below.mono bW.size)⟩
theorem logic_full (a b : Nat) (w : World) : Calls Try.prog 6 #[wd a, wd b] w fun e w' => e = .returned (.bool true) ∧ Below w.heap.size w w' :=
  logic_walk a b kAll _ _ _ _ _ _ _ _ w of_ones (fun w => and_wd a b w) (fun w => or_wd a b w) (fun w => xor_wd a b w) (fun w => not_wd a w)
    (fun w => logic_ref0 a b _ w (and_bits a b)) (fun w => logic_ref1 a b _ w (or_bits a b)) (fun w => logic_ref2 a b _ w (xor_bits a b)) (fun w => logic_ref2 a kAll _ w (not_bits a)) (and_num a b) (or_num a b) (xor_num a b) rfl

set_option maxRecDepth 100000 in
theorem logic_lifted (os : Os) (started : os.Started) (H : Type) (enc : TypeId × Value → H) :
    ReturnsInHanded {} Try.checked os 6 .any (Rows.wordLogicSpec.pre6 enc Try.prog Try.f6 Rows.wordLogicRow.domain false) (Rows.wordLogicSpec.post enc Try.prog Try.f6 false true false false) := by
  refine returnsInHanded_of_change (C := Try.checked) Try.own started (by kernel_rfl) Try.func6
    (ChangeSpec.witness6 (enc := enc) (C := Try.checked) false ⟨#[], #[w0000, w0000], []⟩ 8 (by kernel_rfl) (by kernel_rfl) (by kernel_rfl) (by kernel_rfl)) ?_
  intro W base args ds gs before hval0 hW hcnd _
  have hval : ∀ (j : Nat) t v, Try.f6.params[j]? = some t → args[j]? = some v → Value.okWide Try.prog W .any base t v := hval0
  have hW' := hW
  obtain ⟨p, q, hA0, hV, rfl, hfz, hnd⟩ := hW
  have hA : DataW.TrodAll enc Try.prog W 0 (fun _ => true) true Try.f6.params.toList args.toList ds p := hA0
  rw [Try.params6] at hA hval
  obtain ⟨v0, v1, d0, d1, p0, p1, rfl, rfl, rfl, h0, h1⟩ := trodAll_two hA
  obtain ⟨rfl, rfl⟩ := trodVars_none hV
  obtain ⟨a, rfl, rfl, rfl⟩ := open_word (hval 0 24 v0 rfl rfl) h0
  obtain ⟨b, rfl, rfl, rfl⟩ := open_word (hval 1 24 v1 rfl rfl) h1
  clear hA0 hval0
  simp only [List.append_nil] at hW'
  refine (logic_full a b W).mono fun e W' ⟨he, bel⟩ => ?_
  subst he
  exact ⟨_, rfl, _, _, _, [], _, [], hW', trodAll_mk1 (shut_bool Try.underlying4 _), trodAll_mk2 (shut_word a _ _) (shut_word b _ _), rfl, bel.frame _, fun h => by cases h⟩

theorem logic_holds : Rows.WordLogicSaid :=
  OpenClaim.holds_of_wide 6 Try.f6 rfl rfl rfl rfl rfl rfl rfl ⟨rfl, rfl, rfl, rfl, rfl⟩ rfl rfl rfl rfl rfl (by kernel_rfl) Try.func6 (by kernel_rfl)
    (of_decide_eq_true (by kernel_rfl)) (by unfold Func.isWrapper; first | (rw [if_pos (by decide +kernel)]; kernel_rfl) | (rw [if_neg (by decide +kernel)]; exact ⟨rfl, rfl⟩))
    (fun os started H enc _ => logic_lifted os started H enc)
end Go.Proofs.Ytfgfggnbdnbgfaa
