/- The statement WordShifts: for every input it returns true, and leaves all older memory as it was. -/
import Derived.Test.YtfgfggnbdnbgfaaRing
import Derived.Test.YtfgfggnbdnbgfaaRefW
import Derived.Test.YtfgfggnbdnbgfaaShiftR
namespace Go.Proofs.Ytfgfggnbdnbgfaa
open Go.ChangeShapes Go.WideShapes Go.ChangeAt Go.RowKit SmWord
set_option maxRecDepth 100000

theorem up_bits (a k : Nat) : ∀ i : Nat, i < 256 → bitI a ((i : Int) - (k : Int)) = ((bitN (a % M * 2 ^ k) i : Nat) : Int) := fun i hi => by
  unfold bitI
  by_cases h : i < k
  · rw [if_pos (.inl (by omega)), bit_up_low _ _ _ h]; rfl
  · rw [if_neg (by omega), bit_up _ _ _ (by omega), show ((i : Int) - (k : Int)).toNat = i - k by omega, bit_congr (Nat.mod_mod a M) (by omega)]
theorem down_bits (a k : Nat) : ∀ i : Nat, i < 256 → bitI a ((i : Int) - -(k : Int)) = ((bitN (a % M / 2 ^ k) i : Nat) : Int) := fun i hi => by
  unfold bitI
  rw [bit_down]
  by_cases h : i + k < 256
  · rw [if_neg (by omega), show ((i : Int) - -(k : Int)).toNat = i + k by omega, bit_congr (Nat.mod_mod a M) h]
  · rw [if_pos (.inr (by omega)), bitN_high (Nat.mod_lt _ (by decide)) (by omega)]; rfl
theorem shl_far (a n : Nat) (h : 300 < n) : (a * 2 ^ n) % M = (a % M * 2 ^ 300) % M := by
  have e : ∀ x k : Nat, 256 ≤ k → (x * 2 ^ k) % M = 0 := fun x k hk => by
    rw [show k = 256 + (k - 256) by omega, Nat.pow_add, ← Nat.mul_assoc, Nat.mul_comm x (2 ^ 256), Nat.mul_assoc]
    exact Nat.mul_mod_right M _
  rw [e a n (by omega), e _ 300 (by omega)]
theorem shr_far (a n : Nat) (h : 300 < n) : (a % M / 2 ^ n) % M = (a % M / 2 ^ 300) % M := by
  have e : ∀ k : Nat, 256 ≤ k → a % M / 2 ^ k = 0 := fun k hk => Nat.div_eq_of_lt (Nat.lt_of_lt_of_le (Nat.mod_lt _ (by decide)) (by rw [M_2]; exact Nat.pow_le_pow_right (by decide) hk))
  rw [e n (by omega), e 300 (by omega)]

set_option maxHeartbeats 4000000 in
theorem shifts_walk (a n k u v x y : Nat) (w : World) (hk : k ≤ 300) (_hn : n ≤ 18446744073709551615) (hmin : min (n : Int) 300 = (k : Int))
    (H1 : Hid (∀ w : World, Calls Try.prog 25 #[wd a, .int .u64 (n : Int)] w fun e w' => e = .returned (wd u) ∧ Below w.heap.size w w'))
    (H2 : Hid (∀ w : World, Calls Try.prog 27 #[wd a, .int .u64 (n : Int)] w fun e w' => e = .returned (wd v) ∧ Below w.heap.size w w'))
    (H3 : Hid (∀ w : World, Calls Try.prog 26 #[.agg (da a), .int .i64 (k : Int)] w fun e w' => e = .returned (.agg (da x)) ∧ Below w.heap.size w w'))
    (H4 : Hid (∀ w : World, Calls Try.prog 26 #[.agg (da a), .int .i64 (-(k : Int))] w fun e w' => e = .returned (.agg (da y)) ∧ Below w.heap.size w w'))
    (e1 : ∀ w : World, (Op.equalIn 10000 24 (.agg (wa u)) (.agg (wa x))).run Try.prog w = .ok true w)
    (e2 : ∀ w : World, (Op.equalIn 10000 24 (.agg (wa v)) (.agg (wa y))).run Try.prog w = .ok true w) :
    Calls Try.prog 7 #[wd a, .int .u64 (n : Int)] w fun e w' => e = .returned (.bool true) ∧ Below w.heap.size w w' := by
  have eg := Try.guardW
  have fo := fold_wa
  have hz := wa_size
  go_enter Try.func7, Try.ntmps7
  have f1 : (w.alloc (.cells (wa a) 24)).heap[w.heap.size]? = some (.cells (wa a) 24) := heap_alloc_new _ _
  have bW : Below w.heap.size w (w.alloc (.cells (wa a) 24)) := (Below.refl _ _).alloc (Nat.le_refl _) _
  go_wp2_with (refine wpList_load_row rfl 24 _ rfl _ rfl 24 (wa a) (0, 0) _ f1 Try.underlying24 rfl Try.infoWa ?_)
  clear hmin
  refine (of_ref a _).mono ?_
  rintro e w1 ⟨rfl, b1⟩
  have f1 := Below.stays b1 f1
  have bW := bW.trans (b1.mono bW.size)
  clear b1
  go_wp2_with (first | (refine wpList_alloc_row rfl 26 rfl zD zD_run ?_) | (refine wpList_store_row rfl 26 _ _ rfl _ zD (da a) rfl rfl (heap_alloc_new _ _) (infoArr _) rfl (arr_one _ _ _) ?_))
  have f6 : ((w1.alloc (.cells zD 26)).setRow w1.heap.size (da a)).heap[w1.heap.size]? = some (.cells (da a) 26) := blk_row (heap_alloc_new _ _)
  have hne : w.heap.size ≠ w1.heap.size := by have := (Array.getElem?_eq_some_iff.1 f1).1; omega
  have f1 : ((w1.alloc (.cells zD 26)).setRow w1.heap.size (da a)).heap[w.heap.size]? = some (.cells (wa a) 24) := blk_row_other (blk_alloc f1) hne
  have bW : Below w.heap.size w ((w1.alloc (.cells zD 26)).setRow w1.heap.size (da a)) := below_setRow (bW.alloc bW.size _) bW.size _
  generalize (w1.alloc (.cells zD 26)).setRow w1.heap.size (da a) = W at *
  have g1 := fun g : Ext W => g.word f1
  try simp only [Act.put, List.setIfInBounds_toArray, List.set_cons_succ, List.set_cons_zero]
  refine region_ext (by kernel_rfl) (by kernel_rfl) ?_
  repeat (first | (go_big_quiet_want; refine quiet_load_row 26 _ rfl w1.heap.size (da a) rfl (fun w2 hw2 => by obtain ⟨g, rfl⟩ := hw2; exact g.block f6) Try.underlying26 (infoArr _) ?_; simp only [Act.put, List.setIfInBounds_toArray, List.set_cons_succ, List.set_cons_zero]; go_big_quiet_on) | go_big_quiet_step (first | (go_at_call 12; exact calls_ext (fixed_walk _)) | (go_at_call 15; with_reducible exact calls_ext (word_ref _ _)) | (go_at_call 25; with_reducible exact calls_ext (H1.out _)) | (go_at_call 27; with_reducible exact calls_ext (H2.out _)) | (go_at_call 26; first | with_reducible exact calls_ext (H3.out _) | with_reducible exact calls_ext (H4.out _))))
  refine wpQuiet_nil ?_
  rintro _ ⟨g, rfl⟩
  go_wp2
  go_ret
  exact ⟨rfl, bW.trans (g.below.mono bW.size)⟩

theorem shifts_full (a n : Nat) (hn : n < B) (w : World) :
    Calls Try.prog 7 #[wd a, .int .u64 (n : Int)] w fun e w' => e = .returned (.bool true) ∧ Below w.heap.size w w' := by
  have hk : min n 300 ≤ 300 := Nat.min_le_right _ _
  have hmin : min (n : Int) 300 = ((min n 300 : Nat) : Int) := by omega
  refine shifts_walk a n (min n 300) (a * 2 ^ n) (a % M / 2 ^ n) (a % M * 2 ^ min n 300) (a % M / 2 ^ min n 300) w hk (by simp only [B] at hn; omega) hmin
    (fun w => shl_wd a n hn w) (fun w => shr_wd a n hn w) (fun w => shift_ref a _ _ w (by omega) (by omega) (up_bits a _)) (fun w => shift_ref a _ _ w (by omega) (by omega) (down_bits a _)) (fun w => equal_yes ?_ w) (fun w => equal_yes ?_ w)
  · by_cases h : n ≤ 300
    · rw [Nat.min_eq_left h, Nat.mod_mul_mod]
    · rw [Nat.min_eq_right (by omega)]; exact shl_far a n (by omega)
  · by_cases h : n ≤ 300
    · rw [Nat.min_eq_left h]
    · rw [Nat.min_eq_right (by omega)]; exact shr_far a n (by omega)

set_option maxRecDepth 100000 in
theorem shifts_lifted (os : Os) (started : os.Started) (H : Type) (enc : TypeId × Value → H) :
    ReturnsInHanded {} Try.checked os 7 .any (Rows.wordShiftsSpec.pre6 enc Try.prog Try.f7 Rows.wordShiftsRow.domain false) (Rows.wordShiftsSpec.post enc Try.prog Try.f7 false true false false) := by
  refine returnsInHanded_of_change (C := Try.checked) Try.own started (by kernel_rfl) Try.func7
    (ChangeSpec.witness6 (enc := enc) (C := Try.checked) false ⟨#[], #[w0000, .int .u64 0], []⟩ 8 (by kernel_rfl) (by kernel_rfl) (by kernel_rfl) (by kernel_rfl)) ?_
  intro W base args ds gs before hval0 hW hcnd _
  have hval : ∀ (j : Nat) t v, Try.f7.params[j]? = some t → args[j]? = some v → Value.okWide Try.prog W .any base t v := hval0
  have hW' := hW
  obtain ⟨p, q, hA0, hV, rfl, hfz, hnd⟩ := hW
  have hA : DataW.TrodAll enc Try.prog W 0 (fun _ => true) true Try.f7.params.toList args.toList ds p := hA0
  rw [Try.params7] at hA hval
  obtain ⟨v0, v1, d0, d1, p0, p1, rfl, rfl, rfl, h0, h1⟩ := trodAll_two hA
  obtain ⟨rfl, rfl⟩ := trodVars_none hV
  obtain ⟨a, rfl, rfl, rfl⟩ := open_word (hval 0 24 v0 rfl rfl) h0
  obtain ⟨zn, rfl, rfl, rfl, wn⟩ := open_int Try.underlying36 (hval 1 36 v1 rfl rfl) h1
  obtain ⟨n, rfl, ln⟩ := wf_u64 wn
  clear hA0 hval0
  simp only [List.append_nil] at hW'
  refine (shifts_full a n ln W).mono fun e W' ⟨he, bel⟩ => ?_
  subst he
  exact ⟨_, rfl, _, _, _, [], _, [], hW', trodAll_mk1 (shut_bool Try.underlying4 _), trodAll_mk2 (shut_word a _ _) (shut_int Try.underlying36 wn), rfl, bel.frame _, fun h => by cases h⟩

theorem shifts_holds : Rows.WordShiftsSaid :=
  OpenClaim.holds_of_wide 7 Try.f7 rfl rfl rfl rfl rfl rfl rfl ⟨rfl, rfl, rfl, rfl, rfl⟩ rfl rfl rfl rfl rfl (by kernel_rfl) Try.func7 (by kernel_rfl)
    (of_decide_eq_true (by kernel_rfl)) (by unfold Func.isWrapper; first | (rw [if_pos (by decide +kernel)]; kernel_rfl) | (rw [if_neg (by decide +kernel)]; exact ⟨rfl, rfl⟩))
    (fun os started H enc _ => shifts_lifted os started H enc)
end Go.Proofs.Ytfgfggnbdnbgfaa
