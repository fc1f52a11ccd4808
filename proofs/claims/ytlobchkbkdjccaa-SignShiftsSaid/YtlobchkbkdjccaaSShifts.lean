/- The statement SignShifts: for every input it returns true, and leaves all older memory as it was. -/
import Derived.Test.YtlobchkbkdjccaaSgF
import Derived.Test.YtlobchkbkdjccaaSgY
import Derived.Test.YtlobchkbkdjccaaRefM
import Derived.Test.YtlobchkbkdjccaaRefD
import Derived.Test.YtlobchkbkdjccaaFrame
namespace Go.Proofs.Ytlobchkbkdjccaa
open Go.ChangeShapes Go.WideShapes Go.ChangeAt Go.RowKit SmWord
set_option maxRecDepth 100000

theorem upp_bits (k : Nat) : ∀ i : Nat, i < 256 → bitI 1 ((i : Int) - (k : Int)) = ((bitN (1 % M * 2 ^ k) i : Nat) : Int) := fun i hi => by
  unfold bitI
  by_cases h : i < k
  · rw [if_pos (.inl (by omega)), bit_up_low _ _ _ h]; rfl
  · rw [if_neg (by omega), bit_up _ _ _ (by omega), show ((i : Int) - (k : Int)).toNat = i - k by omega, bit_congr (Nat.mod_mod 1 M) (by omega)]

set_option maxHeartbeats 2000000 in
theorem sshifts_far (a n k x : Nat) (w : World) (hk : k ≤ 300) (hmin : min (n : Int) 300 = (k : Int)) (hn : 254 < n) (hn2 : n ≤ 18446744073709551615) (H1 : Hid (∀ w : World, Calls Try.prog 25 #[wd a, .int .u64 (n : Int)] w fun e w' => e = .returned (wd x) ∧ Below w.heap.size w w')) (H2 : Hid (∀ w : World, Calls Try.prog 26 #[wd a, .int .i64 (k : Int)] w fun e w' => e = .returned (wd x) ∧ Below w.heap.size w w')) :
    Calls Try.prog 7 #[wd a, .int .u64 (n : Int)] w fun e w' => e = .returned (.bool true) ∧ Below w.heap.size w w' := by
  have hs := store_new
  have hsz := wa_size
  go_enter Try.func7, Try.ntmps7
  go_upto_region 1 with fail
  have f2 : (w.alloc (.cells (wa a) 24)).heap[w.heap.size]? = some (.cells (wa a) 24) := blk_new _ rfl
  have bW : Below w.heap.size w (w.alloc (.cells (wa a) 24)) := ((Below.refl _ _).alloc (Nat.le_refl _) _)
  have sW : w.heap.size + 1 ≤ (w.alloc (.cells (wa a) 24)).heap.size := by simp
  generalize (w.alloc (.cells (wa a) 24)) = W at *
  go_wp2_with (refine wpList_load_row rfl 24 _ rfl _ rfl 24 _ (0, 0) _ (by assumption) Try.underlying24 rfl Try.infoWa ?_)
  refine (H1.out _).mono ?_
  rintro e w1 ⟨rfl, b1⟩
  replace f2 := Below.stays b1 f2
  replace bW := bW.trans (b1.mono bW.size)
  replace sW := Nat.le_trans sW b1.size
  clear b1
  go_upto_region 2 with fail
  replace f2 := blk_alloc (o' := .cells (wa x) 24) f2
  have f5 : (w1.alloc (.cells (wa x) 24)).heap[w1.heap.size]? = some (.cells (wa x) 24) := heap_alloc_new _ _
  replace bW : Below w.heap.size w (w1.alloc (.cells (wa x) 24)) := bW.alloc (by omega) _
  have sb5 : w1.heap.size + 1 ≤ (w1.alloc (.cells (wa x) 24)).heap.size := by simp
  generalize (w1.alloc (.cells (wa x) 24)) = w2 at *
  generalize w1.heap.size = b5 at *
  have lb5 := sW
  replace sW := Nat.le_trans (Nat.le_succ_of_le sW) sb5
  clear hs lb5 sb5 hsz
  have gf2 := fun g : Ext w2 => g.word f2
  have gf5 := fun g : Ext w2 => g.word f5
  have fo := fold_wa
  have eg := Try.guardW
  have e1 := fun w => eqw_yes (m := x) (n := x) rfl w
  refine region_ext (by kernel_rfl) (by kernel_rfl) ?_
  repeat (go_big_quiet_step ((go_at_call 26; with_reducible exact calls_ext (H2.out _))))
  refine wpQuiet_nil ?_
  rintro _ ⟨g, rfl⟩
  clear gf2 gf5 e1 hmin
  have b1 := g.below
  replace f2 := Below.stays b1 f2
  replace f5 := Below.stays b1 f5
  replace bW := bW.trans (b1.mono bW.size)
  replace sW := Nat.le_trans sW b1.size
  clear b1
  generalize g.on = w3 at *
  go_wp2_with fail
  refine (fixed3_walk _).mono ?_
  rintro e w4 ⟨rfl, b1⟩
  go_wp2
  go_ret
  exact ⟨rfl, bW.trans (b1.mono bW.size)⟩

set_option maxHeartbeats 4000000 in
theorem sshifts_near (a n k x pw le : Nat) (w : World) (hk : k ≤ 300) (hmin : min (n : Int) 300 = (k : Int)) (hn : n ≤ 254) (H1 : Hid (∀ w : World, Calls Try.prog 25 #[wd a, .int .u64 (n : Int)] w fun e w' => e = .returned (wd x) ∧ Below w.heap.size w w')) (H2 : Hid (∀ w : World, Calls Try.prog 26 #[wd a, .int .i64 (k : Int)] w fun e w' => e = .returned (wd x) ∧ Below w.heap.size w w')) (H3 : Hid (∀ w : World, Calls Try.prog 27 #[.agg (da 1), .int .i64 (n : Int)] w fun e w' => e = .returned (.agg (da pw)) ∧ Below w.heap.size w w')) (H4 : Hid (∀ w : World, Calls Try.prog 28 #[.agg (da a), .agg (da (x * pw))] w fun e w' => e = .returned (.agg (da le)) ∧ Below w.heap.size w w')) (H5 : Hid (∀ w : World, Calls Try.prog 19 #[.agg (da le), .agg (da pw)] w fun e w' => e = .returned (.int .i64 (-1)) ∧ Below w.heap.size w w')) (H6 : Hid (∀ w : World, Calls Try.prog 22 #[wd a, wd (x * pw)] w fun e w' => e = .returned (.bool false) ∧ Below w.heap.size w w')) :
    Calls Try.prog 7 #[wd a, .int .u64 (n : Int)] w fun e w' => e = .returned (.bool true) ∧ Below w.heap.size w w' := by
  have hs := store_new
  have hsz := wa_size
  go_enter Try.func7, Try.ntmps7
  go_upto_region 1 with fail
  have f2 : (w.alloc (.cells (wa a) 24)).heap[w.heap.size]? = some (.cells (wa a) 24) := blk_new _ rfl
  have bW : Below w.heap.size w (w.alloc (.cells (wa a) 24)) := ((Below.refl _ _).alloc (Nat.le_refl _) _)
  have sW : w.heap.size + 1 ≤ (w.alloc (.cells (wa a) 24)).heap.size := by simp
  generalize (w.alloc (.cells (wa a) 24)) = W at *
  go_wp2_with (refine wpList_load_row rfl 24 _ rfl _ rfl 24 _ (0, 0) _ (by assumption) Try.underlying24 rfl Try.infoWa ?_)
  refine (H1.out _).mono ?_
  rintro e w1 ⟨rfl, b1⟩
  replace f2 := Below.stays b1 f2
  replace bW := bW.trans (b1.mono bW.size)
  replace sW := Nat.le_trans sW b1.size
  clear b1
  go_upto_region 2 with fail
  replace f2 := blk_alloc (o' := .cells (wa x) 24) f2
  have f5 : (w1.alloc (.cells (wa x) 24)).heap[w1.heap.size]? = some (.cells (wa x) 24) := heap_alloc_new _ _
  replace bW : Below w.heap.size w (w1.alloc (.cells (wa x) 24)) := bW.alloc (by omega) _
  have sb5 : w1.heap.size + 1 ≤ (w1.alloc (.cells (wa x) 24)).heap.size := by simp
  generalize (w1.alloc (.cells (wa x) 24)) = w2 at *
  generalize w1.heap.size = b5 at *
  have lb5 := sW
  replace sW := Nat.le_trans (Nat.le_succ_of_le sW) sb5
  clear hs lb5 sb5 hsz
  have gf2 := fun g : Ext w2 => g.word f2
  have gf5 := fun g : Ext w2 => g.word f5
  have fo := fold_wa
  have eg := Try.guardW
  have e1 := fun w => eqw_yes (m := x) (n := x) rfl w
  refine region_ext (by kernel_rfl) (by kernel_rfl) ?_
  repeat (go_big_quiet_step ((go_at_call 26; with_reducible exact calls_ext (H2.out _))))
  refine wpQuiet_nil ?_
  rintro _ ⟨g, rfl⟩
  clear gf2 gf5 e1 hmin
  have b1 := g.below
  replace f2 := Below.stays b1 f2
  replace f5 := Below.stays b1 f5
  replace bW := bW.trans (b1.mono bW.size)
  replace sW := Nat.le_trans sW b1.size
  clear b1
  generalize g.on = w3 at *
  go_wp2_with (refine wpList_build_one rfl rfl ?_)
  refine (H3.out _).mono ?_
  rintro e w4 ⟨rfl, b1⟩
  replace f2 := Below.stays b1 f2
  replace f5 := Below.stays b1 f5
  replace bW := bW.trans (b1.mono bW.size)
  replace sW := Nat.le_trans sW b1.size
  clear b1
  go_upto_region 7 with (first | (refine wpList_alloc_row rfl 31 rfl zD zD_run ?_) | (refine wpList_store_row rfl 31 (.tmp 6) _ rfl _ zD (da pw) rfl rfl (heap_alloc_new _ _) (infoArr _) rfl (arr_one _ _ _) ?_))
  simp only [Act.put, List.setIfInBounds_toArray, List.set_cons_succ, List.set_cons_zero]
  rw [World.setRow_alloc_new]
  replace f2 := blk_alloc (o' := .cells (da pw) 31) f2
  replace f5 := blk_alloc (o' := .cells (da pw) 31) f5
  have f6 : (w4.alloc (.cells (da pw) 31)).heap[w4.heap.size]? = some (.cells (da pw) 31) := heap_alloc_new _ _
  replace bW : Below w.heap.size w (w4.alloc (.cells (da pw) 31)) := bW.alloc (by omega) _
  have sb6 : w4.heap.size + 1 ≤ (w4.alloc (.cells (da pw) 31)).heap.size := by simp
  generalize (w4.alloc (.cells (da pw) 31)) = w5 at *
  generalize w4.heap.size = b6 at *
  have lb6 := sW
  replace sW := Nat.le_trans (Nat.le_succ_of_le sW) sb6
  clear lb6 sb6
  refine region_mk1 (aQ := ?aQb7) 4 ⟨4, 5, 31, 7, 29, zD, da (x * pw)⟩ (by kernel_rfl) (by kernel_rfl) (fun w1x => ?hq) ?hok ?hh
  case hq =>
    simp only [List.take_succ_cons, List.take_zero]
    repeat (first | (go_big_quiet_want; refine quiet_load_row 24 _ rfl _ (wa x) rfl (fun w2 hw2 => by obtain ⟨g, rfl⟩ := hw2; exact g.block (w1x.block f5)) Try.underlying24 Try.infoWa ?_; simp only [Act.put, List.setIfInBounds_toArray, List.set_cons_succ, List.set_cons_zero]; go_big_quiet_on) | (go_big_quiet_want; refine quiet_load_row 31 _ rfl _ (da pw) rfl (fun w2 hw2 => by obtain ⟨g, rfl⟩ := hw2; exact g.block (w1x.block f6)) Try.underlying31 (infoArr _) ?_; simp only [Act.put, List.setIfInBounds_toArray, List.set_cons_succ, List.set_cons_zero]; go_big_quiet_on) | go_big_quiet_step (first | (go_at_call 15; with_reducible exact calls_ext (of_ref _ _)) | (go_at_call 18; with_reducible exact calls_ext (mul_ref _ _ _))))
    refine wpQuiet_nil ?_
    rfl
  case hok => exact ⟨zD_run, infoArr _, rfl, arr_one _ _ _, by simp, rfl⟩
  case hh =>
    intro b7 w6 b1 _ f7
    simp only [Act.put, List.setIfInBounds_toArray, List.set_cons_succ, List.set_cons_zero]
    dsimp only at f7
    replace f2 := Below.stays b1 f2
    replace f5 := Below.stays b1 f5
    replace f6 := Below.stays b1 f6
    replace bW := bW.trans (b1.mono bW.size)
    replace sW := Nat.le_trans sW b1.size
    clear b1
    go_upto_region 8 with fail
    refine region_mk1 (aQ := ?aQb8) 4 ⟨4, 5, 31, 8, 33, zD, da le⟩ (by kernel_rfl) (by kernel_rfl) (fun w1x => ?hq) ?hok ?hh
    case hq =>
      simp only [List.take_succ_cons, List.take_zero]
      repeat (first | (go_big_quiet_want; refine quiet_load_row 24 _ rfl _ (wa a) rfl (fun w2 hw2 => by obtain ⟨g, rfl⟩ := hw2; exact g.block (w1x.block f2)) Try.underlying24 Try.infoWa ?_; simp only [Act.put, List.setIfInBounds_toArray, List.set_cons_succ, List.set_cons_zero]; go_big_quiet_on) | (go_big_quiet_want; refine quiet_load_row 31 _ rfl _ (da (x * pw)) rfl (fun w2 hw2 => by obtain ⟨g, rfl⟩ := hw2; exact g.block (w1x.block f7)) Try.underlying31 (infoArr _) ?_; simp only [Act.put, List.setIfInBounds_toArray, List.set_cons_succ, List.set_cons_zero]; go_big_quiet_on) | go_big_quiet_step (first | (go_at_call 15; with_reducible exact calls_ext (of_ref _ _)) | (go_at_call 28; with_reducible exact calls_ext (H4.out _))))
      refine wpQuiet_nil ?_
      rfl
    case hok => exact ⟨zD_run, infoArr _, rfl, arr_one _ _ _, by simp, rfl⟩
    case hh =>
      intro b8 w7 b1 _ f8
      simp only [Act.put, List.setIfInBounds_toArray, List.set_cons_succ, List.set_cons_zero]
      dsimp only at f8
      replace f2 := Below.stays b1 f2
      replace f5 := Below.stays b1 f5
      replace f6 := Below.stays b1 f6
      replace f7 := Below.stays b1 f7
      replace bW := bW.trans (b1.mono bW.size)
      replace sW := Nat.le_trans sW b1.size
      clear b1
      go_upto_region 9 with fail
      have gf2 := fun g : Ext w7 => g.word f2
      refine region_ext (by kernel_rfl) (by kernel_rfl) ?_
      repeat (first | (go_big_quiet_want; refine quiet_load_row 31 _ rfl _ (da le) rfl (fun w2 hw2 => by obtain ⟨g, rfl⟩ := hw2; exact g.block ( f8)) Try.underlying31 (infoArr _) ?_; simp only [Act.put, List.setIfInBounds_toArray, List.set_cons_succ, List.set_cons_zero]; go_big_quiet_on) | (go_big_quiet_want; refine quiet_load_row 31 _ rfl _ (da pw) rfl (fun w2 hw2 => by obtain ⟨g, rfl⟩ := hw2; exact g.block ( f6)) Try.underlying31 (infoArr _) ?_; simp only [Act.put, List.setIfInBounds_toArray, List.set_cons_succ, List.set_cons_zero]; go_big_quiet_on) | (go_big_quiet_want; refine quiet_load_row 31 _ rfl _ (da (x * pw)) rfl (fun w2 hw2 => by obtain ⟨g, rfl⟩ := hw2; exact g.block ( f7)) Try.underlying31 (infoArr _) ?_; simp only [Act.put, List.setIfInBounds_toArray, List.set_cons_succ, List.set_cons_zero]; go_big_quiet_on) | go_big_quiet_step (first | (go_at_call 10; exact calls_ext (fixed3_walk _)) | (go_at_call 16; with_reducible exact calls_ext (word_ref _ _)) | (go_at_call 19; with_reducible exact calls_ext (H5.out _)) | (go_at_call 22; with_reducible exact calls_ext (H6.out _))))
      refine wpQuiet_nil ?_
      rintro _ ⟨g, rfl⟩
      go_wp2
      go_ret
      exact ⟨rfl, bW.trans (g.below.mono bW.size)⟩
theorem sshifts_walk (a n : Nat) (hn : n < B) (w : World) : Calls Try.prog 7 #[wd a, .int .u64 (n : Int)] w fun e w' => e = .returned (.bool true) ∧ Below w.heap.size w w' := by
  have hk : min n 300 ≤ 300 := Nat.min_le_right _ _
  have hmin : min (n : Int) 300 = ((min n 300 : Nat) : Int) := by omega
  have h1 := Lib.hid fun w => sar_wd a n hn w
  have h2 := Lib.hid fun w => rsar_wd a n _ rfl w
  by_cases h : 254 < n
  · exact sshifts_far a n _ _ w hk hmin h (by simp only [B] at hn; omega) h1 h2
  · have hp : 1 % M * 2 ^ n = 2 ^ n := by rw [Nat.mod_eq_of_lt (by decide), Nat.one_mul]
    have hl := sar_left a n (a + (M - 1 - sar a n * (1 % M * 2 ^ n) % M + 1)) (by omega) (by
      rw [hp]
      exact sub_num_mod a (sar a n * 2 ^ n))
    have h5 := Lib.hid fun w => compare_ref (a + (M - 1 - sar a n * (1 % M * 2 ^ n) % M + 1)) (1 % M * 2 ^ n) w
    rw [show cmpN ((a + (M - 1 - sar a n * (1 % M * 2 ^ n) % M + 1)) % M) (1 % M * 2 ^ n % M) = -1 from if_pos (by rw [hp] at hl ⊢; exact hl)] at h5
    have h6 := Lib.hid fun w => rless_wd a (sar a n * (1 % M * 2 ^ n)) w
    rw [show sless a (sar a n * (1 % M * 2 ^ n)) = false by rw [hp]; exact sar_above a n (by omega)] at h6
    exact sshifts_near a n _ _ _ _ w hk hmin (by omega) h1 h2 (Lib.hid fun w => shift_ref 1 _ _ w (by omega) (by omega) (upp_bits n)) (Lib.hid fun w => sub_ref a _ w) h5 h6

set_option maxRecDepth 100000 in
theorem sshifts_lifted (os : Os) (started : os.Started) (H : Type) (enc : TypeId × Value → H) :
    ReturnsInHanded {} Try.checked os 7 .any (Rows.signShiftsSpec.pre6 enc Try.prog Try.f7 Rows.signShiftsRow.domain false) (Rows.signShiftsSpec.post enc Try.prog Try.f7 false true false false) := by
  refine returnsInHanded_of_change (C := Try.checked) Try.own started (by kernel_rfl) Try.func7
    (ChangeSpec.witness6 (enc := enc) (C := Try.checked) false ⟨#[], #[w0000, .int .u64 0], []⟩ 8 (by kernel_rfl) (by kernel_rfl) (by kernel_rfl) (by kernel_rfl)) ?_
  intro W base args ds gs before hval0 hW hcnd _
  have hval : ∀ (j : Nat) t v, Try.f7.params[j]? = some t → args[j]? = some v → Value.okWide Try.prog W .any base t v := hval0
  have hW' := hW
  obtain ⟨p, q, hA0, hV, rfl, hfz, hnd⟩ := hW
  have hA : DataW.TrodAll enc Try.prog W 0 (fun _ => true) true Try.f7.params.toList args.toList ds p := hA0
  rw [Try.params7] at hA hval
  obtain ⟨v0, v1, d0, d1, p0, p1, rfl, rfl, rfl, h0, h1⟩ := trodAll_two hA
  obtain ⟨rfl, rfl⟩ := trodVars_none hV
  obtain ⟨a, rfl, rfl, rfl⟩ := open_word (hval 0 24 v0 rfl rfl) h0
  obtain ⟨zn, rfl, rfl, rfl, wn⟩ := open_int Try.underlying39 (hval 1 39 v1 rfl rfl) h1
  obtain ⟨n, rfl, ln⟩ := wf_u64 wn
  clear hA0 hval0
  simp only [List.append_nil] at hW'
  refine (sshifts_walk a n ln W).mono fun e W' ⟨he, bel⟩ => ?_
  subst he
  exact ⟨_, rfl, _, _, _, [], _, [], hW', trodAll_mk1 (shut_bool Try.underlying4 _), trodAll_mk2 (shut_word a _ _) (shut_int Try.underlying39 wn), rfl, bel.frame _, fun h => by cases h⟩

theorem sshifts_holds : Rows.SignShiftsSaid :=
  OpenClaim.holds_of_wide 7 Try.f7 rfl rfl rfl rfl rfl rfl rfl ⟨rfl, rfl, rfl, rfl, rfl⟩ rfl rfl rfl rfl rfl (by kernel_rfl) Try.func7 (by kernel_rfl)
    (of_decide_eq_true (by kernel_rfl)) (by unfold Func.isWrapper; first | (rw [if_pos (by decide +kernel)]; kernel_rfl) | (rw [if_neg (by decide +kernel)]; exact ⟨rfl, rfl⟩))
    (fun os started H enc _ => sshifts_lifted os started H enc)
end Go.Proofs.Ytlobchkbkdjccaa
