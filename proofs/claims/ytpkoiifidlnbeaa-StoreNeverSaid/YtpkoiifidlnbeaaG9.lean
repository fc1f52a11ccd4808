/- StoreTells and StoreNil, walked. -/
import Derived.Test.YtpkoiifidlnbeaaG8
import Derived.Test.YtpkoiifidlnbeaaG4
namespace Go.Proofs.Ytpkoiifidlnbeaa
open Go.RowKit SmWord
set_option maxRecDepth 100000

theorem greatL_one (x : AV) : greatL [x] = greatA x.a := by simp [greatL]
theorem great_no {a : Acc} (h : greatA a = false) : a.co.length ≤ 3000 ∧ a.so.length ≤ 100 := by
  unfold greatA at h
  simp at h
  exact h
theorem AccB.ones {Z : Hp} {x : AV} (h : AccB Z x) : (acs x).toArray.all (·.oneCell') = true := all_oneCell_toArray (oneA x h.cod.oneCell h.sto.oneCell)
theorem one_accsB {w : World} {x : AV} {b : Nat} (hx : AccB (hp w) x) (h : w.heap[b]? = some (.cells (acs x).toArray 46)) : AccsB (hp w) (.slice (some ⟨b, 0, none⟩) 1 1) [x] :=
  ⟨⟨by simp [acs_len], some ⟨b, 0, none⟩, 1, rfl, Nat.le_refl _, by simp [maxLen], fun h => by simp at h, fun _ => ⟨b, 0, rfl, by simpa using rng_block h⟩⟩, fun y hy => by
    simp at hy
    subst hy
    exact hx⟩
set_option maxHeartbeats 4000000 in
theorem tells_walk (x : AV) (w : World) (h : AccB (hp w) x) : Calls Try.prog 5 #[aval x] w fun e w' => e = .returned (.bool true) ∧ Below w.heap.size w w' := by
  unfold aval
  have hs : (acs x).toArray.size = 27 := by simp [acs_len]
  have f27 := fold27 x
  obtain ⟨f0, bW⟩ := boxA w x
  obtain ⟨W, hW⟩ : ∃ W, w.alloc (.cells (acs x).toArray 46) = W := ⟨_, rfl⟩
  rw [hW] at f0 bW
  have r0 := (rng_block f0).at
  obtain ⟨W2, hW2⟩ : ∃ W2, W.alloc (.cells (acs x).toArray 46) = W2 := ⟨_, rfl⟩
  have f2 : W2.heap[W.heap.size]? = some (.cells (acs x).toArray 46) := hW2 ▸ heap_alloc_new _ _
  have b2 : Below W.heap.size W W2 := hW2 ▸ (Below.refl _ _).alloc (Nat.le_refl _) _
  have HB2 : Hid (Below w.heap.size w W2) := Lib.hid (bW.trans (b2.mono bW.size))
  have KG := Lib.hid (great_walk (.slice (some ⟨W.heap.size, 0, none⟩) 1 1) [x] W2 (one_accsB (h.sub (hp_below HB2.out)) f2))
  rw [greatL_one] at KG
  have KF := Lib.hid fixed_walk
  have F2 := Lib.hid (stay b2 f0)
  have HX := Lib.hid h
  clear bW b2 f2 f0 h
  cases hg : greatA x.a <;> rw [hg] at KG
  · obtain ⟨l1, l2⟩ := great_no hg
    have HZ := Lib.hid (HX.out.small (by omega) (by omega))
    clear l1 l2 hg
    go_enter Try.func5, Try.ntmps5
    go_upto_region 1 with fail
    clear hW
    go_wp2_with (first
      | (refine wpList_load_mid rfl 46 _ rfl w.heap.size 0 rfl (acs x) _ r0 Try.underlying46 rfl (infoAcs _) ?_)
      | (go_at_call 23; refine KG.out.mono ?_; rintro e w3 ⟨rfl, rfl⟩))
    have KA := Lib.hid fun g : Ext W2 => right_walk x g.on (HZ.out.sub (hp_below (HB2.out.trans (g.below.mono HB2.out.size))))
    have KB := Lib.hid fun g : Ext W2 => rright_walk x g.on (HZ.out.sub (hp_below (HB2.out.trans (g.below.mono HB2.out.size))))
    have KC := Lib.hid fun g : Ext W2 => empty_walk x g.on (HZ.out.sub (hp_below (HB2.out.trans (g.below.mono HB2.out.size))))
    have KD := Lib.hid fun g : Ext W2 => rempty_walk x g.on (HZ.out.sub (hp_below (HB2.out.trans (g.below.mono HB2.out.size))))
    unfold aval at KA KB KC KD
    generalize rightA x.a = ra at *
    generalize emptyA x.a = ea at *
    have e2 := fun g : Ext W2 => (rng_block (g.block F2.out)).at
    have huA := Try.underlying46
    have hiA := infoAcs x
    cases ra <;> cases ea
    all_goals
      refine region_ext (by kernel_rfl) (by kernel_rfl) ?_
      repeat (first
        | (go_big_quiet_want; refine quiet_load_mid 46 _ rfl w.heap.size 0 (acs x) rfl (fun w2 hw2 => by obtain ⟨g1, rfl⟩ := hw2; exact e2 g1) Try.underlying46 rfl (infoAcs _) ?_; simp only [Act.put, List.setIfInBounds_toArray, List.set_cons_succ, List.set_cons_zero]; go_big_quiet_on)
        | go_big_quiet_step (first
          | (go_at_call 9; with_reducible exact calls_ext (KF.out _))
          | (go_at_call 24; with_reducible exact calls_ext (KA.out _))
          | (go_at_call 25; with_reducible exact calls_ext (KB.out _))
          | (go_at_call 26; with_reducible exact calls_ext (KC.out _))
          | (go_at_call 27; with_reducible exact calls_ext (KD.out _))))
      refine wpQuiet_nil ?_
      rintro w' ⟨gg, rfl⟩
      have HG := Lib.hid (HB2.out.trans (gg.below.mono HB2.out.size))
      generalize gg.on = wg at *
      clear e2 KA KB KC KD
      go_wp2_with fail
      go_ret
      exact ⟨rfl, HG.out⟩
  · go_enter Try.func5, Try.ntmps5
    go_upto_region 1 with fail
    clear hW
    go_wp2_with (first
      | (refine wpList_load_mid rfl 46 _ rfl w.heap.size 0 rfl (acs x) _ r0 Try.underlying46 rfl (infoAcs _) ?_)
      | (go_at_call 23; refine KG.out.mono ?_; rintro e w3 ⟨rfl, rfl⟩)
      | (go_at_call 9; refine (KF.out _).mono ?_; rintro e w4 ⟨rfl, b4⟩; have HB4 := Lib.hid (HB2.out.trans (b4.mono HB2.out.size)); clear b4))
    go_ret
    exact ⟨rfl, HB4.out⟩
theorem all_none (p : Option Addr) (v : Int) (w : World) (HH : Hid (Calls Try.prog 28 #[.pointer p, .int .i64 v] w fun e w' => e = .returned (.bool false) ∧ w = w')) : Calls Try.prog 16 #[.pointer p, .int .i64 v] w fun e w' => e = .returned (.slice none 0 0) ∧ w = w' := by
  go_enter Try.func16, Try.ntmps16
  go_wp2_with (go_at_call 28; refine HH.out.mono ?_; rintro e w1 ⟨rfl, rfl⟩)
  go_ret
  exact ⟨rfl, rfl⟩
theorem sboxes (w : World) (A k : Nat) : ∃ W, ((w.alloc (.cells (aN A) 24)).alloc (.cells (wa k) 27)).alloc (.cells (wa 0) 27) = W ∧ W.heap[w.heap.size]? = some (.cells (aN A) 24) ∧ W.heap[w.heap.size + 1]? = some (.cells (wa k) 27) ∧ W.heap[w.heap.size + 2]? = some (.cells (wa 0) 27) ∧ Below w.heap.size w W ∧ W.heap.size = w.heap.size + 3 := by
  have h2 := heap_alloc_new ((w.alloc (.cells (aN A) 24)).alloc (.cells (wa k) 27)) (.cells (wa 0) 27)
  exact ⟨_, rfl, blk_alloc (blk_alloc (heap_alloc_new _ _)), blk_alloc (heap_alloc2_new _ _ _), by simpa using h2, (((Below.refl _ _).alloc (Nat.le_refl _) _).alloc (by simp) _).alloc (by simp; omega) _, by simp⟩
theorem store_old {w : World} {b n m : Nat} (hb : w.heap[b]? = some (.cells (wa n) 27)) : (storeCells ⟨b, 0, none⟩ (wa m).toList 0).run Try.prog w = .ok () (w.setRow b (wa m)) := by
  have := run_storeCells_from (P := Try.prog) b 27 (wa m).toList 0 (wa n) w hb (by simp [wa_size]) (fun v hv => (Array.all_eq_true_iff_forall_mem.1 (wa_one (n := m))) v (by simpa using hv))
  simpa using this
set_option maxHeartbeats 1000000 in
theorem slot_none (p : Option Addr) (v : Int) (A k : Nat) (w : World) (HL : Hid (∀ w1, Below w.heap.size w w1 → Calls Try.prog 32 #[.pointer p, .int .i64 v, .agg (aN A)] w1 fun e w' => e = .returned (.pointer none) ∧ Below w1.heap.size w1 w')) :
    Calls Try.prog 17 #[.pointer p, .int .i64 v, .agg (aN A), wd k] w fun e w' => e = .returned (wd 0) ∧ Below w.heap.size w w' := by
  have hs := aN_size A
  have hw := wa_size
  have e0 := z4w
  obtain ⟨W, hW, f0, f1, f2, bW, sW⟩ := sboxes w A k
  have r0 := adblk f0
  have HB := Lib.hid bW
  have F2 := Lib.hid f2
  clear f0 f1 f2 bW
  unfold wd
  go_enter Try.func17, Try.ntmps17
  go_upto_region 1 with fail
  clear hW
  go_wp2_with (first
    | (refine wpList_load_mid rfl 24 _ rfl w.heap.size 0 rfl (aN A).toList _ r0 Try.underlying24 rfl (infoAd A) ?_; simp only [Array.toArray_toList])
    | (go_at_call 32; refine (HL.out _ HB.out).mono ?_; rintro e w1 ⟨rfl, b1⟩; replace HB := Lib.hid (HB.out.trans (b1.mono HB.out.size)); have f2 := stay b1 F2.out; have so := store_old (m := 0) f2; replace F2 := Lib.hid f2; clear f2 b1)
    | (refine wpList_store_row rfl 27 _ _ rfl (w.heap.size + 2) _ (wa 0) rfl rfl F2.out Try.infoWa (by simp [wa_size]) wa_one ?_))
  refine bodyPost_ret (v := wd 0) (results_cell_row rfl _ _ _ 27 (wa 0) (0, 0) _ rfl (blk_row F2.out) Try.underlying27 rfl Try.infoWa) rfl ⟨rfl, below_setRow HB.out (by omega) _⟩
end Go.Proofs.Ytpkoiifidlnbeaa
/- StoreNil, walked. -/
namespace Go.Proofs.Ytpkoiifidlnbeaa
open Go.RowKit SmWord
set_option maxRecDepth 100000

theorem nboxes (w : World) (o : CO) (A : Nat) : ∃ W, (w.alloc (.cells #[.int .i64 o.par, o.v] 36)).alloc (.cells (aN A) 24) = W ∧ W.heap[w.heap.size]? = some (.cells #[.int .i64 o.par, o.v] 36) ∧ W.heap[w.heap.size + 1]? = some (.cells (aN A) 24) ∧ Below w.heap.size w W ∧ W.heap.size = w.heap.size + 2 :=
  ⟨_, rfl, blk_alloc (heap_alloc_new _ _), heap_alloc2_new _ _ _, ((Below.refl _ _).alloc (Nat.le_refl _) _).alloc (by simp) _, by simp⟩
set_option maxHeartbeats 4000000 in
theorem nil_walk (o : CO) (A : Nat) (w : World) (h : OpB (hp w) o) : Calls Try.prog 6 #[.agg (ocs o).toArray, .agg (aN A)] w fun e w' => e = .returned (.bool true) ∧ Below w.heap.size w w' := by
  unfold ocs
  have hs := aN_size A
  have hw := wa_size
  have e0 := z4w
  obtain ⟨W, hW, f0, f1, bW, sW⟩ := nboxes w o A
  have c0 := blk_cell (j := 0) f0 rfl
  have c1 := blk_cell (j := 1) f0 rfl
  have r0 := adblk f1
  obtain ⟨Av, cv, ev, -⟩ := h.row.val
  have KG := Lib.hid (great_walk o.v o.l W (h.sub (hp_below bW)))
  have KF := Lib.hid fixed_walk
  have HB := Lib.hid bW
  have F0 := Lib.hid f0
  have F1 := Lib.hid f1
  have KL : Hid (∀ (v : Int) (w : World), Calls Try.prog 32 #[.pointer none, .int .i64 v, .agg (aN A)] w fun e w' => e = .returned (.pointer none) ∧ Below w.heap.size w w') := Lib.hid fun v w => last_none none 0 v A (by omega) (Lib.hid fun w1 _ => by rw [decide_eq_false (by omega)]; exact has_nil v w1)
  have KP : Hid (∀ w : World, Calls Try.prog 15 #[.pointer none, .int .i64 o.par] w fun e w' => e = .returned (.tuple #[.int .i64 0, .bool false]) ∧ w = w') := Lib.hid fun w => by
    by_cases hp0 : o.par = 0
    · rw [hp0]; exact parent_zero none w
    · exact parent_none none o.par w hp0 (Lib.hid (has_nil o.par w))
  rw [ev] at hW c1 KG ⊢
  generalize o.l.length = n at *
  clear bW f0 f1 h
  cases hg : greatL o.l <;> rw [hg] at KG <;> clear hg
  · go_enter Try.func6, Try.ntmps6
    go_upto_region 1 with fail
    clear hW
    go_upto_region 7 with (first
      | (go_at_call 23; refine KG.out.mono ?_; rintro e w3 ⟨rfl, rfl⟩)
      | (go_at_call 11; refine (commit_nil _ _ _).mono ?_; rintro e w4 ⟨rfl, rfl⟩)
      | (refine wpList_load_mid rfl 24 _ rfl (w.heap.size + 1) 0 rfl (aN A).toList _ r0 Try.underlying24 rfl (infoAd A) ?_; simp only [Array.toArray_toList])
      | (go_at_call 14
         refine (find_none none o.par A W (Lib.hid fun w1 _ => KL.out _ w1)).mono ?_
         rintro e w5 ⟨rfl, b5⟩
         obtain ⟨W5, hW5⟩ : ∃ W5, w5.alloc (.cells (acs noneAV).toArray 46) = W5 := ⟨_, rfl⟩
         have B5 : Hid (Below W.heap.size W W5) := Lib.hid (b5.trans ((hW5 ▸ (Below.refl _ _).alloc (Nat.le_refl _) _ : Below w5.heap.size w5 W5).mono b5.size))
         have c2 := blk_cell (j := 0) (stay B5.out F0.out) rfl
         have sn : (storeCells ⟨w5.heap.size, 0, none⟩ (acs noneAV) 0).run Try.prog W5 = .ok () W5 := hW5 ▸ store_newN w5
         unfold aval
         clear b5)
      | (refine wpList_alloc_row rfl 46 rfl _ zeroAcc ?_)
      | (go_at_call 15; refine (KP.out _).mono ?_; rintro e w6 ⟨rfl, rfl⟩))
    have e2 := fun g : Ext W5 => adblk (g.block (stay B5.out F1.out))
    have eg := Try.guardW
    have eq := run_eq_wa0 0 (by decide)
    have KS : Hid (∀ w : World, Calls Try.prog 17 #[.pointer none, .int .i64 0, .agg (aN A), .agg (wa 0)] w fun e w' => e = .returned (.agg (wa 0)) ∧ Below w.heap.size w w') := Lib.hid fun w => slot_none none 0 A 0 w (Lib.hid fun w1 _ => KL.out _ w1)
    have KA : Hid (∀ w : World, Calls Try.prog 16 #[.pointer none, .int .i64 0] w fun e w' => e = .returned (.slice none 0 0) ∧ Below w.heap.size w w') := Lib.hid fun w => (all_none none 0 w (Lib.hid (has_nil 0 w))).mono fun _ _ ⟨he, hb⟩ => ⟨he, hb ▸ Below.refl _ _⟩
    have KN : Hid (∀ w : World, Calls Try.prog 13 #[.pointer none] w fun e w' => e = .returned (.int .i64 0) ∧ Below w.heap.size w w') := Lib.hid fun w => (slen_nil w).mono fun _ _ ⟨he, hb⟩ => ⟨he, hb ▸ Below.refl _ _⟩
    refine region_seq ?_
    repeat (first
      | (go_big_quiet_want; refine quiet_load_mid 24 _ rfl (w.heap.size + 1) 0 (aN A).toList rfl (fun w2 hw2 => by obtain ⟨g1, rfl⟩ := hw2; exact e2 g1) Try.underlying24 rfl (infoAd A) ?_; simp only [Act.put, List.setIfInBounds_toArray, List.set_cons_succ, List.set_cons_zero, Array.toArray_toList]; go_big_quiet_on)
      | go_big_quiet_step (first
        | (go_at_call 9; with_reducible exact calls_ext (KF.out _))
        | (go_at_call 16; with_reducible exact calls_ext (KA.out _))
        | (go_at_call 13; with_reducible exact calls_ext (KN.out _))
        | (go_at_call 17; with_reducible exact calls_ext (KS.out _))))
    refine wpQuiet_nil ?_
    rintro w' ⟨gg, rfl⟩
    have HG := Lib.hid (HB.out.trans ((B5.out.trans (gg.below.mono B5.out.size)).mono HB.out.size))
    generalize gg.on = wg at *
    clear e2
    go_wp2_with fail
    go_ret
    exact ⟨rfl, HG.out⟩
  · go_enter Try.func6, Try.ntmps6
    go_upto_region 1 with fail
    clear hW
    go_wp2_with (first
      | (go_at_call 23; refine KG.out.mono ?_; rintro e w3 ⟨rfl, rfl⟩)
      | (go_at_call 9; refine (KF.out _).mono ?_; rintro e w4 ⟨rfl, b4⟩; have HB4 := Lib.hid (HB.out.trans (b4.mono HB.out.size)); clear b4))
    go_ret
    exact ⟨rfl, HB4.out⟩
end Go.Proofs.Ytpkoiifidlnbeaa
