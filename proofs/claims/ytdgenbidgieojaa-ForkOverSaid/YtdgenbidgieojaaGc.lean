/- What all statements of layer 15 ask first: the chapter's example. -/
import Derived.Test.YtdgenbidgieojaaGa
import Derived.Test.YtdgenbidgieojaaG8
import Derived.Test.YtdgenbidgieojaaG7
namespace Go.Proofs.Ytdgenbidgieojaa
open Go.RowKit SmWord Go.Maps
set_option maxRecDepth 100000

theorem run_build_one (w : World) : (Instr.build 32 #[(19, .int .u8 1)]).run Try.prog w = .ok (.agg (aN 1)) w := by kernel_rfl
theorem wpList_build_one {ops : Array Oper} {rest : List Oper} {o : Oper} {a : Act} {w : World} {Q : Exit → Act → World → Prop} (hg : o.guard = none) (x : Operand) (ho : o.op = .build 32 #[(19, x)]) (hx : a.eval x = .int .u8 1) (h : wpList Try.prog ops Q rest (a.put o.dst (.agg (aN 1))) w) : wpList Try.prog ops Q (o :: rest) a w := by
  refine wpList_plain hg fun K hK => ?_
  have hr := run_build_one w
  unfold Oper.wp
  simp [execOp, ho, hx, hr, Result.andThen]
  exact hK _ _ h
/-- A block of cells is no map. -/
theorem CacheAt.stay {Z : Hp} {w w' : World} {c : Cb} {kf : Nat → Option AV} {tf : Nat → Option Nat} {n b : Nat} {o : Obj} (_h : CacheAt Z w c kf tf n) (ht : Tch c.soft w w') (hb : w.heap[b]? = some o) (hn : ¬ c.soft b) : w'.heap[b]? = some o :=
  (ht.block b (Array.getElem?_eq_some_iff.1 hb).1 hn).trans hb
abbrev N0 : Nat → Option AV := fun _ => none
abbrev T0 : Nat → Option Nat := fun _ => none
abbrev Z0 : Hp := fun _ => none
theorem want_first {w : World} {c : Cb} {n : Nat} {t : Nat → Option Nat} (h : CacheAt Z0 w c N0 t n) (ht : t 1 = none) (hn : n < 1000000) : Calls Try.prog 11 #[.pointer (some ⟨c.cb, 0, none⟩), .agg (aN 1)] w fun e w' => e = .returned (.int .u8 3) ∧ CacheAt Z0 w' c N0 (at1 t 1 (some 0)) (n + 1) ∧ Tch c.soft w w' :=
  want_new h 1 (by decide) rfl (by rw [ht]; rfl) hn
set_option maxHeartbeats 2000000 in
theorem fixed_walk (w : World) : Calls Try.prog 8 #[] w fun e w' => e = .returned (.bool true) ∧ Below w.heap.size w w' := by
  have hs := aN_size 1
  have KN := Lib.hid (fnew_walk w)
  go_enter Try.func8, Try.ntmps8
  go_upto_region 2 with (go_at_call 7; refine KN.out.mono ?_; rintro e w1 ⟨c, rfl, hc, hcs, hb⟩; have HC := Lib.hid hc; have HS := Lib.hid hcs; have HB := Lib.hid hb; clear hc hcs hb)
  clear KN
  obtain ⟨W, hW⟩ : ∃ W, w1.alloc (.cells (aN 1) 32) = W := ⟨_, rfl⟩
  have F0 : Hid (W.heap[w1.heap.size]? = some (.cells (aN 1) 32)) := Lib.hid (hW ▸ heap_alloc_new _ _)
  have HW : Hid (Below w1.heap.size w1 W) := Lib.hid (hW ▸ (Below.refl _ _).alloc (Nat.le_refl _) _)
  have sn := store_newAd w1 1
  rw [hW] at sn
  go_upto_region 3 with (first
    | (refine wpList_build_one rfl _ rfl rfl ?_)
    | (refine wpList_alloc_row rfl 32 rfl _ zeroAd_run ?_))
  clear sn hW
  have HC0 := Lib.hid ((HC.out.below HW.out).drew)
  have hns : ¬ c.soft w1.heap.size := fun h => by have := HC.out.softlt h; omega
  have HNS := Lib.hid hns
  clear hns
  have KW := Lib.hid (want_first HC0.out rfl (by decide))
  have RA : Hid (∀ w' : World, w'.rangeAt w1.heap.size 0 (aN 1).toList → w'.rangeAt w1.heap.size 0 (aN 1).toList) := Lib.hid fun _ h => h
  have D0 : Hid (W.drew.rangeAt w1.heap.size 0 (aN 1).toList) := Lib.hid (adblk (w := W.drew) F0.out)
  refine wp_region_held_drew (S := fun w' => w'.rangeAt w1.heap.size 0 (aN 1).toList) (by kernel_rfl) D0.out (fun hHeld => ?_)
  refine wpAnyH_take (i := 0) (oi := ⟨_, _, _, _, _, _⟩) (v := ?_) rfl (by kernel_rfl) (by kernel_rfl) (by kernel_rfl) (fun _ _ _ h => h) (Or.inl ⟨by rfl, ?_⟩) (by assumption) ?_
  rotate_left
  · (intro w hSw; first | (go_simp; done) | (go_simp; with_reducible rfl))
  try simp only [Act.put, List.setIfInBounds_toArray, List.set_cons_zero, List.set_cons_succ]
  refine wpAnyH_take (i := 1) (oi := ⟨_, _, _, _, _, _⟩) rfl (by kernel_rfl) (by kernel_rfl) (by kernel_rfl) (fun _ _ _ h => h) (yieldsIf_load_mid (by rfl) 32 _ rfl w1.heap.size 0 rfl (aN 1).toList _ (RA.out) Try.underlying32 rfl (infoAd 1)) (by assumption) ?_
  try simp only [Act.put, List.setIfInBounds_toArray, List.set_cons_zero, List.set_cons_succ, Array.toArray_toList]
  refine wpAnyH_take (i := 3) (oi := ⟨_, _, _, _, _, _⟩) (v := ?_) rfl (by kernel_rfl) (by kernel_rfl) (by kernel_rfl) (fun _ _ _ h => h) (Or.inl ⟨by rfl, ?_⟩) (by assumption) ?_
  rotate_left
  · (intro w hSw; first | (go_simp; done) | (go_simp; with_reducible rfl))
  try simp only [Act.put, List.setIfInBounds_toArray, List.set_cons_zero, List.set_cons_succ]
  refine wpAnyH_take (i := 4) (oi := ⟨_, _, _, _, _, _⟩) rfl (by kernel_rfl) (by kernel_rfl) (by kernel_rfl) (fun _ _ _ h => h) (yieldsIf_load_mid (by rfl) 32 _ rfl w1.heap.size 0 rfl (aN 1).toList _ (RA.out) Try.underlying32 rfl (infoAd 1)) (by assumption) ?_
  try simp only [Act.put, List.setIfInBounds_toArray, List.set_cons_zero, List.set_cons_succ, Array.toArray_toList]
  refine wpAnyH_ready (rs := [2]) (by kernel_rfl) (by simp) ?_
  refine AllReadyH.cons (o := ⟨_, _, _, _, _, _⟩) rfl (fun K hK => ?_) AllReadyH.nil
  go_simp
  go_wp2_with (go_at_call 11; refine KW.out.mono ?_; rintro e w2 ⟨rfl, h2, t2⟩)
  have HC2 := Lib.hid h2
  have HT2 := Lib.hid t2
  have F2 := Lib.hid (HC0.out.stay t2 (show W.drew.heap[w1.heap.size]? = _ from F0.out) HNS.out)
  have D2 := Lib.hid (adblk F2.out)
  have KW2 := Lib.hid (want_asked HC2.out 1 (by decide) rfl rfl)
  clear h2 t2
  refine hK.out _ _ (D2.out) (fun hHeld => ?_)
  clear hK K
  try simp only [Act.put, List.setIfInBounds_toArray, List.set_cons_zero, List.set_cons_succ]
  refine wpAnyH_ready (rs := [5]) (by kernel_rfl) (by simp) ?_
  refine AllReadyH.cons (o := ⟨_, _, _, _, _, _⟩) rfl (fun K hK => ?_) AllReadyH.nil
  go_simp
  go_wp2_with (go_at_call 11; refine KW2.out.mono ?_; rintro e w3 ⟨rfl, b3⟩)
  have HC3 := Lib.hid (HC2.out.below b3)
  have HT3 : Hid (Below w.heap.size w w3) := Lib.hid (((HB.out.trans (HW.out.mono HB.out.size)).drew.trans (HT2.out.below (Nat.le_trans HB.out.size HW.out.size) HS.out)).trans (b3.mono (Nat.le_trans (Nat.le_trans HB.out.size HW.out.size) HT2.out.size)))
  have F3 := Lib.hid (stay b3 F2.out)
  have D3 := Lib.hid (adblk F3.out)
  clear b3
  refine hK.out _ _ (D3.out) (fun hHeld => ?_)
  clear hK K
  try simp only [Act.put, List.setIfInBounds_toArray, List.set_cons_zero, List.set_cons_succ]
  refine wpAnyH_take (i := 6) (oi := ⟨_, _, _, _, _, _⟩) (v := ?_) rfl (by kernel_rfl) (by kernel_rfl) (by kernel_rfl) (fun _ _ _ h => h) (Or.inl ⟨by rfl, ?_⟩) (by assumption) ?_
  rotate_left
  · (intro w hSw; first | (go_simp; done) | (go_simp; with_reducible rfl))
  try simp only [Act.put, List.setIfInBounds_toArray, List.set_cons_zero, List.set_cons_succ]
  refine wpAnyH_take (i := 7) (oi := ⟨_, _, _, _, _, _⟩) (v := ?_) rfl (by kernel_rfl) (by kernel_rfl) (by kernel_rfl) (fun _ _ _ h => h) (Or.inl ⟨by rfl, ?_⟩) (by assumption) ?_
  rotate_left
  · (intro w hSw; first | (go_simp; done) | (go_simp; with_reducible rfl))
  try simp only [Act.put, List.setIfInBounds_toArray, List.set_cons_zero, List.set_cons_succ]
  refine wpAnyH_done (by kernel_rfl) ?_ _
  clear RA D0 D2 D3 KW KW2 hHeld HC2 HC0 HT2 F2 F0
  go_wp2_with fail
  go_loopw [13] (fun i wr => ∃ k : Nat, k ≤ 7 ∧ i = .int .i64 k ∧ Hid (CacheAt Z0 wr c N0 (at1 T0 1 (some k)) (1 + k)) ∧ Hid (wr.heap[w1.heap.size]? = some (.cells (aN 1) 32)) ∧ Hid (Below w.heap.size w wr)) (fun i _ => 7 - (intOf i).toNat)
  case atStart => exact ⟨0, by omega, rfl, HC3, F3, HT3⟩
  case round =>
    obtain ⟨k, hk, rfl, HK, FK, HBk⟩ := hrel
    have rk := adblk FK.out
    by_cases hlt : k < 7
    · have KFl := Lib.hid (fail_again HK.out 1 (by decide) k rfl (by omega) (by omega))
      go_wp2_with (first
        | (refine wpList_load_mid rfl 32 _ rfl w1.heap.size 0 rfl (aN 1).toList _ rk Try.underlying32 rfl (infoAd 1) ?_; simp only [Array.toArray_toList])
        | (go_at_call 15; refine KFl.out.mono ?_; rintro e w4 ⟨rfl, h4, t4⟩; rw [at1_at1] at h4; have HC4 := Lib.hid h4; have F4 := Lib.hid (HK.out.stay t4 FK.out HNS.out); have HB4 := Lib.hid (HBk.out.trans (t4.below HBk.out.size HS.out)); clear h4 t4))
      exact ⟨⟨k + 1, by omega, by go_num, HC4, F4, HB4⟩, by simp [intOf]; omega⟩
    · obtain rfl : k = 7 := by omega
      have KFl := Lib.hid (fail_lost HK.out 1 (by decide) 7 rfl (by omega) (by omega) (by omega))
      go_wp2_with (first
        | (refine load_midG (by rfl) 32 _ rfl w1.heap.size 0 rfl (aN 1).toList _ rk Try.underlying32 rfl (infoAd 1) ?_; simp only [Array.toArray_toList])
        | (go_at_call 15; refine KFl.out.mono ?_; rintro e w4 ⟨rfl, h4, t4⟩; rw [at1_at1] at h4; have HC4 := Lib.hid h4; have F4 := Lib.hid (HK.out.stay t4 FK.out HNS.out); have rk := adblk F4.out; have HB4 := Lib.hid (HBk.out.trans (t4.below HBk.out.size HS.out)); have KWl := Lib.hid (want_first HC4.out (by simp [at1]) (by decide)); clear h4 t4)
        | (go_at_call 11; refine KWl.out.mono ?_; rintro e w5 ⟨rfl, h5, t5⟩; have HB5 := Lib.hid (HB4.out.trans (t5.below HB4.out.size HS.out)); clear h5 t5))
      go_ret
      exact ⟨rfl, HB5.out⟩
end Go.Proofs.Ytdgenbidgieojaa
/- A nil cache: the statement ForkNil walked. -/
namespace Go.Proofs.Ytdgenbidgieojaa
open Go.RowKit SmWord Go.Maps
set_option maxRecDepth 100000

theorem small_accs {Z : Hp} {v : Value} {l : List AV} (h : AccsB Z v l) (hg : greatL l = false) : AccsZ Z v l ∧ l.length ≤ 50 := by
  unfold greatL at hg
  rw [Bool.or_eq_false_iff, decide_eq_false_iff_not, List.any_eq_false] at hg
  refine ⟨⟨h.row, fun x hx => ?_⟩, by omega⟩
  have := hg.2 x hx
  unfold greatA at this
  simp at this
  exact (h.each x hx).small (by omega) (by omega)
theorem list27 {l : Array Value} (h : l.size = 27) : ∃ x0 x1 x2 x3 x4 x5 x6 x7 x8 x9 x10 x11 x12 x13 x14 x15 x16 x17 x18 x19 x20 x21 x22 x23 x24 x25 x26, l = #[x0, x1, x2, x3, x4, x5, x6, x7, x8, x9, x10, x11, x12, x13, x14, x15, x16, x17, x18, x19, x20, x21, x22, x23, x24, x25, x26] := by
  obtain ⟨l⟩ := l
  simp at h
  obtain _ | ⟨x0, l⟩ := l; · simp at h
  obtain _ | ⟨x1, l⟩ := l; · simp at h
  obtain _ | ⟨x2, l⟩ := l; · simp at h
  obtain _ | ⟨x3, l⟩ := l; · simp at h
  obtain _ | ⟨x4, l⟩ := l; · simp at h
  obtain _ | ⟨x5, l⟩ := l; · simp at h
  obtain _ | ⟨x6, l⟩ := l; · simp at h
  obtain _ | ⟨x7, l⟩ := l; · simp at h
  obtain _ | ⟨x8, l⟩ := l; · simp at h
  obtain _ | ⟨x9, l⟩ := l; · simp at h
  obtain _ | ⟨x10, l⟩ := l; · simp at h
  obtain _ | ⟨x11, l⟩ := l; · simp at h
  obtain _ | ⟨x12, l⟩ := l; · simp at h
  obtain _ | ⟨x13, l⟩ := l; · simp at h
  obtain _ | ⟨x14, l⟩ := l; · simp at h
  obtain _ | ⟨x15, l⟩ := l; · simp at h
  obtain _ | ⟨x16, l⟩ := l; · simp at h
  obtain _ | ⟨x17, l⟩ := l; · simp at h
  obtain _ | ⟨x18, l⟩ := l; · simp at h
  obtain _ | ⟨x19, l⟩ := l; · simp at h
  obtain _ | ⟨x20, l⟩ := l; · simp at h
  obtain _ | ⟨x21, l⟩ := l; · simp at h
  obtain _ | ⟨x22, l⟩ := l; · simp at h
  obtain _ | ⟨x23, l⟩ := l; · simp at h
  obtain _ | ⟨x24, l⟩ := l; · simp at h
  obtain _ | ⟨x25, l⟩ := l; · simp at h
  obtain _ | ⟨x26, l⟩ := l; · simp at h
  obtain rfl : l = [] := by simpa using h
  exact ⟨_, _, _, _, _, _, _, _, _, _, _, _, _, _, _, _, _, _, _, _, _, _, _, _, _, _, _, rfl⟩
theorem run_bslice27 (x0 x1 x2 x3 x4 x5 x6 x7 x8 x9 x10 x11 x12 x13 x14 x15 x16 x17 x18 x19 x20 x21 x22 x23 x24 x25 x26 : Value) (w : World) : (Instr.buildSlice 25 1 #[(0, .agg #[x0, x1, x2, x3, x4, x5, x6, x7, x8, x9, x10, x11, x12, x13, x14, x15, x16, x17, x18, x19, x20, x21, x22, x23, x24, x25, x26])]).run Try.prog w = .ok (.slice (some ⟨w.heap.size, 0, none⟩) 1 1) (w.alloc (.cells #[x0, x1, x2, x3, x4, x5, x6, x7, x8, x9, x10, x11, x12, x13, x14, x15, x16, x17, x18, x19, x20, x21, x22, x23, x24, x25, x26] 39)) := by kernel_rfl
theorem run_bslice_acc (x : AV) (w : World) : (Instr.buildSlice 25 1 #[(0, .agg (acs x).toArray)]).run Try.prog w = .ok (.slice (some ⟨w.heap.size, 0, none⟩) 1 1) (w.alloc (.cells (acs x).toArray 39)) := by
  obtain ⟨x0, x1, x2, x3, x4, x5, x6, x7, x8, x9, x10, x11, x12, x13, x14, x15, x16, x17, x18, x19, x20, x21, x22, x23, x24, x25, x26, e⟩ := list27 (l := (acs x).toArray) (by simp [acs_len])
  rw [e]
  exact run_bslice27 x0 x1 x2 x3 x4 x5 x6 x7 x8 x9 x10 x11 x12 x13 x14 x15 x16 x17 x18 x19 x20 x21 x22 x23 x24 x25 x26 w
theorem wpList_bslice_acc {ops : Array Oper} {rest : List Oper} {o : Oper} {a : Act} {w : World} {Q : Exit → Act → World → Prop} (hw : Region.wanted o (yielded ops a.tmps) = true) (t : Operand) (ho : o.op = .buildSlice 25 1 #[(0, t)]) (x : AV) (hx : a.eval t = .agg (acs x).toArray) (h : wpList Try.prog ops Q rest (a.put o.dst (.slice (some ⟨w.heap.size, 0, none⟩) 1 1)) (w.alloc (.cells (acs x).toArray 39))) : wpList Try.prog ops Q (o :: rest) a w :=
  wpList_step fun K hK => by
    have hr := run_bslice_acc x w
    simp only [hw, if_true]
    unfold Oper.wp
    simp [execOp, ho, hx, hr, Result.andThen]
    exact hK _ _ h
theorem wpList_buildAdG {ops : Array Oper} {rest : List Oper} {o : Oper} {a : Act} {w : World} {Q : Exit → Act → World → Prop} (hw : Region.wanted o (yielded ops a.tmps) = true) (x : Operand) (ho : o.op = .build 39 #[(0, x)]) (A : Nat) (hx : a.eval x = .agg (aN A)) (h : wpList Try.prog ops Q rest (a.put o.dst (.agg (acs (bareAV A)).toArray)) w) : wpList Try.prog ops Q (o :: rest) a w :=
  wpList_step fun K hK => by
    have hr := run_build_ad A w
    rw [← bare_cells A] at hr
    simp only [hw, if_true]
    unfold Oper.wp
    simp [execOp, ho, hx, hr, Result.andThen]
    exact hK _ _ h
/-- One account as a row. -/
theorem oneB {w : World} {x : AV} (h : AccB (hp w) x) : AccsB (hp (w.alloc (.cells (acs x).toArray 39))) (.slice (some ⟨w.heap.size, 0, none⟩) 1 1) [x] :=
  ⟨by have := rowOne (heap_alloc_new w (.cells (acs x).toArray 39)); simpa using this, fun y hy => by
    rw [List.mem_singleton] at hy
    rw [hy]
    exact h.sub (hp_below ((Below.refl _ _).alloc (Nat.le_refl _) _))⟩
theorem AccB.ones {Z : Hp} {x : AV} (h : AccB Z x) : (acs x).toArray.all (·.oneCell') = true := all_oneCell_toArray (oneA x h.cod.oneCell h.sto.oneCell)
set_option maxHeartbeats 2000000 in
theorem nil_law (x : AV) (w : World) (h : AccB (hp w) x) : Calls Try.prog 6 #[aval x] w fun e w' => e = .returned (.bool true) ∧ Below w.heap.size w w' := by
  unfold aval
  have hs := aN_size x.a.ad
  have hn : (acs x).toArray.size = 27 := by simp [acs_len]
  have hnn : (acs noneAV).toArray.size = 27 := by simp [acs_len]
  have h1 := h.ones
  obtain ⟨W, hW⟩ : ∃ W, w.alloc (.cells (acs x).toArray 39) = W := ⟨_, rfl⟩
  have F0 : Hid (W.heap[w.heap.size]? = some (.cells (acs x).toArray 39)) := Lib.hid (hW ▸ heap_alloc_new _ _)
  have HB : Hid (Below w.heap.size w W) := Lib.hid (hW ▸ (Below.refl _ _).alloc (Nat.le_refl _) _)
  have HX := Lib.hid (h.sub (hp_below HB.out))
  have r0 := (rng_block F0.out).at
  have KG := Lib.hid (great_walk _ [x] _ (oneB HX.out))
  have KFx := Lib.hid fixed_walk
  clear h
  go_enter Try.func6, Try.ntmps6
  go_upto_region 1 with fail
  clear hW
  cases hg : greatL [x]
  · rw [hg] at KG
    have hxz : AccZ (hp W) x := by
      unfold greatL at hg
      rw [Bool.or_eq_false_iff, decide_eq_false_iff_not, List.any_eq_false] at hg
      have := hg.2 x (by simp)
      unfold greatA at this
      simp at this
      exact HX.out.small (by omega) (by omega)
    have HXz := Lib.hid hxz
    clear hxz hg
    go_upto_region 4 with (first
      | (refine wpList_load_mid rfl 39 _ rfl w.heap.size 0 rfl (acs x) _ r0 Try.underlying39 rfl (infoAcs _) ?_)
      | (refine wpList_bslice_acc (by rfl) _ rfl x rfl ?_)
      | (go_at_call 24; refine KG.out.mono ?_; rintro e w1 ⟨rfl, rfl⟩))
    have bW2 : Below W.heap.size W (W.alloc (.cells (acs x).toArray 39)) := (Below.refl _ _).alloc (Nat.le_refl _) _
    have HB2 := Lib.hid (HB.out.trans (bW2.mono HB.out.size))
    have F02 := Lib.hid (stay bW2 F0.out)
    have HX2 := Lib.hid (HXz.out.sub (hp_below bW2))
    clear KG bW2
    generalize W.alloc (.cells (acs x).toArray 39) = W2 at *
    have r2 := (boxcells F02.out).2.2.2.2
    have KA := Lib.hid (account_nil x.a.ad HX2.out.ad W2)
    go_upto_region 5 with (first
      | (refine wpList_load_mid rfl 32 _ rfl w.heap.size 0 rfl (aN x.a.ad).toList _ r2 Try.underlying32 rfl (infoAd _) ?_; simp only [Array.toArray_toList])
      | (go_at_call 16
         refine KA.out.mono ?_
         rintro e w3 ⟨y, rfl, hya, hy, b3⟩
         have HYa := Lib.hid hya
         have HY3 := Lib.hid (hy.sub (fr_sub _ _))
         have one := hy.ones
         have hyn : (acs y).toArray.size = 27 := by simp [acs_len]
         have HB3 := Lib.hid (HB2.out.trans (b3.mono HB2.out.size))
         have F03 := Lib.hid (stay b3 F02.out)
         have HX3 := Lib.hid (HX2.out.sub (hp_below b3))
         have FN := Lib.hid (heap_alloc_new w3 (.cells (acs noneAV).toArray 39))
         unfold aval
         clear hya hy b3)
      | (refine wpList_alloc_row rfl 39 rfl _ zeroAcc ?_)
      | (refine wpList_store_row rfl 39 _ _ rfl w3.heap.size _ (acs y).toArray rfl rfl FN.out (by simpa using infoAcs _) (by simp [acs_len]) one ?_))
    have b4 : Below w3.heap.size w3 ((w3.alloc (.cells (acs noneAV).toArray 39)).setRow w3.heap.size (acs y).toArray) := below_setRow ((Below.refl _ _).alloc (Nat.le_refl _) _) (Nat.le_refl _) _
    have HB5 := Lib.hid (HB3.out.trans (b4.mono HB3.out.size))
    have F05 := Lib.hid (stay b4 F03.out)
    have FY5 : Hid (((w3.alloc (.cells (acs noneAV).toArray 39)).setRow w3.heap.size (acs y).toArray).heap[w3.heap.size]? = _) := Lib.hid (blk_row FN.out)
    have HX5 := Lib.hid (HX3.out.sub (hp_below b4))
    have HY5 := Lib.hid (HY3.out.sub (hp_below b4))
    have HAd := Lib.hid HX5.out.ad
    clear b4 F03 FN HX3 HY3 HB3 r2 KA HX2 F02 HB2 r0 F0 HX HXz HB
    generalize (w3.alloc (.cells (acs noneAV).toArray 39)).setRow w3.heap.size (acs y).toArray = w5 at *
    generalize w3.heap.size = yb at *
    have ra5 := (boxcells F05.out).2.2.2.2
    have rx5 := (rng_block F05.out).at
    have ry5 := (rng_block FY5.out).at
    have KS := Lib.hid (fun w' (hy : AccZ (hp w') y) => same_walk y (bareAV x.a.ad) w' HYa.out.symm hy (bareZ _ HAd.out))
    have KW := Lib.hid (want_nil x.a.ad)
    have KFl := Lib.hid (fun w' (hx : AccZ (hp w') x) => fill_nil x w' hx)
    have KFa := Lib.hid (fail_nil x.a.ad)
    have KT := Lib.hid (tries_nil x.a.ad)
    have KK := Lib.hid known_nil
    have KFe := Lib.hid fetched_nil
    unfold aval at KS KFl
    have hbn : (acs (bareAV x.a.ad)).toArray.size = 27 := by simp [acs_len]
    go_wp2_with (first
      | (refine load_midG (by rfl) 32 _ rfl w.heap.size 0 rfl ((aN x.a.ad).toList) _ ra5 Try.underlying32 rfl (infoAd _) ?_; simp only [Array.toArray_toList])
      | (refine load_midG (by rfl) 39 _ rfl w.heap.size 0 rfl (acs x) _ rx5 Try.underlying39 rfl (infoAcs _) ?_)
      | (refine load_midG (by rfl) 39 _ rfl yb 0 rfl (acs y) _ ry5 Try.underlying39 rfl (infoAcs _) ?_)
      | (refine wpList_buildAdG (by rfl) _ rfl x.a.ad rfl ?_)
      | (go_at_call 8; refine (KFx.out _).mono ?_; rintro e w6 ⟨rfl, b6⟩; replace HB5 := Lib.hid (HB5.out.trans (b6.mono HB5.out.size)); replace F05 := Lib.hid (stay b6 F05.out); replace FY5 := Lib.hid (stay b6 FY5.out); replace HX5 := Lib.hid (HX5.out.sub (hp_below b6)); replace HY5 := Lib.hid (HY5.out.sub (hp_below b6)); have ra5 := (boxcells F05.out).2.2.2.2; have rx5 := (rng_block F05.out).at; have ry5 := (rng_block FY5.out).at; clear b6)
      | (go_at_call 19; refine (KS.out _ HY5.out).mono ?_; rintro e w6 ⟨rfl, b6⟩; replace HB5 := Lib.hid (HB5.out.trans (b6.mono HB5.out.size)); replace F05 := Lib.hid (stay b6 F05.out); replace FY5 := Lib.hid (stay b6 FY5.out); replace HX5 := Lib.hid (HX5.out.sub (hp_below b6)); replace HY5 := Lib.hid (HY5.out.sub (hp_below b6)); have ra5 := (boxcells F05.out).2.2.2.2; have rx5 := (rng_block F05.out).at; have ry5 := (rng_block FY5.out).at; clear b6)
      | (go_at_call 11; refine (KW.out _).mono ?_; rintro e w6 ⟨rfl, b6⟩; replace HB5 := Lib.hid (HB5.out.trans (b6.mono HB5.out.size)); replace F05 := Lib.hid (stay b6 F05.out); replace FY5 := Lib.hid (stay b6 FY5.out); replace HX5 := Lib.hid (HX5.out.sub (hp_below b6)); replace HY5 := Lib.hid (HY5.out.sub (hp_below b6)); have ra5 := (boxcells F05.out).2.2.2.2; have rx5 := (rng_block F05.out).at; have ry5 := (rng_block FY5.out).at; clear b6)
      | (go_at_call 13; refine (KFl.out _ HX5.out).mono ?_; rintro e w6 ⟨rfl, b6⟩; replace HB5 := Lib.hid (HB5.out.trans (b6.mono HB5.out.size)); replace F05 := Lib.hid (stay b6 F05.out); replace FY5 := Lib.hid (stay b6 FY5.out); replace HX5 := Lib.hid (HX5.out.sub (hp_below b6)); replace HY5 := Lib.hid (HY5.out.sub (hp_below b6)); have ra5 := (boxcells F05.out).2.2.2.2; have rx5 := (rng_block F05.out).at; have ry5 := (rng_block FY5.out).at; clear b6)
      | (go_at_call 15; refine (KFa.out _).mono ?_; rintro e w6 ⟨rfl, b6⟩; replace HB5 := Lib.hid (HB5.out.trans (b6.mono HB5.out.size)); replace F05 := Lib.hid (stay b6 F05.out); replace FY5 := Lib.hid (stay b6 FY5.out); replace HX5 := Lib.hid (HX5.out.sub (hp_below b6)); replace HY5 := Lib.hid (HY5.out.sub (hp_below b6)); have ra5 := (boxcells F05.out).2.2.2.2; have rx5 := (rng_block F05.out).at; have ry5 := (rng_block FY5.out).at; clear b6)
      | (go_at_call 20; refine (KT.out _).mono ?_; rintro e w6 ⟨rfl, b6⟩; replace HB5 := Lib.hid (HB5.out.trans (b6.mono HB5.out.size)); replace F05 := Lib.hid (stay b6 F05.out); replace FY5 := Lib.hid (stay b6 FY5.out); replace HX5 := Lib.hid (HX5.out.sub (hp_below b6)); replace HY5 := Lib.hid (HY5.out.sub (hp_below b6)); have ra5 := (boxcells F05.out).2.2.2.2; have rx5 := (rng_block F05.out).at; have ry5 := (rng_block FY5.out).at; clear b6)
      | (go_at_call 21; refine (KK.out _).mono ?_; rintro e w6 ⟨rfl, rfl⟩)
      | (go_at_call 22; refine (KFe.out _).mono ?_; rintro e w6 ⟨rfl, rfl⟩))
    go_ret
    exact ⟨rfl, HB5.out⟩
  · rw [hg] at KG
    go_wp2_with (first
      | (refine wpList_load_mid rfl 39 _ rfl w.heap.size 0 rfl (acs x) _ r0 Try.underlying39 rfl (infoAcs _) ?_)
      | (refine wpList_bslice_acc (by rfl) _ rfl x rfl ?_)
      | (go_at_call 24; refine KG.out.mono ?_; rintro e w1 ⟨rfl, rfl⟩)
      | (go_at_call 8; refine (KFx.out _).mono ?_; rintro e w2 ⟨rfl, b2⟩; have HB2 := Lib.hid (HB.out.trans ((((Below.refl _ _).alloc (Nat.le_refl _) _).trans (b2.mono (by simp))).mono HB.out.size)); clear b2))
    go_ret
    exact ⟨rfl, HB2.out⟩
end Go.Proofs.Ytdgenbidgieojaa
/- The arguments of layer 15's statements. -/
namespace Go.Proofs.Ytdgenbidgieojaa
open Go.ChangeShapes Go.WideShapes Go.ChangeAt Go.RowKit SmWord
set_option maxRecDepth 100000

/-- A call: its kind, an account. -/
structure FO where
  kind : Int
  x : AV
instance : Inhabited FO := ⟨⟨0, default⟩⟩
def fcs (o : FO) : List Value := .int .i64 o.kind :: acs o.x
theorem fcs_len (o : FO) : (fcs o).length = 28 := by simp [fcs, acs_len]
theorem cellsFO : Try.prog.cellsOf 41 = 28 := by kernel_rfl
theorem cellsI1' : Try.prog.cellsOf 3 = 1 := by kernel_rfl
theorem cellsAd20 : Try.prog.cellsOf 32 = 20 := by kernel_rfl
section
variable {H : Type} {enc : TypeId × Value → H} {W : World} {base : Nat} {v : Value} {d : DataW H} {p : List MemPlace}
theorem open_fo {fuel : Nat} {cs : List Value} {y : DataW H × List MemPlace} (hl : cs.length = 28) (hf : DataW.trod enc Try.prog W 0 (fun _ => true) true fuel 41 cs = some y) : ∃ o : FO, cs = fcs o ∧ AccB (hp W) o.x := by
  obtain ⟨ys, n', _, _, hlen, hys, hg⟩ := DataW.trod_struct Try.underlying41 hf
  have hys2 : ys.length = 2 := hys
  match cs, hl with
  | c0 :: cs, hl =>
    have hl' : cs.length = 27 := by simpa using hl
    have g0 : DataW.trod enc Try.prog W 0 (fun _ => true) true n' 3 (((c0 :: cs).drop 0).take (Try.prog.cellsOf 3)) = ys[0]? := hg 0 _ rfl
    have g1 : DataW.trod enc Try.prog W 0 (fun _ => true) true n' 39 (((c0 :: cs).drop 1).take (Try.prog.cellsOf 39)) = ys[1]? := hg 1 _ rfl
    rw [cellsI1'] at g0
    rw [cellsAcc] at g1
    rw [List.getElem?_eq_getElem (by omega)] at g0 g1
    obtain ⟨z, e0, _, _⟩ := DataW.trod_int Try.underlying3 g0
    have e1 : ((c0 :: cs).drop 1).take 27 = cs := by simp [List.take_of_length_le (by omega : cs.length ≤ 27)]
    rw [e1] at g1
    obtain ⟨x, ex, hx⟩ := open_acc27 hl' g1
    simp at e0
    subst e0
    exact ⟨⟨z, x⟩, by rw [ex]; rfl, hx⟩
theorem open_fos (hv : Value.okWide Try.prog W .any base 22 v) (h : DataW.Trod enc Try.prog W 0 (fun _ => true) true 22 v d p) : ∃ l : List FO, RowZ (hp W) v l.length 28 (l.flatMap fcs) ∧ ∀ o ∈ l, AccB (hp W) o.x := by
  obtain ⟨a0, len0, cap0, rfl⟩ := okWide_slice Try.underlying22 hv
  obtain ⟨fuel, hf⟩ := h
  exact open_rows default fcs (fun o => AccB (hp W) o.x) Try.underlying22 cellsFO (by decide) fcs_len (fun fuel cs y hl hf => open_fo hl hf) hf
theorem open_accs15 (hv : Value.okWide Try.prog W .any base 25 v) (h : DataW.Trod enc Try.prog W 0 (fun _ => true) true 25 v d p) : ∃ l : List AV, AccsB (hp W) v l := by
  obtain ⟨a0, len0, cap0, rfl⟩ := okWide_slice Try.underlying25 hv
  obtain ⟨fuel, hf⟩ := h
  exact open_accs hf
theorem open_addrs (hv : Value.okWide Try.prog W .any base 55 v) (h : DataW.Trod enc Try.prog W 0 (fun _ => true) true 55 v d p) : ∃ l : List Nat, RowZ (hp W) v l.length 20 (l.flatMap ecs) ∧ ∀ A ∈ l, A < 2 ^ 160 := by
  obtain ⟨a0, len0, cap0, rfl⟩ := okWide_slice Try.underlying55 hv
  obtain ⟨fuel, hf⟩ := h
  exact open_rows 0 ecs (fun A => A < 2 ^ 160) Try.underlying55 cellsAd20 (by decide) ecs_len (fun fuel cs y hl hf => open_a20 hl hf) hf
theorem open_bytes15 (hv : Value.okWide Try.prog W .any base 36 v) (h : DataW.Trod enc Try.prog W 0 (fun _ => true) true 36 v d p) : ∃ l : List Nat, RowZ (hp W) v l.length 1 (l.map u8v) ∧ ∀ c ∈ l, c < 256 := by
  obtain ⟨a0, len0, cap0, rfl⟩ := okWide_slice Try.underlying36 hv
  obtain ⟨fuel, hf⟩ := h
  exact open_code hf
end
end Go.Proofs.Ytdgenbidgieojaa
