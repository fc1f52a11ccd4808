/- Stage 17: the statement AluAlike, walked. -/
import Derived.Test.YtdpbjdecbilaeaaGb
import Derived.Test.YtdpbjdecbilaeaaG3
import Derived.BigQuiet
namespace Go.Proofs.Ytdpbjdecbilaeaa
open Go.RowKit SmWord
set_option maxRecDepth 100000

theorem wd_small' {n : Nat} (hn : n < B) : wa n = #[.int .u64 (n : Int), .int .u64 0, .int .u64 0, .int .u64 0] := by
  have := wd_num (a := n) (b := 0) (c := 0) (d := 0) hn (by decide) (by decide) (by decide)
  have h2 : wd n = .agg #[.int .u64 (n : Int), .int .u64 0, .int .u64 0, .int .u64 0] := by simpa [num] using this
  unfold wd at h2
  injection h2
theorem qboxes (w : World) (a b : Nat) : ∃ W, ((w.alloc (.cells (wa a) 24)).alloc (.cells (wa b) 24)).alloc (.cells (wa 0) 24) = W ∧ W.heap[w.heap.size]? = some (.cells (wa a) 24) ∧ W.heap[w.heap.size + 1]? = some (.cells (wa b) 24) ∧ W.heap[w.heap.size + 2]? = some (.cells (wa 0) 24) ∧ Below w.heap.size w W ∧ w.heap.size + 3 ≤ W.heap.size :=
  ⟨_, rfl, blk_alloc (blk_alloc (blk_new _ rfl)), blk_alloc (blk_new _ (by simp)), blk_new _ (by simp), (((Below.refl _ _).alloc (Nat.le_refl _) _).alloc (by simp) _).alloc (by simp; omega) _, by simp⟩
set_option maxHeartbeats 4000000 in
theorem dol_walk (op : Int) (a b v : Nat) (k : Bool) (w : World) (H : Hid (∀ w : World, Calls Try.prog 5 #[.int .u8 op, wd a, wd b, .agg #[.int .u64 0, .int .u64 0, .int .u64 0, .int .u64 0]] w fun e w' => e = .returned (.tuple #[wd v, .bool k]) ∧ Below w.heap.size w w')) : Calls Try.prog 8 #[.int .u8 op, wd a, wd b] w fun e w' => e = .returned (wd v) ∧ Below w.heap.size w w' := by
  obtain ⟨W, hW, f0, f1, f2, bW, sW⟩ := qboxes w a b
  have hz := z4_wa
  have hsz := wa_size
  go_enter Try.func8, Try.ntmps8
  go_upto_region 1 with fail
  try rw [hW]
  clear hW
  have hzz : (.agg #[.int .u64 0, .int .u64 0, .int .u64 0, .int .u64 0] : Value) = .agg (wa 0) := rfl
  rw [hzz] at H
  go_upto_region 2 with (first | (refine wpList_load_row rfl 24 _ rfl _ rfl 24 _ (0, 0) _ (by assumption) Try.underlying24 rfl Try.infoWa ?_) | (go_at_call 5; refine (H.out _).mono ?_; rintro e w1 ⟨rfl, b1⟩; replace f2 := Below.stays b1 f2; replace sW := Nat.le_trans sW b1.size; replace bW := bW.trans (b1.mono bW.size); clear b1) | (refine wpList_store_row rfl 24 (.tmp 7) _ rfl _ _ (wa v) rfl rfl (heap_alloc_new _ _) Try.infoWa rfl wa_one ?_))
  clear f0 f1
  try simp only [Act.put]
  rw [World.setRow_alloc_new]
  replace f2 := blk_alloc (o' := .cells (wa v) 24) f2
  have f7 : (w1.alloc (.cells (wa v) 24)).heap[w1.heap.size]? = some (.cells (wa v) 24) := heap_alloc_new _ _
  replace bW : Below w.heap.size w (w1.alloc (.cells (wa v) 24)) := bW.alloc bW.size _
  generalize (w1.alloc (.cells (wa v) 24)) = w2 at *
  generalize w1.heap.size = p7 at *
  go_wp2_with (first | (refine wpList_load_row rfl 24 _ rfl _ rfl 24 _ (0, 0) _ f7 Try.underlying24 rfl Try.infoWa ?_) | (refine wpList_store_row rfl 24 (.tmp 6) _ rfl _ _ (wa v) rfl rfl f2 Try.infoWa rfl wa_one ?_))
  have e2 := word_cells (blk_row (c' := wa v) f2)
  exact bodyPost_ret (v := wd v) (by simp [results, Try.results8, go_sem, e2, fold_wa]) rfl ⟨rfl, below_setRow bW (by omega) _⟩
theorem dol_1 (a b : Nat) (w : World) : Calls Try.prog 8 #[.int .u8 1, wd a, wd b] w fun e w' => e = .returned (wd (a + b)) ∧ Below w.heap.size w w' := dol_walk 1 a b _ _ w (Lib.hid fun w => do_1 a b 0 w)
theorem dol_2 (a b : Nat) (w : World) : Calls Try.prog 8 #[.int .u8 2, wd a, wd b] w fun e w' => e = .returned (wd (a * b)) ∧ Below w.heap.size w w' := dol_walk 2 a b _ _ w (Lib.hid fun w => do_2 a b 0 w)
theorem dol_3 (a b : Nat) (w : World) : Calls Try.prog 8 #[.int .u8 3, wd a, wd b] w fun e w' => e = .returned (wd (a + (M - 1 - b % M + 1))) ∧ Below w.heap.size w w' := dol_walk 3 a b _ _ w (Lib.hid fun w => do_3 a b 0 w)
theorem dol_4 (a b : Nat) (w : World) : Calls Try.prog 8 #[.int .u8 4, wd a, wd b] w fun e w' => e = .returned (wd (a % M / (b % M))) ∧ Below w.heap.size w w' := dol_walk 4 a b _ _ w (Lib.hid fun w => do_4 a b 0 w)
theorem dol_5 (a b : Nat) (w : World) : Calls Try.prog 8 #[.int .u8 5, wd a, wd b] w fun e w' => e = .returned (wd (sq a b)) ∧ Below w.heap.size w w' := dol_walk 5 a b _ _ w (Lib.hid fun w => do_5 a b 0 w)
theorem dol_6 (a b : Nat) (w : World) : Calls Try.prog 8 #[.int .u8 6, wd a, wd b] w fun e w' => e = .returned (wd (rs (a % M) (b % M))) ∧ Below w.heap.size w w' := dol_walk 6 a b _ _ w (Lib.hid fun w => do_6 a b 0 w)
theorem dol_7 (a b : Nat) (w : World) : Calls Try.prog 8 #[.int .u8 7, wd a, wd b] w fun e w' => e = .returned (wd (sr a b)) ∧ Below w.heap.size w w' := dol_walk 7 a b _ _ w (Lib.hid fun w => do_7 a b 0 w)
theorem dol_10 (a b : Nat) (w : World) : Calls Try.prog 8 #[.int .u8 10, wd a, wd b] w fun e w' => e = .returned (wd (a ^ (b % M))) ∧ Below w.heap.size w w' := dol_walk 10 a b _ _ w (Lib.hid fun w => do_10 a b 0 w)
theorem dol_11 (a b : Nat) (w : World) : Calls Try.prog 8 #[.int .u8 11, wd a, wd b] w fun e w' => e = .returned (wd (exn a b)) ∧ Below w.heap.size w w' := dol_walk 11 a b _ _ w (Lib.hid fun w => do_11 a b 0 w)
theorem dol_16 (a b : Nat) (w : World) : Calls Try.prog 8 #[.int .u8 16, wd a, wd b] w fun e w' => e = .returned (wd (fl (decide (a % M < b % M)))) ∧ Below w.heap.size w w' := dol_walk 16 a b _ _ w (Lib.hid fun w => do_16 a b 0 w)
theorem dol_17 (a b : Nat) (w : World) : Calls Try.prog 8 #[.int .u8 17, wd a, wd b] w fun e w' => e = .returned (wd (fl (decide (b % M < a % M)))) ∧ Below w.heap.size w w' := dol_walk 17 a b _ _ w (Lib.hid fun w => do_17 a b 0 w)
theorem dol_18 (a b : Nat) (w : World) : Calls Try.prog 8 #[.int .u8 18, wd a, wd b] w fun e w' => e = .returned (wd (fl (sless a b))) ∧ Below w.heap.size w w' := dol_walk 18 a b _ _ w (Lib.hid fun w => do_18 a b 0 w)
theorem dol_19 (a b : Nat) (w : World) : Calls Try.prog 8 #[.int .u8 19, wd a, wd b] w fun e w' => e = .returned (wd (fl (sless b a))) ∧ Below w.heap.size w w' := dol_walk 19 a b _ _ w (Lib.hid fun w => do_19 a b 0 w)
theorem dol_20 (a b : Nat) (w : World) : Calls Try.prog 8 #[.int .u8 20, wd a, wd b] w fun e w' => e = .returned (wd (fl (decide (a % M = b % M)))) ∧ Below w.heap.size w w' := dol_walk 20 a b _ _ w (Lib.hid fun w => do_20 a b 0 w)
theorem dol_21 (a b : Nat) (w : World) : Calls Try.prog 8 #[.int .u8 21, wd a, wd b] w fun e w' => e = .returned (wd (fl (decide (a % M = 0 % M)))) ∧ Below w.heap.size w w' := dol_walk 21 a b _ _ w (Lib.hid fun w => do_21 a b 0 w)
theorem dol_22 (a b : Nat) (w : World) : Calls Try.prog 8 #[.int .u8 22, wd a, wd b] w fun e w' => e = .returned (wd (num (l0 a &&& l0 b) (l1 a &&& l1 b) (l2 a &&& l2 b) (l3 a &&& l3 b))) ∧ Below w.heap.size w w' := dol_walk 22 a b _ _ w (Lib.hid fun w => do_22 a b 0 w)
theorem dol_23 (a b : Nat) (w : World) : Calls Try.prog 8 #[.int .u8 23, wd a, wd b] w fun e w' => e = .returned (wd (num (l0 a ||| l0 b) (l1 a ||| l1 b) (l2 a ||| l2 b) (l3 a ||| l3 b))) ∧ Below w.heap.size w w' := dol_walk 23 a b _ _ w (Lib.hid fun w => do_23 a b 0 w)
theorem dol_24 (a b : Nat) (w : World) : Calls Try.prog 8 #[.int .u8 24, wd a, wd b] w fun e w' => e = .returned (wd (num (l0 a ^^^ l0 b) (l1 a ^^^ l1 b) (l2 a ^^^ l2 b) (l3 a ^^^ l3 b))) ∧ Below w.heap.size w w' := dol_walk 24 a b _ _ w (Lib.hid fun w => do_24 a b 0 w)
theorem dol_25 (a b : Nat) (w : World) : Calls Try.prog 8 #[.int .u8 25, wd a, wd b] w fun e w' => e = .returned (wd (M - 1 - a % M)) ∧ Below w.heap.size w w' := dol_walk 25 a b _ _ w (Lib.hid fun w => do_25 a b 0 w)
theorem dol_26 (a b : Nat) (w : World) : Calls Try.prog 8 #[.int .u8 26, wd a, wd b] w fun e w' => e = .returned (wd (byN a b)) ∧ Below w.heap.size w w' := dol_walk 26 a b _ _ w (Lib.hid fun w => do_26 a b 0 w)
theorem dol_27 (a b : Nat) (w : World) : Calls Try.prog 8 #[.int .u8 27, wd a, wd b] w fun e w' => e = .returned (wd (b * 2 ^ sh a)) ∧ Below w.heap.size w w' := dol_walk 27 a b _ _ w (Lib.hid fun w => do_27 a b 0 w)
theorem dol_28 (a b : Nat) (w : World) : Calls Try.prog 8 #[.int .u8 28, wd a, wd b] w fun e w' => e = .returned (wd (b % M / 2 ^ sh a)) ∧ Below w.heap.size w w' := dol_walk 28 a b _ _ w (Lib.hid fun w => do_28 a b 0 w)
theorem dol_29 (a b : Nat) (w : World) : Calls Try.prog 8 #[.int .u8 29, wd a, wd b] w fun e w' => e = .returned (wd (sar b (sh a))) ∧ Below w.heap.size w w' := dol_walk 29 a b _ _ w (Lib.hid fun w => do_29 a b 0 w)
theorem abox (w : World) (a b : Nat) : ∃ W, (w.alloc (.cells (wa a) 24)).alloc (.cells (wa b) 24) = W ∧ W.heap[w.heap.size]? = some (.cells (wa a) 24) ∧ W.heap[w.heap.size + 1]? = some (.cells (wa b) 24) ∧ Below w.heap.size w W :=
  ⟨_, rfl, blk_alloc (blk_new _ rfl), blk_new _ (by simp), ((Below.refl _ _).alloc (Nat.le_refl _) _).alloc (by simp) _⟩
set_option maxHeartbeats 8000000 in
theorem alike_walk (a b n one ones pw u1 u2 u3 u4 u5 u6 u7 u8 v1 v2 v3 v4 v5 v6 x2 x3 x4 x5 : Nat) (w : World)
    (HO : Hid (#[.int .u64 1, .int .u64 0, .int .u64 0, .int .u64 0] = wa one)) (HN : Hid (#[.int .u64 (n : Int), .int .u64 0, .int .u64 0, .int .u64 0] = wa n))
    (H1 : Hid (∀ w : World, Calls Try.prog 8 #[.int .u8 25, .agg #[.int .u64 0, .int .u64 0, .int .u64 0, .int .u64 0], .agg #[.int .u64 0, .int .u64 0, .int .u64 0, .int .u64 0]] w fun e w' => e = .returned (wd ones) ∧ Below w.heap.size w w')) (H2 : Hid (∀ w : World, Calls Try.prog 8 #[.int .u8 10, .agg #[.int .u64 2, .int .u64 0, .int .u64 0, .int .u64 0], .agg (wa n)] w fun e w' => e = .returned (wd pw) ∧ Below w.heap.size w w'))
    (A0 : Hid (∀ w : World, Calls Try.prog 8 #[.int .u8 3, .agg (wa a), .agg (wa b)] w fun e w' => e = .returned (wd u1) ∧ Below w.heap.size w w')) (A1 : Hid (∀ w : World, Calls Try.prog 8 #[.int .u8 25, .agg (wa b), .agg (wa a)] w fun e w' => e = .returned (wd u2) ∧ Below w.heap.size w w')) (A2 : Hid (∀ w : World, Calls Try.prog 8 #[.int .u8 1, .agg (wa a), wd u2] w fun e w' => e = .returned (wd u3) ∧ Below w.heap.size w w')) (A3 : Hid (∀ w : World, Calls Try.prog 8 #[.int .u8 1, wd u3, .agg (wa one)] w fun e w' => e = .returned (wd u4) ∧ Below w.heap.size w w')) (A4 : Hid (∀ w : World, Calls Try.prog 8 #[.int .u8 27, .agg (wa n), .agg (wa a)] w fun e w' => e = .returned (wd u5) ∧ Below w.heap.size w w')) (A5 : Hid (∀ w : World, Calls Try.prog 8 #[.int .u8 2, .agg (wa a), .agg (wa pw)] w fun e w' => e = .returned (wd u6) ∧ Below w.heap.size w w')) (A6 : Hid (∀ w : World, Calls Try.prog 8 #[.int .u8 28, .agg (wa n), .agg (wa a)] w fun e w' => e = .returned (wd u7) ∧ Below w.heap.size w w')) (A7 : Hid (∀ w : World, Calls Try.prog 8 #[.int .u8 4, .agg (wa a), .agg (wa pw)] w fun e w' => e = .returned (wd u8) ∧ Below w.heap.size w w')) (B0 : Hid (∀ w : World, Calls Try.prog 8 #[.int .u8 25, .agg (wa a), .agg (wa b)] w fun e w' => e = .returned (wd v1) ∧ Below w.heap.size w w')) (B1 : Hid (∀ w : World, Calls Try.prog 8 #[.int .u8 24, .agg (wa a), .agg (wa ones)] w fun e w' => e = .returned (wd v2) ∧ Below w.heap.size w w')) (B2 : Hid (∀ w : World, Calls Try.prog 8 #[.int .u8 16, .agg (wa a), .agg (wa b)] w fun e w' => e = .returned (wd v3) ∧ Below w.heap.size w w')) (B3 : Hid (∀ w : World, Calls Try.prog 8 #[.int .u8 17, .agg (wa b), .agg (wa a)] w fun e w' => e = .returned (wd v4) ∧ Below w.heap.size w w')) (B4 : Hid (∀ w : World, Calls Try.prog 8 #[.int .u8 18, .agg (wa a), .agg (wa b)] w fun e w' => e = .returned (wd v5) ∧ Below w.heap.size w w')) (B5 : Hid (∀ w : World, Calls Try.prog 8 #[.int .u8 19, .agg (wa b), .agg (wa a)] w fun e w' => e = .returned (wd v6) ∧ Below w.heap.size w w')) (C0 : Hid (∀ w : World, Calls Try.prog 8 #[.int .u8 16, .agg (wa a), .agg (wa b)] w fun e w' => e = .returned (wd v3) ∧ Below w.heap.size w w')) (C1 : Hid (∀ w : World, Calls Try.prog 8 #[.int .u8 17, .agg (wa a), .agg (wa b)] w fun e w' => e = .returned (wd x2) ∧ Below w.heap.size w w')) (C2 : Hid (∀ w : World, Calls Try.prog 8 #[.int .u8 1, wd v3, wd x2] w fun e w' => e = .returned (wd x3) ∧ Below w.heap.size w w')) (C3 : Hid (∀ w : World, Calls Try.prog 8 #[.int .u8 20, .agg (wa a), .agg (wa b)] w fun e w' => e = .returned (wd x4) ∧ Below w.heap.size w w')) (C4 : Hid (∀ w : World, Calls Try.prog 8 #[.int .u8 1, wd x3, wd x4] w fun e w' => e = .returned (wd x5) ∧ Below w.heap.size w w'))
    (e1 : ∀ w : World, (Op.equalIn 10000 24 (.agg (wa u1)) (.agg (wa u4))).run Try.prog w = .ok true w) (e2 : ∀ w : World, (Op.equalIn 10000 24 (.agg (wa u5)) (.agg (wa u6))).run Try.prog w = .ok true w) (e3 : ∀ w : World, (Op.equalIn 10000 24 (.agg (wa u7)) (.agg (wa u8))).run Try.prog w = .ok true w) (e4 : ∀ w : World, (Op.equalIn 10000 24 (.agg (wa v1)) (.agg (wa v2))).run Try.prog w = .ok true w) (e5 : ∀ w : World, (Op.equalIn 10000 24 (.agg (wa v3)) (.agg (wa v4))).run Try.prog w = .ok true w) (e6 : ∀ w : World, (Op.equalIn 10000 24 (.agg (wa v5)) (.agg (wa v6))).run Try.prog w = .ok true w) (e7 : ∀ w : World, (Op.equalIn 10000 24 (.agg (wa x5)) (.agg (wa one))).run Try.prog w = .ok true w) (hn : n < 256) :
    Calls Try.prog 4 #[wd a, wd b, .int .u8 (n : Int)] w fun e w' => e = .returned (.bool true) ∧ Below w.heap.size w w' := by
  obtain ⟨W, hW, f3, f4, bW⟩ := abox w a b
  have hsz := wa_size
  have eg := Try.guardW
  have fo := HO.out
  have fn := HN.out
  go_enter Try.func4, Try.ntmps4
  go_upto_region 1 with fail
  try rw [hW]
  clear hW
  go_upto_region 2 with (refine wpList_store_row rfl 24 (.tmp 7) _ rfl _ _ (wa one) rfl rfl (heap_alloc_new _ _) Try.infoWa rfl wa_one ?_)
  try simp only [Act.put]
  rw [World.setRow_alloc_new]
  replace f3 := blk_alloc (o' := .cells (wa one) 24) f3
  replace f4 := blk_alloc (o' := .cells (wa one) 24) f4
  have f7 : (W.alloc (.cells (wa one) 24)).heap[W.heap.size]? = some (.cells (wa one) 24) := heap_alloc_new _ _
  replace bW : Below w.heap.size w (W.alloc (.cells (wa one) 24)) := bW.alloc bW.size _
  generalize (W.alloc (.cells (wa one) 24)) = w2 at *
  generalize W.heap.size = p7 at *
  go_upto_region 3 with (first | (go_at_call 8; refine (H1.out _).mono ?_; rintro e w3 ⟨rfl, b1⟩; replace f3 := Below.stays b1 f3; replace f4 := Below.stays b1 f4; replace f7 := Below.stays b1 f7; replace bW := bW.trans (b1.mono bW.size); clear b1) | (refine wpList_store_row rfl 24 (.tmp 8) _ rfl _ _ (wa ones) rfl rfl (heap_alloc_new _ _) Try.infoWa rfl wa_one ?_))
  try simp only [Act.put]
  rw [World.setRow_alloc_new]
  replace f3 := blk_alloc (o' := .cells (wa ones) 24) f3
  replace f4 := blk_alloc (o' := .cells (wa ones) 24) f4
  replace f7 := blk_alloc (o' := .cells (wa ones) 24) f7
  have f8 : (w3.alloc (.cells (wa ones) 24)).heap[w3.heap.size]? = some (.cells (wa ones) 24) := heap_alloc_new _ _
  replace bW : Below w.heap.size w (w3.alloc (.cells (wa ones) 24)) := bW.alloc bW.size _
  generalize (w3.alloc (.cells (wa ones) 24)) = w4 at *
  generalize w3.heap.size = p8 at *
  go_upto_region 4 with (refine wpList_store_row rfl 24 (.tmp 9) _ rfl _ _ (wa n) rfl rfl (heap_alloc_new _ _) Try.infoWa rfl wa_one ?_)
  try simp only [Act.put]
  rw [World.setRow_alloc_new]
  replace f3 := blk_alloc (o' := .cells (wa n) 24) f3
  replace f4 := blk_alloc (o' := .cells (wa n) 24) f4
  replace f7 := blk_alloc (o' := .cells (wa n) 24) f7
  replace f8 := blk_alloc (o' := .cells (wa n) 24) f8
  have f9 : (w4.alloc (.cells (wa n) 24)).heap[w4.heap.size]? = some (.cells (wa n) 24) := heap_alloc_new _ _
  replace bW : Below w.heap.size w (w4.alloc (.cells (wa n) 24)) := bW.alloc bW.size _
  generalize (w4.alloc (.cells (wa n) 24)) = w6 at *
  generalize w4.heap.size = p9 at *
  go_upto_region 5 with (first | (refine wpList_load_row rfl 24 _ rfl _ rfl 24 _ (0, 0) _ f9 Try.underlying24 rfl Try.infoWa ?_) | (go_at_call 8; refine (H2.out _).mono ?_; rintro e w7 ⟨rfl, b1⟩; replace f3 := Below.stays b1 f3; replace f4 := Below.stays b1 f4; replace f7 := Below.stays b1 f7; replace f8 := Below.stays b1 f8; replace f9 := Below.stays b1 f9; replace bW := bW.trans (b1.mono bW.size); clear b1) | (refine wpList_store_row rfl 24 (.tmp 10) _ rfl _ _ (wa pw) rfl rfl (heap_alloc_new _ _) Try.infoWa rfl wa_one ?_))
  try simp only [Act.put]
  rw [World.setRow_alloc_new]
  replace f3 := blk_alloc (o' := .cells (wa pw) 24) f3
  replace f4 := blk_alloc (o' := .cells (wa pw) 24) f4
  replace f7 := blk_alloc (o' := .cells (wa pw) 24) f7
  replace f8 := blk_alloc (o' := .cells (wa pw) 24) f8
  replace f9 := blk_alloc (o' := .cells (wa pw) 24) f9
  have f10 : (w7.alloc (.cells (wa pw) 24)).heap[w7.heap.size]? = some (.cells (wa pw) 24) := heap_alloc_new _ _
  replace bW : Below w.heap.size w (w7.alloc (.cells (wa pw) 24)) := bW.alloc bW.size _
  generalize (w7.alloc (.cells (wa pw) 24)) = w8 at *
  generalize w7.heap.size = p10 at *
  clear fo fn
  have g3 := fun g : Ext w8 => g.block f3
  have g4 := fun g : Ext w8 => g.block f4
  have g7 := fun g : Ext w8 => g.block f7
  have g8 := fun g : Ext w8 => g.block f8
  have g9 := fun g : Ext w8 => g.block f9
  have g10 := fun g : Ext w8 => g.block f10
  refine region_ext (by kernel_rfl) (by kernel_rfl) ?_
  repeat (first | (go_big_quiet_want; refine quiet_load_row 24 _ rfl _ (wa a) rfl (fun w2 hw2 => by obtain ⟨g, rfl⟩ := hw2; exact g3 g) Try.underlying24 Try.infoWa ?_; simp only [Act.put, List.setIfInBounds_toArray, List.set_cons_succ, List.set_cons_zero]; go_big_quiet_on) | (go_big_quiet_want; refine quiet_load_row 24 _ rfl _ (wa b) rfl (fun w2 hw2 => by obtain ⟨g, rfl⟩ := hw2; exact g4 g) Try.underlying24 Try.infoWa ?_; simp only [Act.put, List.setIfInBounds_toArray, List.set_cons_succ, List.set_cons_zero]; go_big_quiet_on) | (go_big_quiet_want; refine quiet_load_row 24 _ rfl _ (wa one) rfl (fun w2 hw2 => by obtain ⟨g, rfl⟩ := hw2; exact g7 g) Try.underlying24 Try.infoWa ?_; simp only [Act.put, List.setIfInBounds_toArray, List.set_cons_succ, List.set_cons_zero]; go_big_quiet_on) | (go_big_quiet_want; refine quiet_load_row 24 _ rfl _ (wa ones) rfl (fun w2 hw2 => by obtain ⟨g, rfl⟩ := hw2; exact g8 g) Try.underlying24 Try.infoWa ?_; simp only [Act.put, List.setIfInBounds_toArray, List.set_cons_succ, List.set_cons_zero]; go_big_quiet_on) | (go_big_quiet_want; refine quiet_load_row 24 _ rfl _ (wa n) rfl (fun w2 hw2 => by obtain ⟨g, rfl⟩ := hw2; exact g9 g) Try.underlying24 Try.infoWa ?_; simp only [Act.put, List.setIfInBounds_toArray, List.set_cons_succ, List.set_cons_zero]; go_big_quiet_on) | (go_big_quiet_want; refine quiet_load_row 24 _ rfl _ (wa pw) rfl (fun w2 hw2 => by obtain ⟨g, rfl⟩ := hw2; exact g10 g) Try.underlying24 Try.infoWa ?_; simp only [Act.put, List.setIfInBounds_toArray, List.set_cons_succ, List.set_cons_zero]; go_big_quiet_on) | go_big_quiet_step (first | (go_at_call 8; first | with_reducible exact calls_ext (A0.out _) | with_reducible exact calls_ext (A1.out _) | with_reducible exact calls_ext (A2.out _) | with_reducible exact calls_ext (A3.out _) | with_reducible exact calls_ext (A4.out _) | with_reducible exact calls_ext (A5.out _) | with_reducible exact calls_ext (A6.out _) | with_reducible exact calls_ext (A7.out _))))
  refine wpQuiet_nil ?_
  rintro _ ⟨g, rfl⟩
  replace f3 := g.block f3
  replace f4 := g.block f4
  replace f7 := g.block f7
  replace f8 := g.block f8
  replace f9 := g.block f9
  replace f10 := g.block f10
  replace bW := bW.trans (g.below.mono bW.size)
  clear g3 g4 g7 g8 g9 g10
  generalize g.on = w9 at *
  clear g

  go_upto_region 7 with fail
  have g3 := fun g : Ext w9 => g.block f3
  have g4 := fun g : Ext w9 => g.block f4
  have g7 := fun g : Ext w9 => g.block f7
  have g8 := fun g : Ext w9 => g.block f8
  have g9 := fun g : Ext w9 => g.block f9
  have g10 := fun g : Ext w9 => g.block f10
  refine region_ext (by kernel_rfl) (by kernel_rfl) ?_
  repeat (first | (go_big_quiet_want; refine quiet_load_row 24 _ rfl _ (wa a) rfl (fun w2 hw2 => by obtain ⟨g, rfl⟩ := hw2; exact g3 g) Try.underlying24 Try.infoWa ?_; simp only [Act.put, List.setIfInBounds_toArray, List.set_cons_succ, List.set_cons_zero]; go_big_quiet_on) | (go_big_quiet_want; refine quiet_load_row 24 _ rfl _ (wa b) rfl (fun w2 hw2 => by obtain ⟨g, rfl⟩ := hw2; exact g4 g) Try.underlying24 Try.infoWa ?_; simp only [Act.put, List.setIfInBounds_toArray, List.set_cons_succ, List.set_cons_zero]; go_big_quiet_on) | (go_big_quiet_want; refine quiet_load_row 24 _ rfl _ (wa one) rfl (fun w2 hw2 => by obtain ⟨g, rfl⟩ := hw2; exact g7 g) Try.underlying24 Try.infoWa ?_; simp only [Act.put, List.setIfInBounds_toArray, List.set_cons_succ, List.set_cons_zero]; go_big_quiet_on) | (go_big_quiet_want; refine quiet_load_row 24 _ rfl _ (wa ones) rfl (fun w2 hw2 => by obtain ⟨g, rfl⟩ := hw2; exact g8 g) Try.underlying24 Try.infoWa ?_; simp only [Act.put, List.setIfInBounds_toArray, List.set_cons_succ, List.set_cons_zero]; go_big_quiet_on) | (go_big_quiet_want; refine quiet_load_row 24 _ rfl _ (wa n) rfl (fun w2 hw2 => by obtain ⟨g, rfl⟩ := hw2; exact g9 g) Try.underlying24 Try.infoWa ?_; simp only [Act.put, List.setIfInBounds_toArray, List.set_cons_succ, List.set_cons_zero]; go_big_quiet_on) | (go_big_quiet_want; refine quiet_load_row 24 _ rfl _ (wa pw) rfl (fun w2 hw2 => by obtain ⟨g, rfl⟩ := hw2; exact g10 g) Try.underlying24 Try.infoWa ?_; simp only [Act.put, List.setIfInBounds_toArray, List.set_cons_succ, List.set_cons_zero]; go_big_quiet_on) | go_big_quiet_step (first | (go_at_call 8; first | with_reducible exact calls_ext (B0.out _) | with_reducible exact calls_ext (B1.out _) | with_reducible exact calls_ext (B2.out _) | with_reducible exact calls_ext (B3.out _) | with_reducible exact calls_ext (B4.out _) | with_reducible exact calls_ext (B5.out _))))
  refine wpQuiet_nil ?_
  rintro _ ⟨g, rfl⟩
  replace f3 := g.block f3
  replace f4 := g.block f4
  replace f7 := g.block f7
  replace f8 := g.block f8
  replace f9 := g.block f9
  replace f10 := g.block f10
  replace bW := bW.trans (g.below.mono bW.size)
  clear g3 g4 g7 g8 g9 g10
  generalize g.on = w10 at *
  clear g

  go_upto_region 9 with fail
  have g3 := fun g : Ext w10 => g.block f3
  have g4 := fun g : Ext w10 => g.block f4
  have g7 := fun g : Ext w10 => g.block f7
  have g8 := fun g : Ext w10 => g.block f8
  have g9 := fun g : Ext w10 => g.block f9
  have g10 := fun g : Ext w10 => g.block f10
  refine region_ext (by kernel_rfl) (by kernel_rfl) ?_
  repeat (first | (go_big_quiet_want; refine quiet_load_row 24 _ rfl _ (wa a) rfl (fun w2 hw2 => by obtain ⟨g, rfl⟩ := hw2; exact g3 g) Try.underlying24 Try.infoWa ?_; simp only [Act.put, List.setIfInBounds_toArray, List.set_cons_succ, List.set_cons_zero]; go_big_quiet_on) | (go_big_quiet_want; refine quiet_load_row 24 _ rfl _ (wa b) rfl (fun w2 hw2 => by obtain ⟨g, rfl⟩ := hw2; exact g4 g) Try.underlying24 Try.infoWa ?_; simp only [Act.put, List.setIfInBounds_toArray, List.set_cons_succ, List.set_cons_zero]; go_big_quiet_on) | (go_big_quiet_want; refine quiet_load_row 24 _ rfl _ (wa one) rfl (fun w2 hw2 => by obtain ⟨g, rfl⟩ := hw2; exact g7 g) Try.underlying24 Try.infoWa ?_; simp only [Act.put, List.setIfInBounds_toArray, List.set_cons_succ, List.set_cons_zero]; go_big_quiet_on) | (go_big_quiet_want; refine quiet_load_row 24 _ rfl _ (wa ones) rfl (fun w2 hw2 => by obtain ⟨g, rfl⟩ := hw2; exact g8 g) Try.underlying24 Try.infoWa ?_; simp only [Act.put, List.setIfInBounds_toArray, List.set_cons_succ, List.set_cons_zero]; go_big_quiet_on) | (go_big_quiet_want; refine quiet_load_row 24 _ rfl _ (wa n) rfl (fun w2 hw2 => by obtain ⟨g, rfl⟩ := hw2; exact g9 g) Try.underlying24 Try.infoWa ?_; simp only [Act.put, List.setIfInBounds_toArray, List.set_cons_succ, List.set_cons_zero]; go_big_quiet_on) | (go_big_quiet_want; refine quiet_load_row 24 _ rfl _ (wa pw) rfl (fun w2 hw2 => by obtain ⟨g, rfl⟩ := hw2; exact g10 g) Try.underlying24 Try.infoWa ?_; simp only [Act.put, List.setIfInBounds_toArray, List.set_cons_succ, List.set_cons_zero]; go_big_quiet_on) | go_big_quiet_step (first | (go_at_call 8; first | with_reducible exact calls_ext (C0.out _) | with_reducible exact calls_ext (C1.out _) | with_reducible exact calls_ext (C2.out _) | with_reducible exact calls_ext (C3.out _) | with_reducible exact calls_ext (C4.out _)) | (go_at_call 7; with_reducible exact calls_ext (fixed17_walk _))))
  refine wpQuiet_nil ?_
  rintro _ ⟨g, rfl⟩

  go_wp2
  go_ret
  exact ⟨rfl, bW.trans (g.below.mono bW.size)⟩
theorem sh_small {n : Nat} (h : n < 256) : sh n = n := by
  have hB : n < B := Nat.lt_trans h (by decide)
  have e : l0 n = n := by unfold l0; exact Nat.mod_eq_of_lt hB
  unfold sh smallB
  rw [e]
  simp
  omega
theorem pow_small {n : Nat} (h : n < 256) : 2 ^ n % M = 2 ^ n := Nat.mod_eq_of_lt (by
  have h1 : 2 ^ n ≤ 2 ^ 255 := Nat.pow_le_pow_right (by decide) (by omega)
  have h2 : (2 : Nat) ^ 255 < M := by decide
  omega)
theorem n_mod {n : Nat} (h : n < 256) : n % M = n := Nat.mod_eq_of_lt (Nat.lt_trans h (by decide))
theorem xor_top {x : Nat} (h : x < B) : x ^^^ (B - 1) = B - 1 - x := by
  have h64 : x < 2 ^ 64 := h
  apply Nat.eq_of_testBit_eq
  intro i
  rw [Nat.testBit_xor, show B - 1 = 2 ^ 64 - 1 from rfl, Nat.testBit_two_pow_sub_one, show 2 ^ 64 - 1 - x = 2 ^ 64 - (x + 1) by omega, Nat.testBit_two_pow_sub_succ h64]
  by_cases hi : i < 64
  · simp [hi]
  · have : x.testBit i = false := Nat.testBit_lt_two_pow (Nat.lt_of_lt_of_le h64 (Nat.pow_le_pow_right (by decide) (by omega)))
    simp [hi, this]
theorem xor_all (a : Nat) : num (l0 a ^^^ l0 (M - 1 - 0 % M)) (l1 a ^^^ l1 (M - 1 - 0 % M)) (l2 a ^^^ l2 (M - 1 - 0 % M)) (l3 a ^^^ l3 (M - 1 - 0 % M)) % M = (M - 1 - a % M) % M := by
  obtain ⟨A0, A1, A2, A3⟩ := l_lt a
  rw [show l0 (M - 1 - 0 % M) = B - 1 by decide, show l1 (M - 1 - 0 % M) = B - 1 by decide, show l2 (M - 1 - 0 % M) = B - 1 by decide, show l3 (M - 1 - 0 % M) = B - 1 by decide, xor_top A0, xor_top A1, xor_top A2, xor_top A3, not_num A0 A1 A2 A3 (num_parts a)]
theorem eqw {m n : Nat} (h : m % M = n % M) (w : World) : (Op.equalIn 10000 24 (.agg (wa m)) (.agg (wa n))).run Try.prog w = .ok true w := by
  rw [equal_wa, decide_eq_true h]
theorem alike_law (a b n : Nat) (w : World) (hn : n < 256) : Calls Try.prog 4 #[wd a, wd b, .int .u8 (n : Int)] w fun e w' => e = .returned (.bool true) ∧ Below w.heap.size w w' :=
  alike_walk a b n 1 (M - 1 - 0 % M) (2 ^ (n % M)) _ _ _ _ _ _ _ _ _ _ _ _ _ _ _ _ _ _ w
    (Lib.hid rfl) (Lib.hid (wd_small' (Nat.lt_trans hn (by decide))).symm)
    (Lib.hid fun w => dol_25 0 0 w) (Lib.hid fun w => dol_10 2 n w)
    (Lib.hid fun w => dol_3 a b w) (Lib.hid fun w => dol_25 b a w) (Lib.hid fun w => dol_1 a (M - 1 - b % M) w) (Lib.hid fun w => dol_1 (a + (M - 1 - b % M)) 1 w) (Lib.hid fun w => dol_27 n a w) (Lib.hid fun w => dol_2 a (2 ^ (n % M)) w) (Lib.hid fun w => dol_28 n a w) (Lib.hid fun w => dol_4 a (2 ^ (n % M)) w)
    (Lib.hid fun w => dol_25 a b w) (Lib.hid fun w => dol_24 a (M - 1 - 0 % M) w) (Lib.hid fun w => dol_16 a b w) (Lib.hid fun w => dol_17 b a w) (Lib.hid fun w => dol_18 a b w) (Lib.hid fun w => dol_19 b a w)
    (Lib.hid fun w => dol_16 a b w) (Lib.hid fun w => dol_17 a b w) (Lib.hid fun w => dol_1 (fl (decide (a % M < b % M))) (fl (decide (b % M < a % M))) w) (Lib.hid fun w => dol_20 a b w) (Lib.hid fun w => dol_1 (fl (decide (a % M < b % M)) + fl (decide (b % M < a % M))) (fl (decide (a % M = b % M))) w)
    (eqw (by rw [Nat.add_assoc a])) (eqw (by rw [sh_small hn, n_mod hn])) (eqw (by rw [sh_small hn, n_mod hn, pow_small hn])) (eqw (xor_all a).symm) (eqw rfl) (eqw rfl)
    (eqw (by
      congr 1
      unfold fl
      rcases Nat.lt_trichotomy (a % M) (b % M) with h | h | h
      · simp [h, Nat.lt_asymm h, Nat.ne_of_lt h]
      · simp [h]
      · simp [h, Nat.lt_asymm h, (Nat.ne_of_lt h).symm])) hn
end Go.Proofs.Ytdpbjdecbilaeaa
