/- Stage 17: the document's truth, by, Zero, Takes. -/
import Derived.Test.YtdpbjdecbilaeaaGreatG8
import Derived.Test.YtdpbjdecbilaeaaGreatG6
import Derived.Test.YtdpbjdecbilaeaaGreatG5
import Derived.BigQuiet
import Derived.Test.YtdpbjdecbilaeaaGreatG7
import Derived.Test.YtdpbjdecbilaeaaGreatG3
import Derived.Deep.RegionHeld3
import Derived.Deep.RegionWith
namespace Go.Proofs.YtdpbjdecbilaeaaGreat
open Go.RowKit SmWord
set_option maxRecDepth 100000

set_option maxHeartbeats 1000000 in
theorem rtruth_false (w : World) : Calls Tryz.prog 15 #[.bool false] w fun e w' => e = .returned (wd (fl false)) ∧ Below w.heap.size w w' := by
  rw [show wd (fl false) = .agg #[.int .u64 0, .int .u64 0, .int .u64 0, .int .u64 0] from rfl]
  go_enter Tryz.func15, Tryz.ntmps15
  go_wp2
  refine bodyPost_ret (v := .agg #[.int .u64 0, .int .u64 0, .int .u64 0, .int .u64 0]) (by simp [results, Tryz.results15, go_sem]) rfl ⟨rfl, ?_⟩
  exact (Below.refl _ _).alloc (Nat.le_refl _) _
set_option maxHeartbeats 1000000 in
theorem rtruth_true (w : World) : Calls Tryz.prog 15 #[.bool true] w fun e w' => e = .returned (wd (fl true)) ∧ Below w.heap.size w w' := by
  rw [show wd (fl true) = .agg #[.int .u64 1, .int .u64 0, .int .u64 0, .int .u64 0] from rfl]
  go_enter Tryz.func15, Tryz.ntmps15
  go_wp2
  refine bodyPost_ret (v := .agg #[.int .u64 1, .int .u64 0, .int .u64 0, .int .u64 0]) (by simp [results, Tryz.results15, go_sem]) rfl ⟨rfl, ?_⟩
  exact (Below.refl _ _).alloc (Nat.le_refl _) _
theorem rtruth (b : Bool) (w : World) : Calls Tryz.prog 15 #[.bool b] w fun e w' => e = .returned (wd (fl b)) ∧ Below w.heap.size w w' := by
  cases b
  · exact rtruth_false w
  · exact rtruth_true w
theorem small_parts (a : Nat) : smallB a = true ↔ l1 a = 0 ∧ l2 a = 0 ∧ l3 a = 0 := by
  unfold smallB
  rw [decide_eq_true_iff, ← num_parts a]
  obtain ⟨h0, h1, h2, h3⟩ := l_lt a
  rw [Nat.mod_eq_of_lt (Nat.lt_trans h0 (by decide))]
  generalize l0 a = x at *
  generalize l1 a = y at *
  generalize l2 a = z at *
  generalize l3 a = u at *
  unfold num
  simp only [B] at *
  constructor
  · intro h
    omega
  · rintro ⟨rfl, rfl, rfl⟩
    omega
def shI (x y z u : Int) : Int := if y = 0 ∧ z = 0 ∧ u = 0 ∧ x ≤ 256 then x else 256
set_option maxHeartbeats 2000000 in
theorem rby_walk (x y z u : Int) (hx : 0 ≤ x) (w : World) : Calls Tryz.prog 21 #[.agg #[.int .u64 x, .int .u64 y, .int .u64 z, .int .u64 u]] w fun e w' => e = .returned (.int .i64 (shI x y z u)) ∧ Below w.heap.size w w' := by
  go_enter Tryz.func21, Tryz.ntmps21
  by_cases hy : y = 0
  · subst hy
    by_cases hz : z = 0
    · subst hz
      by_cases hu : u = 0
      · subst hu
        by_cases h6 : x ≤ 256
        · have e : shI x 0 0 0 = x := by simp [shI, h6]
          have e6 : decide (256 < x) = false := by simp; omega
          rw [e]
          go_wp2
          go_ret
          exact ⟨rfl, (Below.refl _ _).alloc (Nat.le_refl _) _⟩
        · have e : shI x 0 0 0 = 256 := by simp [shI, h6]
          have e6 : decide (256 < x) = true := by simp; omega
          rw [e]
          go_wp2
          go_ret
          exact ⟨rfl, (Below.refl _ _).alloc (Nat.le_refl _) _⟩
      · have e : shI x 0 0 u = 256 := by simp [shI, hu]
        have e3 : (u == 0) = false := by simp [hu]
        rw [e]
        go_wp2
        go_ret
        exact ⟨rfl, (Below.refl _ _).alloc (Nat.le_refl _) _⟩
    · have e : shI x 0 z u = 256 := by simp [shI, hz]
      have e3 : (z == 0) = false := by simp [hz]
      rw [e]
      go_wp2
      go_ret
      exact ⟨rfl, (Below.refl _ _).alloc (Nat.le_refl _) _⟩
  · have e : shI x y z u = 256 := by simp [shI, hy]
    have e3 : (y == 0) = false := by simp [hy]
    rw [e]
    go_wp2
    go_ret
    exact ⟨rfl, (Below.refl _ _).alloc (Nat.le_refl _) _⟩
theorem rby (a : Nat) (w : World) : Calls Tryz.prog 21 #[wd a] w fun e w' => e = .returned (.int .i64 ((sh a : Nat) : Int)) ∧ Below w.heap.size w w' := by
  have h := rby_walk (l0 a : Int) (l1 a : Int) (l2 a : Int) (l3 a : Int) (by omega) w
  have e : shI (l0 a : Int) (l1 a : Int) (l2 a : Int) (l3 a : Int) = ((sh a : Nat) : Int) := by
    have hs := small_parts a
    unfold shI sh
    by_cases hp : l1 a = 0 ∧ l2 a = 0 ∧ l3 a = 0
    · rw [if_pos (hs.2 hp)]
      obtain ⟨h1, h2, h3⟩ := hp
      rw [h1, h2, h3]
      by_cases hq : l0 a ≤ 256
      · rw [if_pos ⟨rfl, rfl, rfl, by omega⟩]
        omega
      · rw [if_neg (by omega)]
        omega
    · rw [if_neg (by omega), if_neg (fun h => hp (hs.1 h))]
      rfl
  rw [e] at h
  exact h
theorem equal_da (m n : Nat) (w : World) : (Op.equalIn 10000 39 (.agg (da m)) (.agg (da n))).run Tryz.prog w = .ok (decide (m % M = n % M)) w := by
  obtain ⟨r, hr, hiff⟩ := equal_ints Tryz.underlying39 Tryz.underlying3 rfl (da m) (da n) (arr_size _ _ _) (arr_size _ _ _) (fun i hi => ⟨_, _, arr_get .i64 _ hi, arr_get .i64 _ hi⟩) w
  rw [hr]
  congr 1
  rw [Bool.eq_iff_iff, hiff, decide_eq_true_iff]
  constructor
  · intro h
    have hd : ∀ i, i < 32 → dig m i = dig n i := fun i hi => by
      have := arr_inj h hi
      omega
    have key : ∀ k, k ≤ 32 → m % 256 ^ k = n % 256 ^ k := fun k => by
      induction k with
      | zero => intro _; simp [Nat.mod_one]
      | succ k ih =>
        intro hk
        obtain ⟨e1, e2⟩ := cmp_low m n k
        rw [e1, e2, ih (by omega), hd k (by omega)]
    exact key 32 (Nat.le_refl _)
  · intro h
    exact da_congr h
set_option maxHeartbeats 2000000 in
theorem rzero (a : Nat) (w : World) : Calls Tryz.prog 18 #[.agg (da a)] w fun e w' => e = .returned (.bool (decide (a % M = 0 % M))) ∧ Below w.heap.size w w' := by
  have hds : ∀ x, (da x).size = 32 := fun x => arr_size _ _ _
  have eg : Tryz.prog.eqGuardType Tryz.prog.depth 39 = false := by kernel_rfl
  have hE := equal_da a 0
  obtain ⟨q, hq⟩ : ∃ q, decide (a % M = 0 % M) = q := ⟨_, rfl⟩
  rw [hq] at hE ⊢
  have hz0 : zD = da 0 := arr_congr fun i _ => by simp [dig]
  rw [← hz0] at hE
  clear hz0 hq
  go_enter Tryz.func18, Tryz.ntmps18
  go_upto_region 1 with fail
  have f0 : (w.alloc (.cells (da a) 39)).heap[w.heap.size]? = some (.cells (da a) 39) := blk_new _ rfl
  have bW : Below w.heap.size w (w.alloc (.cells (da a) 39)) := (Below.refl _ _).alloc (Nat.le_refl _) _
  generalize w.alloc (.cells (da a) 39) = W at *
  go_wp2_with (first | (refine wpList_load_row rfl 39 _ rfl _ rfl 39 (da a) (0, 0) _ f0 Tryz.underlying39 rfl (infoArr _) ?_) | (refine wpList_build_zero rfl 39 rfl Tryz.underlying39 Tryz.sizeOf3 zD zD_run ?_))
  go_ret
  exact ⟨rfl, bW⟩

theorem takes_eq (op : Nat) : takesN op = if op = 8 ∨ op = 9 then 3 else if op = 21 ∨ op = 25 then 1 else if (1 ≤ op ∧ op ≤ 11) ∨ (16 ≤ op ∧ op ≤ 29) then 2 else 0 := by
  by_cases h : op < 30
  · have key : ∀ i : Fin 30, takesN i.1 = if i.1 = 8 ∨ i.1 = 9 then 3 else if i.1 = 21 ∨ i.1 = 25 then 1 else if (1 ≤ i.1 ∧ i.1 ≤ 11) ∨ (16 ≤ i.1 ∧ i.1 ≤ 29) then 2 else 0 := by decide +kernel
    exact key ⟨op, h⟩
  · rw [if_neg (by omega), if_neg (by omega), if_neg (by omega)]
    have e2 : two op 0 0 = none := by
      unfold two
      repeat rw [if_neg (by omega)]
    have e1 : oneN op 0 = none := by
      unfold oneN
      repeat rw [if_neg (by omega)]
    have e3 : three op 0 0 0 = none := by
      unfold three
      repeat rw [if_neg (by omega)]
    rw [takesN, e2, e1, e3]
    rfl
set_option maxHeartbeats 4000000 in
theorem rtakes_walk (op : Nat) (w : World) : Calls Tryz.prog 8 #[.int .u8 (op : Int)] w fun e w' => e = .returned (.int .i64 ((takesN op : Nat) : Int)) ∧ Below w.heap.size w w' := by
  obtain ⟨t, ht⟩ : ∃ t, takesN op = t := ⟨_, rfl⟩
  rw [ht]
  rw [takes_eq] at ht
  have HT := Lib.hid ht
  clear ht
  go_enter Tryz.func8, Tryz.ntmps8
  go_wp2
  all_goals try simp only [beq_iff_eq, beq_eq_false_iff_ne, ne_eq] at *
  all_goals first
    | (obtain rfl : t = 3 := by have hT := HT.out; (repeat' split at hT) <;> omega
       go_ret
       exact ⟨rfl, Below.refl _ _⟩)
    | (obtain rfl : t = 1 := by have hT := HT.out; (repeat' split at hT) <;> omega
       go_ret
       exact ⟨rfl, Below.refl _ _⟩)
    | (obtain rfl : t = 2 := by have hT := HT.out; (repeat' split at hT) <;> omega
       go_ret
       exact ⟨rfl, Below.refl _ _⟩)
    | (obtain rfl : t = 0 := by have hT := HT.out; (repeat' split at hT) <;> omega
       go_ret
       exact ⟨rfl, Below.refl _ _⟩)
end Go.Proofs.YtdpbjdecbilaeaaGreat
/- Stage 17: the document's low, byte by byte. -/
namespace Go.Proofs.YtdpbjdecbilaeaaGreat
open Go.RowKit SmWord
set_option maxRecDepth 100000

set_option maxHeartbeats 4000000 in
theorem low_1 (a b c : Nat) (w : World) : Calls Tryz.prog 12 #[.int .u8 1, wd a, wd b, wd c] w fun e w' => e = .returned (wd (a + b)) ∧ Below w.heap.size w w' := by
  obtain ⟨W, hW, f0, f1, f2, f3, bW, sW⟩ := dboxes3 w a b c
  have hz := z4_wa
  have hsz := wa_size
  have hds : ∀ x, (da x).size = 32 := fun x => arr_size _ _ _
  replace sW := Nat.le_of_eq sW.symm
  go_enter Tryz.func12, Tryz.ntmps12
  go_upto_region 1 with fail
  try rw [hW]
  clear hW hz
  go_upto_region 2 with (first | (refine wpList_load_row rfl 24 _ rfl _ rfl 24 _ (0, 0) _ (by assumption) Tryz.underlying24 rfl Tryz.infoWa ?_) | (go_at_call 13; refine (of_ref a _).mono ?_; rintro e w1 ⟨rfl, b1⟩; replace f0 := Below.stays b1 f0; replace f1 := Below.stays b1 f1; replace f2 := Below.stays b1 f2; replace f3 := Below.stays b1 f3; replace bW := bW.trans (b1.mono bW.size); replace sW := Nat.le_trans sW b1.size; clear b1) | (refine wpList_alloc_row rfl 39 rfl zD zD_run ?_) | (refine wpList_store_row rfl 39 (.tmp 9) _ rfl _ zD (da a) rfl rfl (heap_alloc_new _ _) (infoArr _) rfl (arr_one _ _ _) ?_))
  simp only [Act.put, List.setIfInBounds_toArray, List.set_cons_succ, List.set_cons_zero]
  rw [World.setRow_alloc_new]
  replace f0 := blk_alloc (o' := .cells (da a) 39) f0
  replace f1 := blk_alloc (o' := .cells (da a) 39) f1
  replace f2 := blk_alloc (o' := .cells (da a) 39) f2
  replace f3 := blk_alloc (o' := .cells (da a) 39) f3
  have f9 : (w1.alloc (.cells (da a) 39)).heap[w1.heap.size]? = some (.cells (da a) 39) := heap_alloc_new _ _
  replace bW : Below w.heap.size w (w1.alloc (.cells (da a) 39)) := bW.alloc (by omega) _
  replace sW : w.heap.size + 4 ≤ (w1.alloc (.cells (da a) 39)).heap.size := by simp; omega
  generalize (w1.alloc (.cells (da a) 39)) = w2 at *
  generalize w1.heap.size = p9 at *
  go_upto_region 3 with (first | (refine wpList_load_row rfl 24 _ rfl _ rfl 24 _ (0, 0) _ (by assumption) Tryz.underlying24 rfl Tryz.infoWa ?_) | (go_at_call 13; refine (of_ref b _).mono ?_; rintro e w3 ⟨rfl, b1⟩; replace f0 := Below.stays b1 f0; replace f1 := Below.stays b1 f1; replace f2 := Below.stays b1 f2; replace f3 := Below.stays b1 f3; replace f9 := Below.stays b1 f9; replace bW := bW.trans (b1.mono bW.size); replace sW := Nat.le_trans sW b1.size; clear b1) | (refine wpList_alloc_row rfl 39 rfl zD zD_run ?_) | (refine wpList_store_row rfl 39 (.tmp 10) _ rfl _ zD (da b) rfl rfl (heap_alloc_new _ _) (infoArr _) rfl (arr_one _ _ _) ?_))
  simp only [Act.put, List.setIfInBounds_toArray, List.set_cons_succ, List.set_cons_zero]
  rw [World.setRow_alloc_new]
  replace f0 := blk_alloc (o' := .cells (da b) 39) f0
  replace f1 := blk_alloc (o' := .cells (da b) 39) f1
  replace f2 := blk_alloc (o' := .cells (da b) 39) f2
  replace f3 := blk_alloc (o' := .cells (da b) 39) f3
  replace f9 := blk_alloc (o' := .cells (da b) 39) f9
  have f10 : (w3.alloc (.cells (da b) 39)).heap[w3.heap.size]? = some (.cells (da b) 39) := heap_alloc_new _ _
  replace bW : Below w.heap.size w (w3.alloc (.cells (da b) 39)) := bW.alloc (by omega) _
  replace sW : w.heap.size + 4 ≤ (w3.alloc (.cells (da b) 39)).heap.size := by simp; omega
  generalize (w3.alloc (.cells (da b) 39)) = w4 at *
  generalize w3.heap.size = p10 at *
  go_upto_region 4 with (first | (refine wpList_load_row rfl 24 _ rfl _ rfl 24 _ (0, 0) _ (by assumption) Tryz.underlying24 rfl Tryz.infoWa ?_) | (go_at_call 49; refine (nof_ref a _).mono ?_; rintro e w5 ⟨vm, rfl, nm, b1⟩; replace f0 := Below.stays b1 f0; replace f1 := Below.stays b1 f1; replace f2 := Below.stays b1 f2; replace f3 := Below.stays b1 f3; replace f9 := Below.stays b1 f9; replace f10 := Below.stays b1 f10; replace bW := bW.trans (b1.mono bW.size); replace sW := Nat.le_trans sW b1.size; clear b1))
  go_upto_region 5 with (first | (refine wpList_load_row rfl 24 _ rfl _ rfl 24 _ (0, 0) _ (by assumption) Tryz.underlying24 rfl Tryz.infoWa ?_) | (go_at_call 49; refine (nof_ref b _).mono ?_; rintro e w6 ⟨vn, rfl, nn, b1⟩; replace f0 := Below.stays b1 f0; replace f1 := Below.stays b1 f1; replace f2 := Below.stays b1 f2; replace f3 := Below.stays b1 f3; replace f9 := Below.stays b1 f9; replace f10 := Below.stays b1 f10; replace nm := nm.stays b1; replace bW := bW.trans (b1.mono bW.size); replace sW := Nat.le_trans sW b1.size; clear b1))
  go_wp2_with (first | (refine wpList_load_row rfl 39 _ rfl _ rfl 39 (da a) (0, 0) _ f9 Tryz.underlying39 rfl (infoArr _) ?_) | (refine wpList_load_row rfl 39 _ rfl _ rfl 39 (da b) (0, 0) _ f10 Tryz.underlying39 rfl (infoArr _) ?_) | (go_at_call 50; refine (add_ref a b _).mono ?_; rintro e wx ⟨rfl, b1⟩; replace f0 := Below.stays b1 f0; replace f1 := Below.stays b1 f1; replace f2 := Below.stays b1 f2; replace f3 := Below.stays b1 f3; replace f9 := Below.stays b1 f9; replace f10 := Below.stays b1 f10; replace nm := nm.stays b1; replace nn := nn.stays b1; replace bW := bW.trans (b1.mono bW.size); replace sW := Nat.le_trans sW b1.size; clear b1) | (go_at_call 20; refine (word_ref _ _).mono ?_; rintro e wx ⟨rfl, b1⟩; replace f0 := Below.stays b1 f0; replace f1 := Below.stays b1 f1; replace f2 := Below.stays b1 f2; replace f3 := Below.stays b1 f3; replace f9 := Below.stays b1 f9; replace f10 := Below.stays b1 f10; replace nm := nm.stays b1; replace nn := nn.stays b1; replace bW := bW.trans (b1.mono bW.size); replace sW := Nat.le_trans sW b1.size; clear b1) | (refine wpList_store_row rfl 24 (.tmp 8) _ rfl _ _ (wa (a + b)) rfl rfl f3 Tryz.infoWa rfl wa_one ?_))
  have e2 := word_cells (blk_row (c' := wa (a + b)) f3)
  exact bodyPost_ret (v := wd (a + b)) (by simp [results, Tryz.results12, go_sem, e2, fold_wa]) rfl ⟨rfl, below_setRow bW (by omega) _⟩
set_option maxHeartbeats 4000000 in
theorem low_2 (a b c : Nat) (w : World) : Calls Tryz.prog 12 #[.int .u8 2, wd a, wd b, wd c] w fun e w' => e = .returned (wd (a * b)) ∧ Below w.heap.size w w' := by
  obtain ⟨W, hW, f0, f1, f2, f3, bW, sW⟩ := dboxes3 w a b c
  have hz := z4_wa
  have hsz := wa_size
  have hds : ∀ x, (da x).size = 32 := fun x => arr_size _ _ _
  replace sW := Nat.le_of_eq sW.symm
  go_enter Tryz.func12, Tryz.ntmps12
  go_upto_region 1 with fail
  try rw [hW]
  clear hW hz
  go_upto_region 2 with (first | (refine wpList_load_row rfl 24 _ rfl _ rfl 24 _ (0, 0) _ (by assumption) Tryz.underlying24 rfl Tryz.infoWa ?_) | (go_at_call 13; refine (of_ref a _).mono ?_; rintro e w1 ⟨rfl, b1⟩; replace f0 := Below.stays b1 f0; replace f1 := Below.stays b1 f1; replace f2 := Below.stays b1 f2; replace f3 := Below.stays b1 f3; replace bW := bW.trans (b1.mono bW.size); replace sW := Nat.le_trans sW b1.size; clear b1) | (refine wpList_alloc_row rfl 39 rfl zD zD_run ?_) | (refine wpList_store_row rfl 39 (.tmp 9) _ rfl _ zD (da a) rfl rfl (heap_alloc_new _ _) (infoArr _) rfl (arr_one _ _ _) ?_))
  simp only [Act.put, List.setIfInBounds_toArray, List.set_cons_succ, List.set_cons_zero]
  rw [World.setRow_alloc_new]
  replace f0 := blk_alloc (o' := .cells (da a) 39) f0
  replace f1 := blk_alloc (o' := .cells (da a) 39) f1
  replace f2 := blk_alloc (o' := .cells (da a) 39) f2
  replace f3 := blk_alloc (o' := .cells (da a) 39) f3
  have f9 : (w1.alloc (.cells (da a) 39)).heap[w1.heap.size]? = some (.cells (da a) 39) := heap_alloc_new _ _
  replace bW : Below w.heap.size w (w1.alloc (.cells (da a) 39)) := bW.alloc (by omega) _
  replace sW : w.heap.size + 4 ≤ (w1.alloc (.cells (da a) 39)).heap.size := by simp; omega
  generalize (w1.alloc (.cells (da a) 39)) = w2 at *
  generalize w1.heap.size = p9 at *
  go_upto_region 3 with (first | (refine wpList_load_row rfl 24 _ rfl _ rfl 24 _ (0, 0) _ (by assumption) Tryz.underlying24 rfl Tryz.infoWa ?_) | (go_at_call 13; refine (of_ref b _).mono ?_; rintro e w3 ⟨rfl, b1⟩; replace f0 := Below.stays b1 f0; replace f1 := Below.stays b1 f1; replace f2 := Below.stays b1 f2; replace f3 := Below.stays b1 f3; replace f9 := Below.stays b1 f9; replace bW := bW.trans (b1.mono bW.size); replace sW := Nat.le_trans sW b1.size; clear b1) | (refine wpList_alloc_row rfl 39 rfl zD zD_run ?_) | (refine wpList_store_row rfl 39 (.tmp 10) _ rfl _ zD (da b) rfl rfl (heap_alloc_new _ _) (infoArr _) rfl (arr_one _ _ _) ?_))
  simp only [Act.put, List.setIfInBounds_toArray, List.set_cons_succ, List.set_cons_zero]
  rw [World.setRow_alloc_new]
  replace f0 := blk_alloc (o' := .cells (da b) 39) f0
  replace f1 := blk_alloc (o' := .cells (da b) 39) f1
  replace f2 := blk_alloc (o' := .cells (da b) 39) f2
  replace f3 := blk_alloc (o' := .cells (da b) 39) f3
  replace f9 := blk_alloc (o' := .cells (da b) 39) f9
  have f10 : (w3.alloc (.cells (da b) 39)).heap[w3.heap.size]? = some (.cells (da b) 39) := heap_alloc_new _ _
  replace bW : Below w.heap.size w (w3.alloc (.cells (da b) 39)) := bW.alloc (by omega) _
  replace sW : w.heap.size + 4 ≤ (w3.alloc (.cells (da b) 39)).heap.size := by simp; omega
  generalize (w3.alloc (.cells (da b) 39)) = w4 at *
  generalize w3.heap.size = p10 at *
  go_upto_region 4 with (first | (refine wpList_load_row rfl 24 _ rfl _ rfl 24 _ (0, 0) _ (by assumption) Tryz.underlying24 rfl Tryz.infoWa ?_) | (go_at_call 49; refine (nof_ref a _).mono ?_; rintro e w5 ⟨vm, rfl, nm, b1⟩; replace f0 := Below.stays b1 f0; replace f1 := Below.stays b1 f1; replace f2 := Below.stays b1 f2; replace f3 := Below.stays b1 f3; replace f9 := Below.stays b1 f9; replace f10 := Below.stays b1 f10; replace bW := bW.trans (b1.mono bW.size); replace sW := Nat.le_trans sW b1.size; clear b1))
  go_upto_region 5 with (first | (refine wpList_load_row rfl 24 _ rfl _ rfl 24 _ (0, 0) _ (by assumption) Tryz.underlying24 rfl Tryz.infoWa ?_) | (go_at_call 49; refine (nof_ref b _).mono ?_; rintro e w6 ⟨vn, rfl, nn, b1⟩; replace f0 := Below.stays b1 f0; replace f1 := Below.stays b1 f1; replace f2 := Below.stays b1 f2; replace f3 := Below.stays b1 f3; replace f9 := Below.stays b1 f9; replace f10 := Below.stays b1 f10; replace nm := nm.stays b1; replace bW := bW.trans (b1.mono bW.size); replace sW := Nat.le_trans sW b1.size; clear b1))
  go_wp2_with (first | (refine wpList_load_row rfl 39 _ rfl _ rfl 39 (da a) (0, 0) _ f9 Tryz.underlying39 rfl (infoArr _) ?_) | (refine wpList_load_row rfl 39 _ rfl _ rfl 39 (da b) (0, 0) _ f10 Tryz.underlying39 rfl (infoArr _) ?_) | (go_at_call 51; refine (mul_ref a b _).mono ?_; rintro e wx ⟨rfl, b1⟩; replace f0 := Below.stays b1 f0; replace f1 := Below.stays b1 f1; replace f2 := Below.stays b1 f2; replace f3 := Below.stays b1 f3; replace f9 := Below.stays b1 f9; replace f10 := Below.stays b1 f10; replace nm := nm.stays b1; replace nn := nn.stays b1; replace bW := bW.trans (b1.mono bW.size); replace sW := Nat.le_trans sW b1.size; clear b1) | (go_at_call 20; refine (word_ref _ _).mono ?_; rintro e wx ⟨rfl, b1⟩; replace f0 := Below.stays b1 f0; replace f1 := Below.stays b1 f1; replace f2 := Below.stays b1 f2; replace f3 := Below.stays b1 f3; replace f9 := Below.stays b1 f9; replace f10 := Below.stays b1 f10; replace nm := nm.stays b1; replace nn := nn.stays b1; replace bW := bW.trans (b1.mono bW.size); replace sW := Nat.le_trans sW b1.size; clear b1) | (refine wpList_store_row rfl 24 (.tmp 8) _ rfl _ _ (wa (a * b)) rfl rfl f3 Tryz.infoWa rfl wa_one ?_))
  have e2 := word_cells (blk_row (c' := wa (a * b)) f3)
  exact bodyPost_ret (v := wd (a * b)) (by simp [results, Tryz.results12, go_sem, e2, fold_wa]) rfl ⟨rfl, below_setRow bW (by omega) _⟩
set_option maxHeartbeats 4000000 in
theorem low_3 (a b c : Nat) (w : World) : Calls Tryz.prog 12 #[.int .u8 3, wd a, wd b, wd c] w fun e w' => e = .returned (wd (a + (M - 1 - b % M + 1))) ∧ Below w.heap.size w w' := by
  obtain ⟨W, hW, f0, f1, f2, f3, bW, sW⟩ := dboxes3 w a b c
  have hz := z4_wa
  have hsz := wa_size
  have hds : ∀ x, (da x).size = 32 := fun x => arr_size _ _ _
  replace sW := Nat.le_of_eq sW.symm
  go_enter Tryz.func12, Tryz.ntmps12
  go_upto_region 1 with fail
  try rw [hW]
  clear hW hz
  go_upto_region 2 with (first | (refine wpList_load_row rfl 24 _ rfl _ rfl 24 _ (0, 0) _ (by assumption) Tryz.underlying24 rfl Tryz.infoWa ?_) | (go_at_call 13; refine (of_ref a _).mono ?_; rintro e w1 ⟨rfl, b1⟩; replace f0 := Below.stays b1 f0; replace f1 := Below.stays b1 f1; replace f2 := Below.stays b1 f2; replace f3 := Below.stays b1 f3; replace bW := bW.trans (b1.mono bW.size); replace sW := Nat.le_trans sW b1.size; clear b1) | (refine wpList_alloc_row rfl 39 rfl zD zD_run ?_) | (refine wpList_store_row rfl 39 (.tmp 9) _ rfl _ zD (da a) rfl rfl (heap_alloc_new _ _) (infoArr _) rfl (arr_one _ _ _) ?_))
  simp only [Act.put, List.setIfInBounds_toArray, List.set_cons_succ, List.set_cons_zero]
  rw [World.setRow_alloc_new]
  replace f0 := blk_alloc (o' := .cells (da a) 39) f0
  replace f1 := blk_alloc (o' := .cells (da a) 39) f1
  replace f2 := blk_alloc (o' := .cells (da a) 39) f2
  replace f3 := blk_alloc (o' := .cells (da a) 39) f3
  have f9 : (w1.alloc (.cells (da a) 39)).heap[w1.heap.size]? = some (.cells (da a) 39) := heap_alloc_new _ _
  replace bW : Below w.heap.size w (w1.alloc (.cells (da a) 39)) := bW.alloc (by omega) _
  replace sW : w.heap.size + 4 ≤ (w1.alloc (.cells (da a) 39)).heap.size := by simp; omega
  generalize (w1.alloc (.cells (da a) 39)) = w2 at *
  generalize w1.heap.size = p9 at *
  go_upto_region 3 with (first | (refine wpList_load_row rfl 24 _ rfl _ rfl 24 _ (0, 0) _ (by assumption) Tryz.underlying24 rfl Tryz.infoWa ?_) | (go_at_call 13; refine (of_ref b _).mono ?_; rintro e w3 ⟨rfl, b1⟩; replace f0 := Below.stays b1 f0; replace f1 := Below.stays b1 f1; replace f2 := Below.stays b1 f2; replace f3 := Below.stays b1 f3; replace f9 := Below.stays b1 f9; replace bW := bW.trans (b1.mono bW.size); replace sW := Nat.le_trans sW b1.size; clear b1) | (refine wpList_alloc_row rfl 39 rfl zD zD_run ?_) | (refine wpList_store_row rfl 39 (.tmp 10) _ rfl _ zD (da b) rfl rfl (heap_alloc_new _ _) (infoArr _) rfl (arr_one _ _ _) ?_))
  simp only [Act.put, List.setIfInBounds_toArray, List.set_cons_succ, List.set_cons_zero]
  rw [World.setRow_alloc_new]
  replace f0 := blk_alloc (o' := .cells (da b) 39) f0
  replace f1 := blk_alloc (o' := .cells (da b) 39) f1
  replace f2 := blk_alloc (o' := .cells (da b) 39) f2
  replace f3 := blk_alloc (o' := .cells (da b) 39) f3
  replace f9 := blk_alloc (o' := .cells (da b) 39) f9
  have f10 : (w3.alloc (.cells (da b) 39)).heap[w3.heap.size]? = some (.cells (da b) 39) := heap_alloc_new _ _
  replace bW : Below w.heap.size w (w3.alloc (.cells (da b) 39)) := bW.alloc (by omega) _
  replace sW : w.heap.size + 4 ≤ (w3.alloc (.cells (da b) 39)).heap.size := by simp; omega
  generalize (w3.alloc (.cells (da b) 39)) = w4 at *
  generalize w3.heap.size = p10 at *
  go_upto_region 4 with (first | (refine wpList_load_row rfl 24 _ rfl _ rfl 24 _ (0, 0) _ (by assumption) Tryz.underlying24 rfl Tryz.infoWa ?_) | (go_at_call 49; refine (nof_ref a _).mono ?_; rintro e w5 ⟨vm, rfl, nm, b1⟩; replace f0 := Below.stays b1 f0; replace f1 := Below.stays b1 f1; replace f2 := Below.stays b1 f2; replace f3 := Below.stays b1 f3; replace f9 := Below.stays b1 f9; replace f10 := Below.stays b1 f10; replace bW := bW.trans (b1.mono bW.size); replace sW := Nat.le_trans sW b1.size; clear b1))
  go_upto_region 5 with (first | (refine wpList_load_row rfl 24 _ rfl _ rfl 24 _ (0, 0) _ (by assumption) Tryz.underlying24 rfl Tryz.infoWa ?_) | (go_at_call 49; refine (nof_ref b _).mono ?_; rintro e w6 ⟨vn, rfl, nn, b1⟩; replace f0 := Below.stays b1 f0; replace f1 := Below.stays b1 f1; replace f2 := Below.stays b1 f2; replace f3 := Below.stays b1 f3; replace f9 := Below.stays b1 f9; replace f10 := Below.stays b1 f10; replace nm := nm.stays b1; replace bW := bW.trans (b1.mono bW.size); replace sW := Nat.le_trans sW b1.size; clear b1))
  go_wp2_with (first | (refine wpList_load_row rfl 39 _ rfl _ rfl 39 (da a) (0, 0) _ f9 Tryz.underlying39 rfl (infoArr _) ?_) | (refine wpList_load_row rfl 39 _ rfl _ rfl 39 (da b) (0, 0) _ f10 Tryz.underlying39 rfl (infoArr _) ?_) | (go_at_call 52; refine (sub_ref a b _).mono ?_; rintro e wx ⟨rfl, b1⟩; replace f0 := Below.stays b1 f0; replace f1 := Below.stays b1 f1; replace f2 := Below.stays b1 f2; replace f3 := Below.stays b1 f3; replace f9 := Below.stays b1 f9; replace f10 := Below.stays b1 f10; replace nm := nm.stays b1; replace nn := nn.stays b1; replace bW := bW.trans (b1.mono bW.size); replace sW := Nat.le_trans sW b1.size; clear b1) | (go_at_call 20; refine (word_ref _ _).mono ?_; rintro e wx ⟨rfl, b1⟩; replace f0 := Below.stays b1 f0; replace f1 := Below.stays b1 f1; replace f2 := Below.stays b1 f2; replace f3 := Below.stays b1 f3; replace f9 := Below.stays b1 f9; replace f10 := Below.stays b1 f10; replace nm := nm.stays b1; replace nn := nn.stays b1; replace bW := bW.trans (b1.mono bW.size); replace sW := Nat.le_trans sW b1.size; clear b1) | (refine wpList_store_row rfl 24 (.tmp 8) _ rfl _ _ (wa (a + (M - 1 - b % M + 1))) rfl rfl f3 Tryz.infoWa rfl wa_one ?_))
  have e2 := word_cells (blk_row (c' := wa (a + (M - 1 - b % M + 1))) f3)
  exact bodyPost_ret (v := wd (a + (M - 1 - b % M + 1))) (by simp [results, Tryz.results12, go_sem, e2, fold_wa]) rfl ⟨rfl, below_setRow bW (by omega) _⟩
set_option maxHeartbeats 4000000 in
theorem low_4 (a b c : Nat) (w : World) : Calls Tryz.prog 12 #[.int .u8 4, wd a, wd b, wd c] w fun e w' => e = .returned (wd (a % M / (b % M))) ∧ Below w.heap.size w w' := by
  obtain ⟨W, hW, f0, f1, f2, f3, bW, sW⟩ := dboxes3 w a b c
  have hz := z4_wa
  have hsz := wa_size
  have hds : ∀ x, (da x).size = 32 := fun x => arr_size _ _ _
  replace sW := Nat.le_of_eq sW.symm
  go_enter Tryz.func12, Tryz.ntmps12
  go_upto_region 1 with fail
  try rw [hW]
  clear hW hz
  go_upto_region 2 with (first | (refine wpList_load_row rfl 24 _ rfl _ rfl 24 _ (0, 0) _ (by assumption) Tryz.underlying24 rfl Tryz.infoWa ?_) | (go_at_call 13; refine (of_ref a _).mono ?_; rintro e w1 ⟨rfl, b1⟩; replace f0 := Below.stays b1 f0; replace f1 := Below.stays b1 f1; replace f2 := Below.stays b1 f2; replace f3 := Below.stays b1 f3; replace bW := bW.trans (b1.mono bW.size); replace sW := Nat.le_trans sW b1.size; clear b1) | (refine wpList_alloc_row rfl 39 rfl zD zD_run ?_) | (refine wpList_store_row rfl 39 (.tmp 9) _ rfl _ zD (da a) rfl rfl (heap_alloc_new _ _) (infoArr _) rfl (arr_one _ _ _) ?_))
  simp only [Act.put, List.setIfInBounds_toArray, List.set_cons_succ, List.set_cons_zero]
  rw [World.setRow_alloc_new]
  replace f0 := blk_alloc (o' := .cells (da a) 39) f0
  replace f1 := blk_alloc (o' := .cells (da a) 39) f1
  replace f2 := blk_alloc (o' := .cells (da a) 39) f2
  replace f3 := blk_alloc (o' := .cells (da a) 39) f3
  have f9 : (w1.alloc (.cells (da a) 39)).heap[w1.heap.size]? = some (.cells (da a) 39) := heap_alloc_new _ _
  replace bW : Below w.heap.size w (w1.alloc (.cells (da a) 39)) := bW.alloc (by omega) _
  replace sW : w.heap.size + 4 ≤ (w1.alloc (.cells (da a) 39)).heap.size := by simp; omega
  generalize (w1.alloc (.cells (da a) 39)) = w2 at *
  generalize w1.heap.size = p9 at *
  go_upto_region 3 with (first | (refine wpList_load_row rfl 24 _ rfl _ rfl 24 _ (0, 0) _ (by assumption) Tryz.underlying24 rfl Tryz.infoWa ?_) | (go_at_call 13; refine (of_ref b _).mono ?_; rintro e w3 ⟨rfl, b1⟩; replace f0 := Below.stays b1 f0; replace f1 := Below.stays b1 f1; replace f2 := Below.stays b1 f2; replace f3 := Below.stays b1 f3; replace f9 := Below.stays b1 f9; replace bW := bW.trans (b1.mono bW.size); replace sW := Nat.le_trans sW b1.size; clear b1) | (refine wpList_alloc_row rfl 39 rfl zD zD_run ?_) | (refine wpList_store_row rfl 39 (.tmp 10) _ rfl _ zD (da b) rfl rfl (heap_alloc_new _ _) (infoArr _) rfl (arr_one _ _ _) ?_))
  simp only [Act.put, List.setIfInBounds_toArray, List.set_cons_succ, List.set_cons_zero]
  rw [World.setRow_alloc_new]
  replace f0 := blk_alloc (o' := .cells (da b) 39) f0
  replace f1 := blk_alloc (o' := .cells (da b) 39) f1
  replace f2 := blk_alloc (o' := .cells (da b) 39) f2
  replace f3 := blk_alloc (o' := .cells (da b) 39) f3
  replace f9 := blk_alloc (o' := .cells (da b) 39) f9
  have f10 : (w3.alloc (.cells (da b) 39)).heap[w3.heap.size]? = some (.cells (da b) 39) := heap_alloc_new _ _
  replace bW : Below w.heap.size w (w3.alloc (.cells (da b) 39)) := bW.alloc (by omega) _
  replace sW : w.heap.size + 4 ≤ (w3.alloc (.cells (da b) 39)).heap.size := by simp; omega
  generalize (w3.alloc (.cells (da b) 39)) = w4 at *
  generalize w3.heap.size = p10 at *
  go_upto_region 4 with (first | (refine wpList_load_row rfl 24 _ rfl _ rfl 24 _ (0, 0) _ (by assumption) Tryz.underlying24 rfl Tryz.infoWa ?_) | (go_at_call 49; refine (nof_ref a _).mono ?_; rintro e w5 ⟨vm, rfl, nm, b1⟩; replace f0 := Below.stays b1 f0; replace f1 := Below.stays b1 f1; replace f2 := Below.stays b1 f2; replace f3 := Below.stays b1 f3; replace f9 := Below.stays b1 f9; replace f10 := Below.stays b1 f10; replace bW := bW.trans (b1.mono bW.size); replace sW := Nat.le_trans sW b1.size; clear b1))
  go_upto_region 5 with (first | (refine wpList_load_row rfl 24 _ rfl _ rfl 24 _ (0, 0) _ (by assumption) Tryz.underlying24 rfl Tryz.infoWa ?_) | (go_at_call 49; refine (nof_ref b _).mono ?_; rintro e w6 ⟨vn, rfl, nn, b1⟩; replace f0 := Below.stays b1 f0; replace f1 := Below.stays b1 f1; replace f2 := Below.stays b1 f2; replace f3 := Below.stays b1 f3; replace f9 := Below.stays b1 f9; replace f10 := Below.stays b1 f10; replace nm := nm.stays b1; replace bW := bW.trans (b1.mono bW.size); replace sW := Nat.le_trans sW b1.size; clear b1))
  go_wp2_with (first | (go_at_call 53; refine (rdiv_ref _ _ 32 32 (a % M) (b % M) _ nm nn ⟨by omega, by omega⟩).mono ?_; rintro e wx ⟨vq, vr, kr, rfl, nq, nr, b1⟩; replace f0 := Below.stays b1 f0; replace f1 := Below.stays b1 f1; replace f2 := Below.stays b1 f2; replace f3 := Below.stays b1 f3; replace f9 := Below.stays b1 f9; replace f10 := Below.stays b1 f10; replace nm := nm.stays b1; replace nn := nn.stays b1; replace bW := bW.trans (b1.mono bW.size); replace sW := Nat.le_trans sW b1.size; clear b1) | (go_at_call 54; refine (nword_ref _ _ _ _ nq).mono ?_; rintro e wx ⟨rfl, b1⟩; replace f0 := Below.stays b1 f0; replace f1 := Below.stays b1 f1; replace f2 := Below.stays b1 f2; replace f3 := Below.stays b1 f3; replace f9 := Below.stays b1 f9; replace f10 := Below.stays b1 f10; replace nm := nm.stays b1; replace nn := nn.stays b1; replace bW := bW.trans (b1.mono bW.size); replace sW := Nat.le_trans sW b1.size; clear b1) | (refine wpList_store_row rfl 24 (.tmp 8) _ rfl _ _ (wa (a % M / (b % M))) rfl rfl f3 Tryz.infoWa rfl wa_one ?_))
  have e2 := word_cells (blk_row (c' := wa (a % M / (b % M))) f3)
  exact bodyPost_ret (v := wd (a % M / (b % M))) (by simp [results, Tryz.results12, go_sem, e2, fold_wa]) rfl ⟨rfl, below_setRow bW (by omega) _⟩
set_option maxHeartbeats 4000000 in
theorem low_6 (a b c : Nat) (w : World) : Calls Tryz.prog 12 #[.int .u8 6, wd a, wd b, wd c] w fun e w' => e = .returned (wd (rs (a % M) (b % M))) ∧ Below w.heap.size w w' := by
  obtain ⟨W, hW, f0, f1, f2, f3, bW, sW⟩ := dboxes3 w a b c
  have hz := z4_wa
  have hsz := wa_size
  have hds : ∀ x, (da x).size = 32 := fun x => arr_size _ _ _
  replace sW := Nat.le_of_eq sW.symm
  go_enter Tryz.func12, Tryz.ntmps12
  go_upto_region 1 with fail
  try rw [hW]
  clear hW hz
  go_upto_region 2 with (first | (refine wpList_load_row rfl 24 _ rfl _ rfl 24 _ (0, 0) _ (by assumption) Tryz.underlying24 rfl Tryz.infoWa ?_) | (go_at_call 13; refine (of_ref a _).mono ?_; rintro e w1 ⟨rfl, b1⟩; replace f0 := Below.stays b1 f0; replace f1 := Below.stays b1 f1; replace f2 := Below.stays b1 f2; replace f3 := Below.stays b1 f3; replace bW := bW.trans (b1.mono bW.size); replace sW := Nat.le_trans sW b1.size; clear b1) | (refine wpList_alloc_row rfl 39 rfl zD zD_run ?_) | (refine wpList_store_row rfl 39 (.tmp 9) _ rfl _ zD (da a) rfl rfl (heap_alloc_new _ _) (infoArr _) rfl (arr_one _ _ _) ?_))
  simp only [Act.put, List.setIfInBounds_toArray, List.set_cons_succ, List.set_cons_zero]
  rw [World.setRow_alloc_new]
  replace f0 := blk_alloc (o' := .cells (da a) 39) f0
  replace f1 := blk_alloc (o' := .cells (da a) 39) f1
  replace f2 := blk_alloc (o' := .cells (da a) 39) f2
  replace f3 := blk_alloc (o' := .cells (da a) 39) f3
  have f9 : (w1.alloc (.cells (da a) 39)).heap[w1.heap.size]? = some (.cells (da a) 39) := heap_alloc_new _ _
  replace bW : Below w.heap.size w (w1.alloc (.cells (da a) 39)) := bW.alloc (by omega) _
  replace sW : w.heap.size + 4 ≤ (w1.alloc (.cells (da a) 39)).heap.size := by simp; omega
  generalize (w1.alloc (.cells (da a) 39)) = w2 at *
  generalize w1.heap.size = p9 at *
  go_upto_region 3 with (first | (refine wpList_load_row rfl 24 _ rfl _ rfl 24 _ (0, 0) _ (by assumption) Tryz.underlying24 rfl Tryz.infoWa ?_) | (go_at_call 13; refine (of_ref b _).mono ?_; rintro e w3 ⟨rfl, b1⟩; replace f0 := Below.stays b1 f0; replace f1 := Below.stays b1 f1; replace f2 := Below.stays b1 f2; replace f3 := Below.stays b1 f3; replace f9 := Below.stays b1 f9; replace bW := bW.trans (b1.mono bW.size); replace sW := Nat.le_trans sW b1.size; clear b1) | (refine wpList_alloc_row rfl 39 rfl zD zD_run ?_) | (refine wpList_store_row rfl 39 (.tmp 10) _ rfl _ zD (da b) rfl rfl (heap_alloc_new _ _) (infoArr _) rfl (arr_one _ _ _) ?_))
  simp only [Act.put, List.setIfInBounds_toArray, List.set_cons_succ, List.set_cons_zero]
  rw [World.setRow_alloc_new]
  replace f0 := blk_alloc (o' := .cells (da b) 39) f0
  replace f1 := blk_alloc (o' := .cells (da b) 39) f1
  replace f2 := blk_alloc (o' := .cells (da b) 39) f2
  replace f3 := blk_alloc (o' := .cells (da b) 39) f3
  replace f9 := blk_alloc (o' := .cells (da b) 39) f9
  have f10 : (w3.alloc (.cells (da b) 39)).heap[w3.heap.size]? = some (.cells (da b) 39) := heap_alloc_new _ _
  replace bW : Below w.heap.size w (w3.alloc (.cells (da b) 39)) := bW.alloc (by omega) _
  replace sW : w.heap.size + 4 ≤ (w3.alloc (.cells (da b) 39)).heap.size := by simp; omega
  generalize (w3.alloc (.cells (da b) 39)) = w4 at *
  generalize w3.heap.size = p10 at *
  go_upto_region 4 with (first | (refine wpList_load_row rfl 24 _ rfl _ rfl 24 _ (0, 0) _ (by assumption) Tryz.underlying24 rfl Tryz.infoWa ?_) | (go_at_call 49; refine (nof_ref a _).mono ?_; rintro e w5 ⟨vm, rfl, nm, b1⟩; replace f0 := Below.stays b1 f0; replace f1 := Below.stays b1 f1; replace f2 := Below.stays b1 f2; replace f3 := Below.stays b1 f3; replace f9 := Below.stays b1 f9; replace f10 := Below.stays b1 f10; replace bW := bW.trans (b1.mono bW.size); replace sW := Nat.le_trans sW b1.size; clear b1))
  go_upto_region 5 with (first | (refine wpList_load_row rfl 24 _ rfl _ rfl 24 _ (0, 0) _ (by assumption) Tryz.underlying24 rfl Tryz.infoWa ?_) | (go_at_call 49; refine (nof_ref b _).mono ?_; rintro e w6 ⟨vn, rfl, nn, b1⟩; replace f0 := Below.stays b1 f0; replace f1 := Below.stays b1 f1; replace f2 := Below.stays b1 f2; replace f3 := Below.stays b1 f3; replace f9 := Below.stays b1 f9; replace f10 := Below.stays b1 f10; replace nm := nm.stays b1; replace bW := bW.trans (b1.mono bW.size); replace sW := Nat.le_trans sW b1.size; clear b1))
  go_wp2_with (first | (go_at_call 53; refine (rdiv_ref _ _ 32 32 (a % M) (b % M) _ nm nn ⟨by omega, by omega⟩).mono ?_; rintro e wx ⟨vq, vr, kr, rfl, nq, nr, b1⟩; replace f0 := Below.stays b1 f0; replace f1 := Below.stays b1 f1; replace f2 := Below.stays b1 f2; replace f3 := Below.stays b1 f3; replace f9 := Below.stays b1 f9; replace f10 := Below.stays b1 f10; replace nm := nm.stays b1; replace nn := nn.stays b1; replace bW := bW.trans (b1.mono bW.size); replace sW := Nat.le_trans sW b1.size; clear b1) | (go_at_call 54; refine (nword_ref _ _ _ _ nr).mono ?_; rintro e wx ⟨rfl, b1⟩; replace f0 := Below.stays b1 f0; replace f1 := Below.stays b1 f1; replace f2 := Below.stays b1 f2; replace f3 := Below.stays b1 f3; replace f9 := Below.stays b1 f9; replace f10 := Below.stays b1 f10; replace nm := nm.stays b1; replace nn := nn.stays b1; replace bW := bW.trans (b1.mono bW.size); replace sW := Nat.le_trans sW b1.size; clear b1) | (refine wpList_store_row rfl 24 (.tmp 8) _ rfl _ _ (wa (rs (a % M) (b % M))) rfl rfl f3 Tryz.infoWa rfl wa_one ?_))
  have e2 := word_cells (blk_row (c' := wa (rs (a % M) (b % M))) f3)
  exact bodyPost_ret (v := wd (rs (a % M) (b % M))) (by simp [results, Tryz.results12, go_sem, e2, fold_wa]) rfl ⟨rfl, below_setRow bW (by omega) _⟩
set_option maxHeartbeats 4000000 in
theorem low_5 (a b c : Nat) (w : World) : Calls Tryz.prog 12 #[.int .u8 5, wd a, wd b, wd c] w fun e w' => e = .returned (wd (sq a b)) ∧ Below w.heap.size w w' := by
  obtain ⟨W, hW, f0, f1, f2, f3, bW, sW⟩ := dboxes3 w a b c
  have hz := z4_wa
  have hsz := wa_size
  have hds : ∀ x, (da x).size = 32 := fun x => arr_size _ _ _
  replace sW := Nat.le_of_eq sW.symm
  go_enter Tryz.func12, Tryz.ntmps12
  go_upto_region 1 with fail
  try rw [hW]
  clear hW hz
  go_upto_region 2 with (first | (refine wpList_load_row rfl 24 _ rfl _ rfl 24 _ (0, 0) _ (by assumption) Tryz.underlying24 rfl Tryz.infoWa ?_) | (go_at_call 13; refine (of_ref a _).mono ?_; rintro e w1 ⟨rfl, b1⟩; replace f0 := Below.stays b1 f0; replace f1 := Below.stays b1 f1; replace f2 := Below.stays b1 f2; replace f3 := Below.stays b1 f3; replace bW := bW.trans (b1.mono bW.size); replace sW := Nat.le_trans sW b1.size; clear b1) | (refine wpList_alloc_row rfl 39 rfl zD zD_run ?_) | (refine wpList_store_row rfl 39 (.tmp 9) _ rfl _ zD (da a) rfl rfl (heap_alloc_new _ _) (infoArr _) rfl (arr_one _ _ _) ?_))
  simp only [Act.put, List.setIfInBounds_toArray, List.set_cons_succ, List.set_cons_zero]
  rw [World.setRow_alloc_new]
  replace f0 := blk_alloc (o' := .cells (da a) 39) f0
  replace f1 := blk_alloc (o' := .cells (da a) 39) f1
  replace f2 := blk_alloc (o' := .cells (da a) 39) f2
  replace f3 := blk_alloc (o' := .cells (da a) 39) f3
  have f9 : (w1.alloc (.cells (da a) 39)).heap[w1.heap.size]? = some (.cells (da a) 39) := heap_alloc_new _ _
  replace bW : Below w.heap.size w (w1.alloc (.cells (da a) 39)) := bW.alloc (by omega) _
  replace sW : w.heap.size + 4 ≤ (w1.alloc (.cells (da a) 39)).heap.size := by simp; omega
  generalize (w1.alloc (.cells (da a) 39)) = w2 at *
  generalize w1.heap.size = p9 at *
  go_upto_region 3 with (first | (refine wpList_load_row rfl 24 _ rfl _ rfl 24 _ (0, 0) _ (by assumption) Tryz.underlying24 rfl Tryz.infoWa ?_) | (go_at_call 13; refine (of_ref b _).mono ?_; rintro e w3 ⟨rfl, b1⟩; replace f0 := Below.stays b1 f0; replace f1 := Below.stays b1 f1; replace f2 := Below.stays b1 f2; replace f3 := Below.stays b1 f3; replace f9 := Below.stays b1 f9; replace bW := bW.trans (b1.mono bW.size); replace sW := Nat.le_trans sW b1.size; clear b1) | (refine wpList_alloc_row rfl 39 rfl zD zD_run ?_) | (refine wpList_store_row rfl 39 (.tmp 10) _ rfl _ zD (da b) rfl rfl (heap_alloc_new _ _) (infoArr _) rfl (arr_one _ _ _) ?_))
  simp only [Act.put, List.setIfInBounds_toArray, List.set_cons_succ, List.set_cons_zero]
  rw [World.setRow_alloc_new]
  replace f0 := blk_alloc (o' := .cells (da b) 39) f0
  replace f1 := blk_alloc (o' := .cells (da b) 39) f1
  replace f2 := blk_alloc (o' := .cells (da b) 39) f2
  replace f3 := blk_alloc (o' := .cells (da b) 39) f3
  replace f9 := blk_alloc (o' := .cells (da b) 39) f9
  have f10 : (w3.alloc (.cells (da b) 39)).heap[w3.heap.size]? = some (.cells (da b) 39) := heap_alloc_new _ _
  replace bW : Below w.heap.size w (w3.alloc (.cells (da b) 39)) := bW.alloc (by omega) _
  replace sW : w.heap.size + 4 ≤ (w3.alloc (.cells (da b) 39)).heap.size := by simp; omega
  generalize (w3.alloc (.cells (da b) 39)) = w4 at *
  generalize w3.heap.size = p10 at *
  go_upto_region 4 with (first | (refine wpList_load_row rfl 24 _ rfl _ rfl 24 _ (0, 0) _ (by assumption) Tryz.underlying24 rfl Tryz.infoWa ?_) | (go_at_call 49; refine (nof_ref a _).mono ?_; rintro e w5 ⟨vm, rfl, nm, b1⟩; replace f0 := Below.stays b1 f0; replace f1 := Below.stays b1 f1; replace f2 := Below.stays b1 f2; replace f3 := Below.stays b1 f3; replace f9 := Below.stays b1 f9; replace f10 := Below.stays b1 f10; replace bW := bW.trans (b1.mono bW.size); replace sW := Nat.le_trans sW b1.size; clear b1))
  go_upto_region 5 with (first | (refine wpList_load_row rfl 24 _ rfl _ rfl 24 _ (0, 0) _ (by assumption) Tryz.underlying24 rfl Tryz.infoWa ?_) | (go_at_call 49; refine (nof_ref b _).mono ?_; rintro e w6 ⟨vn, rfl, nn, b1⟩; replace f0 := Below.stays b1 f0; replace f1 := Below.stays b1 f1; replace f2 := Below.stays b1 f2; replace f3 := Below.stays b1 f3; replace f9 := Below.stays b1 f9; replace f10 := Below.stays b1 f10; replace nm := nm.stays b1; replace bW := bW.trans (b1.mono bW.size); replace sW := Nat.le_trans sW b1.size; clear b1))
  have hz := z4_wa
  have hp1 := store_pair1
  have hp2 := store_pair2
  go_upto_region 17 with (first | (refine wpList_load_row rfl 24 _ rfl _ rfl 24 _ (0, 0) _ (by assumption) Tryz.underlying24 rfl Tryz.infoWa ?_) | (go_at_call 55; refine (rsdiv_wd a b _).mono ?_; rintro e wx ⟨rfl, b1⟩; replace f0 := Below.stays b1 f0; replace f1 := Below.stays b1 f1; replace f2 := Below.stays b1 f2; replace f3 := Below.stays b1 f3; replace f9 := Below.stays b1 f9; replace f10 := Below.stays b1 f10; replace nm := nm.stays b1; replace nn := nn.stays b1; replace bW := bW.trans (b1.mono bW.size); replace sW := Nat.le_trans sW b1.size; clear b1))
  have g1 : ((wx.alloc (.cells (wa (sq a b)) 24)).alloc (.cells (wa (sr a b)) 24)).heap[wx.heap.size]? = some (.cells (wa (sq a b)) 24) := blk_alloc (blk_new _ rfl)
  have g2 : ((wx.alloc (.cells (wa (sq a b)) 24)).alloc (.cells (wa (sr a b)) 24)).heap[wx.heap.size + 1]? = some (.cells (wa (sr a b)) 24) := blk_new _ (by simp)
  replace f3 := blk_alloc (o' := .cells (wa (sr a b)) 24) (blk_alloc (o' := .cells (wa (sq a b)) 24) f3)
  replace bW : Below w.heap.size w ((wx.alloc (.cells (wa (sq a b)) 24)).alloc (.cells (wa (sr a b)) 24)) := (bW.alloc (by omega) _).alloc (by simp; omega) _
  clear hp1 hp2 hz f0 f1 f2 f9 f10 nm nn
  generalize ((wx.alloc (.cells (wa (sq a b)) 24)).alloc (.cells (wa (sr a b)) 24)) = w7 at *
  generalize wx.heap.size = p15 at *
  go_wp2_with (first | (refine wpList_load_row rfl 24 _ rfl _ rfl 24 _ (0, 0) _ g1 Tryz.underlying24 rfl Tryz.infoWa ?_) | (refine wpList_store_row rfl 24 (.tmp 8) _ rfl _ _ (wa (sq a b)) rfl rfl f3 Tryz.infoWa rfl wa_one ?_))
  have e2 := word_cells (blk_row (c' := wa (sq a b)) f3)
  exact bodyPost_ret (v := wd (sq a b)) (by simp [results, Tryz.results12, go_sem, e2, fold_wa]) rfl ⟨rfl, below_setRow bW (by omega) _⟩
set_option maxHeartbeats 4000000 in
theorem low_7 (a b c : Nat) (w : World) : Calls Tryz.prog 12 #[.int .u8 7, wd a, wd b, wd c] w fun e w' => e = .returned (wd (sr a b)) ∧ Below w.heap.size w w' := by
  obtain ⟨W, hW, f0, f1, f2, f3, bW, sW⟩ := dboxes3 w a b c
  have hz := z4_wa
  have hsz := wa_size
  have hds : ∀ x, (da x).size = 32 := fun x => arr_size _ _ _
  replace sW := Nat.le_of_eq sW.symm
  go_enter Tryz.func12, Tryz.ntmps12
  go_upto_region 1 with fail
  try rw [hW]
  clear hW hz
  go_upto_region 2 with (first | (refine wpList_load_row rfl 24 _ rfl _ rfl 24 _ (0, 0) _ (by assumption) Tryz.underlying24 rfl Tryz.infoWa ?_) | (go_at_call 13; refine (of_ref a _).mono ?_; rintro e w1 ⟨rfl, b1⟩; replace f0 := Below.stays b1 f0; replace f1 := Below.stays b1 f1; replace f2 := Below.stays b1 f2; replace f3 := Below.stays b1 f3; replace bW := bW.trans (b1.mono bW.size); replace sW := Nat.le_trans sW b1.size; clear b1) | (refine wpList_alloc_row rfl 39 rfl zD zD_run ?_) | (refine wpList_store_row rfl 39 (.tmp 9) _ rfl _ zD (da a) rfl rfl (heap_alloc_new _ _) (infoArr _) rfl (arr_one _ _ _) ?_))
  simp only [Act.put, List.setIfInBounds_toArray, List.set_cons_succ, List.set_cons_zero]
  rw [World.setRow_alloc_new]
  replace f0 := blk_alloc (o' := .cells (da a) 39) f0
  replace f1 := blk_alloc (o' := .cells (da a) 39) f1
  replace f2 := blk_alloc (o' := .cells (da a) 39) f2
  replace f3 := blk_alloc (o' := .cells (da a) 39) f3
  have f9 : (w1.alloc (.cells (da a) 39)).heap[w1.heap.size]? = some (.cells (da a) 39) := heap_alloc_new _ _
  replace bW : Below w.heap.size w (w1.alloc (.cells (da a) 39)) := bW.alloc (by omega) _
  replace sW : w.heap.size + 4 ≤ (w1.alloc (.cells (da a) 39)).heap.size := by simp; omega
  generalize (w1.alloc (.cells (da a) 39)) = w2 at *
  generalize w1.heap.size = p9 at *
  go_upto_region 3 with (first | (refine wpList_load_row rfl 24 _ rfl _ rfl 24 _ (0, 0) _ (by assumption) Tryz.underlying24 rfl Tryz.infoWa ?_) | (go_at_call 13; refine (of_ref b _).mono ?_; rintro e w3 ⟨rfl, b1⟩; replace f0 := Below.stays b1 f0; replace f1 := Below.stays b1 f1; replace f2 := Below.stays b1 f2; replace f3 := Below.stays b1 f3; replace f9 := Below.stays b1 f9; replace bW := bW.trans (b1.mono bW.size); replace sW := Nat.le_trans sW b1.size; clear b1) | (refine wpList_alloc_row rfl 39 rfl zD zD_run ?_) | (refine wpList_store_row rfl 39 (.tmp 10) _ rfl _ zD (da b) rfl rfl (heap_alloc_new _ _) (infoArr _) rfl (arr_one _ _ _) ?_))
  simp only [Act.put, List.setIfInBounds_toArray, List.set_cons_succ, List.set_cons_zero]
  rw [World.setRow_alloc_new]
  replace f0 := blk_alloc (o' := .cells (da b) 39) f0
  replace f1 := blk_alloc (o' := .cells (da b) 39) f1
  replace f2 := blk_alloc (o' := .cells (da b) 39) f2
  replace f3 := blk_alloc (o' := .cells (da b) 39) f3
  replace f9 := blk_alloc (o' := .cells (da b) 39) f9
  have f10 : (w3.alloc (.cells (da b) 39)).heap[w3.heap.size]? = some (.cells (da b) 39) := heap_alloc_new _ _
  replace bW : Below w.heap.size w (w3.alloc (.cells (da b) 39)) := bW.alloc (by omega) _
  replace sW : w.heap.size + 4 ≤ (w3.alloc (.cells (da b) 39)).heap.size := by simp; omega
  generalize (w3.alloc (.cells (da b) 39)) = w4 at *
  generalize w3.heap.size = p10 at *
  go_upto_region 4 with (first | (refine wpList_load_row rfl 24 _ rfl _ rfl 24 _ (0, 0) _ (by assumption) Tryz.underlying24 rfl Tryz.infoWa ?_) | (go_at_call 49; refine (nof_ref a _).mono ?_; rintro e w5 ⟨vm, rfl, nm, b1⟩; replace f0 := Below.stays b1 f0; replace f1 := Below.stays b1 f1; replace f2 := Below.stays b1 f2; replace f3 := Below.stays b1 f3; replace f9 := Below.stays b1 f9; replace f10 := Below.stays b1 f10; replace bW := bW.trans (b1.mono bW.size); replace sW := Nat.le_trans sW b1.size; clear b1))
  go_upto_region 5 with (first | (refine wpList_load_row rfl 24 _ rfl _ rfl 24 _ (0, 0) _ (by assumption) Tryz.underlying24 rfl Tryz.infoWa ?_) | (go_at_call 49; refine (nof_ref b _).mono ?_; rintro e w6 ⟨vn, rfl, nn, b1⟩; replace f0 := Below.stays b1 f0; replace f1 := Below.stays b1 f1; replace f2 := Below.stays b1 f2; replace f3 := Below.stays b1 f3; replace f9 := Below.stays b1 f9; replace f10 := Below.stays b1 f10; replace nm := nm.stays b1; replace bW := bW.trans (b1.mono bW.size); replace sW := Nat.le_trans sW b1.size; clear b1))
  have hz := z4_wa
  have hp1 := store_pair1
  have hp2 := store_pair2
  go_upto_region 23 with (first | (refine wpList_load_row rfl 24 _ rfl _ rfl 24 _ (0, 0) _ (by assumption) Tryz.underlying24 rfl Tryz.infoWa ?_) | (go_at_call 55; refine (rsdiv_wd a b _).mono ?_; rintro e wx ⟨rfl, b1⟩; replace f0 := Below.stays b1 f0; replace f1 := Below.stays b1 f1; replace f2 := Below.stays b1 f2; replace f3 := Below.stays b1 f3; replace f9 := Below.stays b1 f9; replace f10 := Below.stays b1 f10; replace nm := nm.stays b1; replace nn := nn.stays b1; replace bW := bW.trans (b1.mono bW.size); replace sW := Nat.le_trans sW b1.size; clear b1))
  have g1 : ((wx.alloc (.cells (wa (sq a b)) 24)).alloc (.cells (wa (sr a b)) 24)).heap[wx.heap.size]? = some (.cells (wa (sq a b)) 24) := blk_alloc (blk_new _ rfl)
  have g2 : ((wx.alloc (.cells (wa (sq a b)) 24)).alloc (.cells (wa (sr a b)) 24)).heap[wx.heap.size + 1]? = some (.cells (wa (sr a b)) 24) := blk_new _ (by simp)
  replace f3 := blk_alloc (o' := .cells (wa (sr a b)) 24) (blk_alloc (o' := .cells (wa (sq a b)) 24) f3)
  replace bW : Below w.heap.size w ((wx.alloc (.cells (wa (sq a b)) 24)).alloc (.cells (wa (sr a b)) 24)) := (bW.alloc (by omega) _).alloc (by simp; omega) _
  clear hp1 hp2 hz f0 f1 f2 f9 f10 nm nn
  generalize ((wx.alloc (.cells (wa (sq a b)) 24)).alloc (.cells (wa (sr a b)) 24)) = w7 at *
  generalize wx.heap.size = p15 at *
  go_wp2_with (first | (refine wpList_load_row rfl 24 _ rfl _ rfl 24 _ (0, 0) _ g2 Tryz.underlying24 rfl Tryz.infoWa ?_) | (refine wpList_store_row rfl 24 (.tmp 8) _ rfl _ _ (wa (sr a b)) rfl rfl f3 Tryz.infoWa rfl wa_one ?_))
  have e2 := word_cells (blk_row (c' := wa (sr a b)) f3)
  exact bodyPost_ret (v := wd (sr a b)) (by simp [results, Tryz.results12, go_sem, e2, fold_wa]) rfl ⟨rfl, below_setRow bW (by omega) _⟩
set_option maxHeartbeats 4000000 in
theorem low_10 (a b c : Nat) (w : World) : Calls Tryz.prog 12 #[.int .u8 10, wd a, wd b, wd c] w fun e w' => e = .returned (wd (a ^ (b % M))) ∧ Below w.heap.size w w' := by
  obtain ⟨W, hW, f0, f1, f2, f3, bW, sW⟩ := dboxes3 w a b c
  have hz := z4_wa
  have hsz := wa_size
  have hds : ∀ x, (da x).size = 32 := fun x => arr_size _ _ _
  replace sW := Nat.le_of_eq sW.symm
  go_enter Tryz.func12, Tryz.ntmps12
  go_upto_region 1 with fail
  try rw [hW]
  clear hW hz
  go_upto_region 2 with (first | (refine wpList_load_row rfl 24 _ rfl _ rfl 24 _ (0, 0) _ (by assumption) Tryz.underlying24 rfl Tryz.infoWa ?_) | (go_at_call 13; refine (of_ref a _).mono ?_; rintro e w1 ⟨rfl, b1⟩; replace f0 := Below.stays b1 f0; replace f1 := Below.stays b1 f1; replace f2 := Below.stays b1 f2; replace f3 := Below.stays b1 f3; replace bW := bW.trans (b1.mono bW.size); replace sW := Nat.le_trans sW b1.size; clear b1) | (refine wpList_alloc_row rfl 39 rfl zD zD_run ?_) | (refine wpList_store_row rfl 39 (.tmp 9) _ rfl _ zD (da a) rfl rfl (heap_alloc_new _ _) (infoArr _) rfl (arr_one _ _ _) ?_))
  simp only [Act.put, List.setIfInBounds_toArray, List.set_cons_succ, List.set_cons_zero]
  rw [World.setRow_alloc_new]
  replace f0 := blk_alloc (o' := .cells (da a) 39) f0
  replace f1 := blk_alloc (o' := .cells (da a) 39) f1
  replace f2 := blk_alloc (o' := .cells (da a) 39) f2
  replace f3 := blk_alloc (o' := .cells (da a) 39) f3
  have f9 : (w1.alloc (.cells (da a) 39)).heap[w1.heap.size]? = some (.cells (da a) 39) := heap_alloc_new _ _
  replace bW : Below w.heap.size w (w1.alloc (.cells (da a) 39)) := bW.alloc (by omega) _
  replace sW : w.heap.size + 4 ≤ (w1.alloc (.cells (da a) 39)).heap.size := by simp; omega
  generalize (w1.alloc (.cells (da a) 39)) = w2 at *
  generalize w1.heap.size = p9 at *
  go_upto_region 3 with (first | (refine wpList_load_row rfl 24 _ rfl _ rfl 24 _ (0, 0) _ (by assumption) Tryz.underlying24 rfl Tryz.infoWa ?_) | (go_at_call 13; refine (of_ref b _).mono ?_; rintro e w3 ⟨rfl, b1⟩; replace f0 := Below.stays b1 f0; replace f1 := Below.stays b1 f1; replace f2 := Below.stays b1 f2; replace f3 := Below.stays b1 f3; replace f9 := Below.stays b1 f9; replace bW := bW.trans (b1.mono bW.size); replace sW := Nat.le_trans sW b1.size; clear b1) | (refine wpList_alloc_row rfl 39 rfl zD zD_run ?_) | (refine wpList_store_row rfl 39 (.tmp 10) _ rfl _ zD (da b) rfl rfl (heap_alloc_new _ _) (infoArr _) rfl (arr_one _ _ _) ?_))
  simp only [Act.put, List.setIfInBounds_toArray, List.set_cons_succ, List.set_cons_zero]
  rw [World.setRow_alloc_new]
  replace f0 := blk_alloc (o' := .cells (da b) 39) f0
  replace f1 := blk_alloc (o' := .cells (da b) 39) f1
  replace f2 := blk_alloc (o' := .cells (da b) 39) f2
  replace f3 := blk_alloc (o' := .cells (da b) 39) f3
  replace f9 := blk_alloc (o' := .cells (da b) 39) f9
  have f10 : (w3.alloc (.cells (da b) 39)).heap[w3.heap.size]? = some (.cells (da b) 39) := heap_alloc_new _ _
  replace bW : Below w.heap.size w (w3.alloc (.cells (da b) 39)) := bW.alloc (by omega) _
  replace sW : w.heap.size + 4 ≤ (w3.alloc (.cells (da b) 39)).heap.size := by simp; omega
  generalize (w3.alloc (.cells (da b) 39)) = w4 at *
  generalize w3.heap.size = p10 at *
  go_upto_region 4 with (first | (refine wpList_load_row rfl 24 _ rfl _ rfl 24 _ (0, 0) _ (by assumption) Tryz.underlying24 rfl Tryz.infoWa ?_) | (go_at_call 49; refine (nof_ref a _).mono ?_; rintro e w5 ⟨vm, rfl, nm, b1⟩; replace f0 := Below.stays b1 f0; replace f1 := Below.stays b1 f1; replace f2 := Below.stays b1 f2; replace f3 := Below.stays b1 f3; replace f9 := Below.stays b1 f9; replace f10 := Below.stays b1 f10; replace bW := bW.trans (b1.mono bW.size); replace sW := Nat.le_trans sW b1.size; clear b1))
  go_upto_region 5 with (first | (refine wpList_load_row rfl 24 _ rfl _ rfl 24 _ (0, 0) _ (by assumption) Tryz.underlying24 rfl Tryz.infoWa ?_) | (go_at_call 49; refine (nof_ref b _).mono ?_; rintro e w6 ⟨vn, rfl, nn, b1⟩; replace f0 := Below.stays b1 f0; replace f1 := Below.stays b1 f1; replace f2 := Below.stays b1 f2; replace f3 := Below.stays b1 f3; replace f9 := Below.stays b1 f9; replace f10 := Below.stays b1 f10; replace nm := nm.stays b1; replace bW := bW.trans (b1.mono bW.size); replace sW := Nat.le_trans sW b1.size; clear b1))
  go_wp2_with (first | (refine wpList_load_row rfl 24 _ rfl _ rfl 24 _ (0, 0) _ (by assumption) Tryz.underlying24 rfl Tryz.infoWa ?_) | (go_at_call 58; refine (rexp_walk a b _).mono ?_; rintro e wx ⟨rfl, b1⟩; replace f0 := Below.stays b1 f0; replace f1 := Below.stays b1 f1; replace f2 := Below.stays b1 f2; replace f3 := Below.stays b1 f3; replace f9 := Below.stays b1 f9; replace f10 := Below.stays b1 f10; replace nm := nm.stays b1; replace nn := nn.stays b1; replace bW := bW.trans (b1.mono bW.size); replace sW := Nat.le_trans sW b1.size; clear b1) | (refine wpList_store_row rfl 24 (.tmp 8) _ rfl _ _ (wa (a ^ (b % M))) rfl rfl f3 Tryz.infoWa rfl wa_one ?_))
  have e2 := word_cells (blk_row (c' := wa (a ^ (b % M))) f3)
  exact bodyPost_ret (v := wd (a ^ (b % M))) (by simp [results, Tryz.results12, go_sem, e2, fold_wa]) rfl ⟨rfl, below_setRow bW (by omega) _⟩
set_option maxHeartbeats 4000000 in
theorem low_11 (a b c : Nat) (w : World) : Calls Tryz.prog 12 #[.int .u8 11, wd a, wd b, wd c] w fun e w' => e = .returned (wd (exn a b)) ∧ Below w.heap.size w w' := by
  obtain ⟨W, hW, f0, f1, f2, f3, bW, sW⟩ := dboxes3 w a b c
  have hz := z4_wa
  have hsz := wa_size
  have hds : ∀ x, (da x).size = 32 := fun x => arr_size _ _ _
  replace sW := Nat.le_of_eq sW.symm
  go_enter Tryz.func12, Tryz.ntmps12
  go_upto_region 1 with fail
  try rw [hW]
  clear hW hz
  go_upto_region 2 with (first | (refine wpList_load_row rfl 24 _ rfl _ rfl 24 _ (0, 0) _ (by assumption) Tryz.underlying24 rfl Tryz.infoWa ?_) | (go_at_call 13; refine (of_ref a _).mono ?_; rintro e w1 ⟨rfl, b1⟩; replace f0 := Below.stays b1 f0; replace f1 := Below.stays b1 f1; replace f2 := Below.stays b1 f2; replace f3 := Below.stays b1 f3; replace bW := bW.trans (b1.mono bW.size); replace sW := Nat.le_trans sW b1.size; clear b1) | (refine wpList_alloc_row rfl 39 rfl zD zD_run ?_) | (refine wpList_store_row rfl 39 (.tmp 9) _ rfl _ zD (da a) rfl rfl (heap_alloc_new _ _) (infoArr _) rfl (arr_one _ _ _) ?_))
  simp only [Act.put, List.setIfInBounds_toArray, List.set_cons_succ, List.set_cons_zero]
  rw [World.setRow_alloc_new]
  replace f0 := blk_alloc (o' := .cells (da a) 39) f0
  replace f1 := blk_alloc (o' := .cells (da a) 39) f1
  replace f2 := blk_alloc (o' := .cells (da a) 39) f2
  replace f3 := blk_alloc (o' := .cells (da a) 39) f3
  have f9 : (w1.alloc (.cells (da a) 39)).heap[w1.heap.size]? = some (.cells (da a) 39) := heap_alloc_new _ _
  replace bW : Below w.heap.size w (w1.alloc (.cells (da a) 39)) := bW.alloc (by omega) _
  replace sW : w.heap.size + 4 ≤ (w1.alloc (.cells (da a) 39)).heap.size := by simp; omega
  generalize (w1.alloc (.cells (da a) 39)) = w2 at *
  generalize w1.heap.size = p9 at *
  go_upto_region 3 with (first | (refine wpList_load_row rfl 24 _ rfl _ rfl 24 _ (0, 0) _ (by assumption) Tryz.underlying24 rfl Tryz.infoWa ?_) | (go_at_call 13; refine (of_ref b _).mono ?_; rintro e w3 ⟨rfl, b1⟩; replace f0 := Below.stays b1 f0; replace f1 := Below.stays b1 f1; replace f2 := Below.stays b1 f2; replace f3 := Below.stays b1 f3; replace f9 := Below.stays b1 f9; replace bW := bW.trans (b1.mono bW.size); replace sW := Nat.le_trans sW b1.size; clear b1) | (refine wpList_alloc_row rfl 39 rfl zD zD_run ?_) | (refine wpList_store_row rfl 39 (.tmp 10) _ rfl _ zD (da b) rfl rfl (heap_alloc_new _ _) (infoArr _) rfl (arr_one _ _ _) ?_))
  simp only [Act.put, List.setIfInBounds_toArray, List.set_cons_succ, List.set_cons_zero]
  rw [World.setRow_alloc_new]
  replace f0 := blk_alloc (o' := .cells (da b) 39) f0
  replace f1 := blk_alloc (o' := .cells (da b) 39) f1
  replace f2 := blk_alloc (o' := .cells (da b) 39) f2
  replace f3 := blk_alloc (o' := .cells (da b) 39) f3
  replace f9 := blk_alloc (o' := .cells (da b) 39) f9
  have f10 : (w3.alloc (.cells (da b) 39)).heap[w3.heap.size]? = some (.cells (da b) 39) := heap_alloc_new _ _
  replace bW : Below w.heap.size w (w3.alloc (.cells (da b) 39)) := bW.alloc (by omega) _
  replace sW : w.heap.size + 4 ≤ (w3.alloc (.cells (da b) 39)).heap.size := by simp; omega
  generalize (w3.alloc (.cells (da b) 39)) = w4 at *
  generalize w3.heap.size = p10 at *
  go_upto_region 4 with (first | (refine wpList_load_row rfl 24 _ rfl _ rfl 24 _ (0, 0) _ (by assumption) Tryz.underlying24 rfl Tryz.infoWa ?_) | (go_at_call 49; refine (nof_ref a _).mono ?_; rintro e w5 ⟨vm, rfl, nm, b1⟩; replace f0 := Below.stays b1 f0; replace f1 := Below.stays b1 f1; replace f2 := Below.stays b1 f2; replace f3 := Below.stays b1 f3; replace f9 := Below.stays b1 f9; replace f10 := Below.stays b1 f10; replace bW := bW.trans (b1.mono bW.size); replace sW := Nat.le_trans sW b1.size; clear b1))
  go_upto_region 5 with (first | (refine wpList_load_row rfl 24 _ rfl _ rfl 24 _ (0, 0) _ (by assumption) Tryz.underlying24 rfl Tryz.infoWa ?_) | (go_at_call 49; refine (nof_ref b _).mono ?_; rintro e w6 ⟨vn, rfl, nn, b1⟩; replace f0 := Below.stays b1 f0; replace f1 := Below.stays b1 f1; replace f2 := Below.stays b1 f2; replace f3 := Below.stays b1 f3; replace f9 := Below.stays b1 f9; replace f10 := Below.stays b1 f10; replace nm := nm.stays b1; replace bW := bW.trans (b1.mono bW.size); replace sW := Nat.le_trans sW b1.size; clear b1))
  go_wp2_with (first | (refine wpList_load_row rfl 24 _ rfl _ rfl 24 _ (0, 0) _ (by assumption) Tryz.underlying24 rfl Tryz.infoWa ?_) | (go_at_call 59; refine (rext_wd a b _).mono ?_; rintro e wx ⟨rfl, b1⟩; replace f0 := Below.stays b1 f0; replace f1 := Below.stays b1 f1; replace f2 := Below.stays b1 f2; replace f3 := Below.stays b1 f3; replace f9 := Below.stays b1 f9; replace f10 := Below.stays b1 f10; replace nm := nm.stays b1; replace nn := nn.stays b1; replace bW := bW.trans (b1.mono bW.size); replace sW := Nat.le_trans sW b1.size; clear b1) | (refine wpList_store_row rfl 24 (.tmp 8) _ rfl _ _ (wa (exn a b)) rfl rfl f3 Tryz.infoWa rfl wa_one ?_))
  have e2 := word_cells (blk_row (c' := wa (exn a b)) f3)
  exact bodyPost_ret (v := wd (exn a b)) (by simp [results, Tryz.results12, go_sem, e2, fold_wa]) rfl ⟨rfl, below_setRow bW (by omega) _⟩
end Go.Proofs.YtdpbjdecbilaeaaGreat
/- Stage 17: the document's low of ADDMOD and MULMOD. -/
namespace Go.Proofs.YtdpbjdecbilaeaaGreat
open Go.RowKit SmWord
set_option maxRecDepth 100000

set_option maxHeartbeats 8000000 in
theorem low_8 (a b c : Nat) (w : World) : Calls Tryz.prog 12 #[.int .u8 8, wd a, wd b, wd c] w fun e w' => e = .returned (wd (rs (a % M + b % M) (c % M))) ∧ Below w.heap.size w w' := by
  obtain ⟨W, hW, f0, f1, f2, f3, bW, sW⟩ := dboxes3 w a b c
  have hz := z4_wa
  have hsz := wa_size
  have hds : ∀ x, (da x).size = 32 := fun x => arr_size _ _ _
  replace sW := Nat.le_of_eq sW.symm
  go_enter Tryz.func12, Tryz.ntmps12
  go_upto_region 1 with fail
  try rw [hW]
  clear hW hz
  go_upto_region 2 with (first | (refine wpList_load_row rfl 24 _ rfl _ rfl 24 _ (0, 0) _ (by assumption) Tryz.underlying24 rfl Tryz.infoWa ?_) | (go_at_call 13; refine (of_ref a _).mono ?_; rintro e w1 ⟨rfl, b1⟩; replace f0 := Below.stays b1 f0; replace f1 := Below.stays b1 f1; replace f2 := Below.stays b1 f2; replace f3 := Below.stays b1 f3; replace bW := bW.trans (b1.mono bW.size); replace sW := Nat.le_trans sW b1.size; clear b1) | (refine wpList_alloc_row rfl 39 rfl zD zD_run ?_) | (refine wpList_store_row rfl 39 (.tmp 9) _ rfl _ zD (da a) rfl rfl (heap_alloc_new _ _) (infoArr _) rfl (arr_one _ _ _) ?_))
  simp only [Act.put, List.setIfInBounds_toArray, List.set_cons_succ, List.set_cons_zero]
  rw [World.setRow_alloc_new]
  replace f0 := blk_alloc (o' := .cells (da a) 39) f0
  replace f1 := blk_alloc (o' := .cells (da a) 39) f1
  replace f2 := blk_alloc (o' := .cells (da a) 39) f2
  replace f3 := blk_alloc (o' := .cells (da a) 39) f3
  have f9 : (w1.alloc (.cells (da a) 39)).heap[w1.heap.size]? = some (.cells (da a) 39) := heap_alloc_new _ _
  replace bW : Below w.heap.size w (w1.alloc (.cells (da a) 39)) := bW.alloc (by omega) _
  replace sW : w.heap.size + 4 ≤ (w1.alloc (.cells (da a) 39)).heap.size := by simp; omega
  generalize (w1.alloc (.cells (da a) 39)) = w2 at *
  generalize w1.heap.size = p9 at *
  go_upto_region 3 with (first | (refine wpList_load_row rfl 24 _ rfl _ rfl 24 _ (0, 0) _ (by assumption) Tryz.underlying24 rfl Tryz.infoWa ?_) | (go_at_call 13; refine (of_ref b _).mono ?_; rintro e w3 ⟨rfl, b1⟩; replace f0 := Below.stays b1 f0; replace f1 := Below.stays b1 f1; replace f2 := Below.stays b1 f2; replace f3 := Below.stays b1 f3; replace f9 := Below.stays b1 f9; replace bW := bW.trans (b1.mono bW.size); replace sW := Nat.le_trans sW b1.size; clear b1) | (refine wpList_alloc_row rfl 39 rfl zD zD_run ?_) | (refine wpList_store_row rfl 39 (.tmp 10) _ rfl _ zD (da b) rfl rfl (heap_alloc_new _ _) (infoArr _) rfl (arr_one _ _ _) ?_))
  simp only [Act.put, List.setIfInBounds_toArray, List.set_cons_succ, List.set_cons_zero]
  rw [World.setRow_alloc_new]
  replace f0 := blk_alloc (o' := .cells (da b) 39) f0
  replace f1 := blk_alloc (o' := .cells (da b) 39) f1
  replace f2 := blk_alloc (o' := .cells (da b) 39) f2
  replace f3 := blk_alloc (o' := .cells (da b) 39) f3
  replace f9 := blk_alloc (o' := .cells (da b) 39) f9
  have f10 : (w3.alloc (.cells (da b) 39)).heap[w3.heap.size]? = some (.cells (da b) 39) := heap_alloc_new _ _
  replace bW : Below w.heap.size w (w3.alloc (.cells (da b) 39)) := bW.alloc (by omega) _
  replace sW : w.heap.size + 4 ≤ (w3.alloc (.cells (da b) 39)).heap.size := by simp; omega
  generalize (w3.alloc (.cells (da b) 39)) = w4 at *
  generalize w3.heap.size = p10 at *
  go_upto_region 4 with (first | (refine wpList_load_row rfl 24 _ rfl _ rfl 24 _ (0, 0) _ (by assumption) Tryz.underlying24 rfl Tryz.infoWa ?_) | (go_at_call 49; refine (nof_ref a _).mono ?_; rintro e w5 ⟨vm, rfl, nm, b1⟩; replace f0 := Below.stays b1 f0; replace f1 := Below.stays b1 f1; replace f2 := Below.stays b1 f2; replace f3 := Below.stays b1 f3; replace f9 := Below.stays b1 f9; replace f10 := Below.stays b1 f10; replace bW := bW.trans (b1.mono bW.size); replace sW := Nat.le_trans sW b1.size; clear b1))
  go_upto_region 5 with (first | (refine wpList_load_row rfl 24 _ rfl _ rfl 24 _ (0, 0) _ (by assumption) Tryz.underlying24 rfl Tryz.infoWa ?_) | (go_at_call 49; refine (nof_ref b _).mono ?_; rintro e w6 ⟨vn, rfl, nn, b1⟩; replace f0 := Below.stays b1 f0; replace f1 := Below.stays b1 f1; replace f2 := Below.stays b1 f2; replace f3 := Below.stays b1 f3; replace f9 := Below.stays b1 f9; replace f10 := Below.stays b1 f10; replace nm := nm.stays b1; replace bW := bW.trans (b1.mono bW.size); replace sW := Nat.le_trans sW b1.size; clear b1))
  go_upto_region 25 with fail
  clear f0 f1 f9 f10
  have sW' := sW
  have nmd := nm.stays (Below.refl _ _).drew
  have nnd := nn.stays (Below.refl _ _).drew
  have bR := bW.drew
  clear bW nm nn
  have fo := fold_wa
  go_region_held3 (fun w' => w'.cell? ⟨w.heap.size + 2, 0, none⟩ = some (.int .u64 ((l0 c : Nat) : Int)) ∧ w'.cell? ⟨w.heap.size + 2, 1, none⟩ = some (.int .u64 ((l1 c : Nat) : Int)) ∧ w'.cell? ⟨w.heap.size + 2, 2, none⟩ = some (.int .u64 ((l2 c : Nat) : Int)) ∧ w'.cell? ⟨w.heap.size + 2, 3, none⟩ = some (.int .u64 ((l3 c : Nat) : Int))) (exact word_cells f2) (first | (go_at_call 56; refine (plus_ref _ _ 32 32 (a % M) (b % M) _ nmd nnd ⟨by omega, by omega⟩).mono ?_; rintro e w' ⟨vs, rfl, ns, hs⟩; replace f2 := Below.stays hs f2; replace f3 := Below.stays hs f3; replace bR := bR.trans (hs.mono bR.size); replace sW := Nat.le_trans sW hs.size; (try replace nc := nc.stays hs)) | (go_at_call 49; refine (nof_ref c _).mono ?_; rintro e w' ⟨vc, rfl, nc, hc⟩; replace f2 := Below.stays hc f2; replace f3 := Below.stays hc f3; replace bR := bR.trans (hc.mono bR.size); replace sW := Nat.le_trans sW hc.size; (try replace ns := ns.stays hc); (try replace nmd := nmd.stays hc); (try replace nnd := nnd.stays hc)) | (go_at_call 53; refine (rdiv_ref _ _ (max 32 32 + 1) 32 (a % M + b % M) (c % M) _ ns nc ⟨by omega, by omega⟩).mono ?_; rintro e w' ⟨vq, vr, kr, rfl, nq, nr, hd⟩; replace f2 := Below.stays hd f2; replace f3 := Below.stays hd f3; replace bR := bR.trans (hd.mono bR.size); replace sW := Nat.le_trans sW hd.size))
  all_goals
    go_wp2_with (first | (go_at_call 54; refine (nword_ref _ _ _ _ nr).mono ?_; rintro e wx ⟨rfl, b1⟩; replace f3 := Below.stays b1 f3; replace bR := bR.trans (b1.mono bR.size); replace sW := Nat.le_trans sW b1.size; clear b1) | (refine wpList_store_row rfl 24 (.tmp 8) _ rfl _ _ (wa (rs (a % M + b % M) (c % M))) rfl rfl f3 Tryz.infoWa rfl wa_one ?_))
    have e2 := word_cells (blk_row (c' := wa (rs (a % M + b % M) (c % M))) f3)
    exact bodyPost_ret (v := wd (rs (a % M + b % M) (c % M))) (by simp [results, Tryz.results12, go_sem, e2, fold_wa]) rfl ⟨rfl, below_setRow bR (by omega) _⟩
set_option maxHeartbeats 8000000 in
theorem low_9 (a b c : Nat) (w : World) : Calls Tryz.prog 12 #[.int .u8 9, wd a, wd b, wd c] w fun e w' => e = .returned (wd (rs (a % M * (b % M)) (c % M))) ∧ Below w.heap.size w w' := by
  obtain ⟨W, hW, f0, f1, f2, f3, bW, sW⟩ := dboxes3 w a b c
  have hz := z4_wa
  have hsz := wa_size
  have hds : ∀ x, (da x).size = 32 := fun x => arr_size _ _ _
  replace sW := Nat.le_of_eq sW.symm
  go_enter Tryz.func12, Tryz.ntmps12
  go_upto_region 1 with fail
  try rw [hW]
  clear hW hz
  go_upto_region 2 with (first | (refine wpList_load_row rfl 24 _ rfl _ rfl 24 _ (0, 0) _ (by assumption) Tryz.underlying24 rfl Tryz.infoWa ?_) | (go_at_call 13; refine (of_ref a _).mono ?_; rintro e w1 ⟨rfl, b1⟩; replace f0 := Below.stays b1 f0; replace f1 := Below.stays b1 f1; replace f2 := Below.stays b1 f2; replace f3 := Below.stays b1 f3; replace bW := bW.trans (b1.mono bW.size); replace sW := Nat.le_trans sW b1.size; clear b1) | (refine wpList_alloc_row rfl 39 rfl zD zD_run ?_) | (refine wpList_store_row rfl 39 (.tmp 9) _ rfl _ zD (da a) rfl rfl (heap_alloc_new _ _) (infoArr _) rfl (arr_one _ _ _) ?_))
  simp only [Act.put, List.setIfInBounds_toArray, List.set_cons_succ, List.set_cons_zero]
  rw [World.setRow_alloc_new]
  replace f0 := blk_alloc (o' := .cells (da a) 39) f0
  replace f1 := blk_alloc (o' := .cells (da a) 39) f1
  replace f2 := blk_alloc (o' := .cells (da a) 39) f2
  replace f3 := blk_alloc (o' := .cells (da a) 39) f3
  have f9 : (w1.alloc (.cells (da a) 39)).heap[w1.heap.size]? = some (.cells (da a) 39) := heap_alloc_new _ _
  replace bW : Below w.heap.size w (w1.alloc (.cells (da a) 39)) := bW.alloc (by omega) _
  replace sW : w.heap.size + 4 ≤ (w1.alloc (.cells (da a) 39)).heap.size := by simp; omega
  generalize (w1.alloc (.cells (da a) 39)) = w2 at *
  generalize w1.heap.size = p9 at *
  go_upto_region 3 with (first | (refine wpList_load_row rfl 24 _ rfl _ rfl 24 _ (0, 0) _ (by assumption) Tryz.underlying24 rfl Tryz.infoWa ?_) | (go_at_call 13; refine (of_ref b _).mono ?_; rintro e w3 ⟨rfl, b1⟩; replace f0 := Below.stays b1 f0; replace f1 := Below.stays b1 f1; replace f2 := Below.stays b1 f2; replace f3 := Below.stays b1 f3; replace f9 := Below.stays b1 f9; replace bW := bW.trans (b1.mono bW.size); replace sW := Nat.le_trans sW b1.size; clear b1) | (refine wpList_alloc_row rfl 39 rfl zD zD_run ?_) | (refine wpList_store_row rfl 39 (.tmp 10) _ rfl _ zD (da b) rfl rfl (heap_alloc_new _ _) (infoArr _) rfl (arr_one _ _ _) ?_))
  simp only [Act.put, List.setIfInBounds_toArray, List.set_cons_succ, List.set_cons_zero]
  rw [World.setRow_alloc_new]
  replace f0 := blk_alloc (o' := .cells (da b) 39) f0
  replace f1 := blk_alloc (o' := .cells (da b) 39) f1
  replace f2 := blk_alloc (o' := .cells (da b) 39) f2
  replace f3 := blk_alloc (o' := .cells (da b) 39) f3
  replace f9 := blk_alloc (o' := .cells (da b) 39) f9
  have f10 : (w3.alloc (.cells (da b) 39)).heap[w3.heap.size]? = some (.cells (da b) 39) := heap_alloc_new _ _
  replace bW : Below w.heap.size w (w3.alloc (.cells (da b) 39)) := bW.alloc (by omega) _
  replace sW : w.heap.size + 4 ≤ (w3.alloc (.cells (da b) 39)).heap.size := by simp; omega
  generalize (w3.alloc (.cells (da b) 39)) = w4 at *
  generalize w3.heap.size = p10 at *
  go_upto_region 4 with (first | (refine wpList_load_row rfl 24 _ rfl _ rfl 24 _ (0, 0) _ (by assumption) Tryz.underlying24 rfl Tryz.infoWa ?_) | (go_at_call 49; refine (nof_ref a _).mono ?_; rintro e w5 ⟨vm, rfl, nm, b1⟩; replace f0 := Below.stays b1 f0; replace f1 := Below.stays b1 f1; replace f2 := Below.stays b1 f2; replace f3 := Below.stays b1 f3; replace f9 := Below.stays b1 f9; replace f10 := Below.stays b1 f10; replace bW := bW.trans (b1.mono bW.size); replace sW := Nat.le_trans sW b1.size; clear b1))
  go_upto_region 5 with (first | (refine wpList_load_row rfl 24 _ rfl _ rfl 24 _ (0, 0) _ (by assumption) Tryz.underlying24 rfl Tryz.infoWa ?_) | (go_at_call 49; refine (nof_ref b _).mono ?_; rintro e w6 ⟨vn, rfl, nn, b1⟩; replace f0 := Below.stays b1 f0; replace f1 := Below.stays b1 f1; replace f2 := Below.stays b1 f2; replace f3 := Below.stays b1 f3; replace f9 := Below.stays b1 f9; replace f10 := Below.stays b1 f10; replace nm := nm.stays b1; replace bW := bW.trans (b1.mono bW.size); replace sW := Nat.le_trans sW b1.size; clear b1))
  go_upto_region 28 with fail
  clear f0 f1 f9 f10
  have sW' := sW
  have nmd := nm.stays (Below.refl _ _).drew
  have nnd := nn.stays (Below.refl _ _).drew
  have bR := bW.drew
  clear bW nm nn
  have fo := fold_wa
  go_region_held3 (fun w' => w'.cell? ⟨w.heap.size + 2, 0, none⟩ = some (.int .u64 ((l0 c : Nat) : Int)) ∧ w'.cell? ⟨w.heap.size + 2, 1, none⟩ = some (.int .u64 ((l1 c : Nat) : Int)) ∧ w'.cell? ⟨w.heap.size + 2, 2, none⟩ = some (.int .u64 ((l2 c : Nat) : Int)) ∧ w'.cell? ⟨w.heap.size + 2, 3, none⟩ = some (.int .u64 ((l3 c : Nat) : Int))) (exact word_cells f2) (first | (go_at_call 57; refine (times_ref _ _ 32 32 (a % M) (b % M) _ nmd nnd ⟨by omega, by omega⟩).mono ?_; rintro e w' ⟨vs, rfl, ns, hs⟩; replace f2 := Below.stays hs f2; replace f3 := Below.stays hs f3; replace bR := bR.trans (hs.mono bR.size); replace sW := Nat.le_trans sW hs.size; (try replace nc := nc.stays hs)) | (go_at_call 49; refine (nof_ref c _).mono ?_; rintro e w' ⟨vc, rfl, nc, hc⟩; replace f2 := Below.stays hc f2; replace f3 := Below.stays hc f3; replace bR := bR.trans (hc.mono bR.size); replace sW := Nat.le_trans sW hc.size; (try replace ns := ns.stays hc); (try replace nmd := nmd.stays hc); (try replace nnd := nnd.stays hc)) | (go_at_call 53; refine (rdiv_ref _ _ (32 + 32 + 1) 32 (a % M * (b % M)) (c % M) _ ns nc ⟨by omega, by omega⟩).mono ?_; rintro e w' ⟨vq, vr, kr, rfl, nq, nr, hd⟩; replace f2 := Below.stays hd f2; replace f3 := Below.stays hd f3; replace bR := bR.trans (hd.mono bR.size); replace sW := Nat.le_trans sW hd.size))
  all_goals
    go_wp2_with (first | (go_at_call 54; refine (nword_ref _ _ _ _ nr).mono ?_; rintro e wx ⟨rfl, b1⟩; replace f3 := Below.stays b1 f3; replace bR := bR.trans (b1.mono bR.size); replace sW := Nat.le_trans sW b1.size; clear b1) | (refine wpList_store_row rfl 24 (.tmp 8) _ rfl _ _ (wa (rs (a % M * (b % M)) (c % M))) rfl rfl f3 Tryz.infoWa rfl wa_one ?_))
    have e2 := word_cells (blk_row (c' := wa (rs (a % M * (b % M)) (c % M))) f3)
    exact bodyPost_ret (v := wd (rs (a % M * (b % M)) (c % M))) (by simp [results, Tryz.results12, go_sem, e2, fold_wa]) rfl ⟨rfl, below_setRow bR (by omega) _⟩
end Go.Proofs.YtdpbjdecbilaeaaGreat
