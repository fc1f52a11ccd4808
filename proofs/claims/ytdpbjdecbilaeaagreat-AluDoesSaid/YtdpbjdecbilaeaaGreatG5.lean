/- What the function Mul of the document's digits does: the digits of the product, going round. -/
import Derived.Test.YtdpbjdecbilaeaaGreatG3
import Derived.Test.YtdpbjdecbilaeaaGreatG0
import Derived.Test.YtdpbjdecbilaeaaGreatG4
import Derived.Deep.DeepCutAuto
import Derived.Laws.AppendOwn
import Derived.Deep.LoopGhost
import Derived.Deep.WholeRow
import Derived.Test.YtdpbjdecbilaeaaGreatG1
import Derived.Deep.CutBlock
import Derived.Deep.RegionWith
import Derived.OwnWalk
import Derived.IntWalk
import Derived.Laws.OwnMore
import Derived.Test.YtdpbjdecbilaeaaGreatG2
namespace Go.Proofs.YtdpbjdecbilaeaaGreat
open Go.RowKit SmWord
set_option maxRecDepth 100000

/-- The digits while row i is under way: k of its steps are done. -/
def rowA (m n i k : Nat) : Array Value := arr .i64 32 (fun j => if j < i + k then ((dig (rowT m n i k) j : Nat) : Int) else ((dig (m % 256 ^ i * n) j : Nat) : Int))
theorem rowA_start (m n i : Nat) : rowA m n i 0 = da (m % 256 ^ i * n) := arr_congr fun j _ => by rw [rowT_zero]; simp
theorem rowA_zero (n m : Nat) : da (m % 256 ^ 0 * n) = zD := arr_congr fun j _ => by simp [dig, Nat.mod_one]
theorem rowA_step (m n i k : Nat) (hk : i + k < 32) : (rowA m n i k).setIfInBounds (i + k) (.int .i64 ((dig (rowT m n i (k + 1)) (i + k) : Nat) : Int)) = rowA m n i (k + 1) := by
  unfold rowA
  rw [arr_set _ _ _ hk]
  refine arr_congr fun j _ => ?_
  by_cases h1 : j = i + k
  · subst h1; simp [show i + k < i + (k + 1) by omega]
  · by_cases h2 : j < i + k
    · simp [h1, h2, show j < i + (k + 1) by omega, row_low m n i k h2]
    · simp [h1, h2, show ¬ j < i + (k + 1) by omega]
theorem rowA_end (m n i : Nat) (hi : i < 32) : rowA m n i (32 - i) = da (m % 256 ^ (i + 1) * n) := arr_congr fun j hj => by
  rw [if_pos (by omega), row_end m n i hi hj]
theorem rowA_last (m n : Nat) : da (m % 256 ^ 32 * n) = da (m * n) := arr_congr fun j hj => by rw [row_last m n hj]

set_option maxHeartbeats 4000000 in
theorem mul_ref (m n : Nat) (w : World) : Calls Tryz.prog 51 #[.agg (da m), .agg (da n)] w fun e w' => e = .returned (.agg (da (m * n))) ∧ Below w.heap.size w w' := by
  have hds : ∀ x, (da x).size = 32 := fun x => arr_size _ _ _
  go_enter Tryz.func51, Tryz.ntmps51
  go_wp2_with (first | (refine wpList_alloc_row rfl 39 rfl zD zD_run ?_) | (refine wpList_build_zero rfl 39 rfl Tryz.underlying39 Tryz.sizeOf3 zD zD_run ?_) | (refine wpList_store_row rfl 39 _ _ rfl _ zD zD rfl rfl (heap_alloc_new _ _) (infoArr _) rfl (arr_one _ _ _) ?_))
  clear hds
  have f0 : (((((w.alloc (.cells (da m) 39)).alloc (.cells (da n) 39)).alloc (.cells zD 39)).alloc (.cells zD 39)).setRow (w.heap.size + 1 + 1 + 1) zD).heap[w.heap.size]? = some (.cells (da m) 39) := blk_row_other (blk_alloc (blk_alloc (blk_alloc (by have := heap_alloc_new w (.cells (da m) 39); simpa using this)))) (by omega)
  have f1 : (((((w.alloc (.cells (da m) 39)).alloc (.cells (da n) 39)).alloc (.cells zD 39)).alloc (.cells zD 39)).setRow (w.heap.size + 1 + 1 + 1) zD).heap[w.heap.size + 1]? = some (.cells (da n) 39) := blk_row_other (blk_alloc (blk_alloc (by have := heap_alloc_new (w.alloc (.cells (da m) 39)) (.cells (da n) 39); simpa using this))) (by omega)
  have f2 : (((((w.alloc (.cells (da m) 39)).alloc (.cells (da n) 39)).alloc (.cells zD 39)).alloc (.cells zD 39)).setRow (w.heap.size + 1 + 1 + 1) zD).heap[w.heap.size + 1 + 1]? = some (.cells zD 39) := blk_row_other (blk_alloc (by have := heap_alloc_new ((w.alloc (.cells (da m) 39)).alloc (.cells (da n) 39)) (.cells zD 39); simpa using this)) (by omega)
  have f3 : (((((w.alloc (.cells (da m) 39)).alloc (.cells (da n) 39)).alloc (.cells zD 39)).alloc (.cells zD 39)).setRow (w.heap.size + 1 + 1 + 1) zD).heap[w.heap.size + 1 + 1 + 1]? = some (.cells zD 39) := blk_row (by have := heap_alloc_new (((w.alloc (.cells (da m) 39)).alloc (.cells (da n) 39)).alloc (.cells zD 39)) (.cells zD 39); simpa using this)
  have bW : Below w.heap.size w (((((w.alloc (.cells (da m) 39)).alloc (.cells (da n) 39)).alloc (.cells zD 39)).alloc (.cells zD 39)).setRow (w.heap.size + 1 + 1 + 1) zD) := below_setRow (((((Below.refl _ _).alloc (by simp; try omega) _).alloc (by simp; try omega) _).alloc (by simp; try omega) _).alloc (by simp; try omega) _) (by omega) _
  generalize (((((w.alloc (.cells (da m) 39)).alloc (.cells (da n) 39)).alloc (.cells zD 39)).alloc (.cells zD 39)).setRow (w.heap.size + 1 + 1 + 1) zD) = W at *
  go_loopw [6, 7, 8, 9] (fun i _ _ _ wr => ∃ k : Nat, k ≤ 32 ∧ i = .int .i64 k ∧ Below w.heap.size w wr ∧ wr.heap[w.heap.size]? = some (.cells (da m) 39) ∧ wr.heap[w.heap.size + 1]? = some (.cells (da n) 39) ∧ wr.heap[w.heap.size + 1 + 1]? = some (.cells zD 39) ∧
      wr.heap[w.heap.size + 1 + 1 + 1]? = some (.cells (da (m % 256 ^ k * n)) 39)) (fun i _ _ _ _ => 32 - (intOf i).toNat)
  case atStart => exact ⟨0, Nat.zero_le _, rfl, bW, f0, f1, f2, by rw [rowA_zero]; exact f3⟩
  case round =>
    obtain ⟨i, hi, rfl, hb, ha, hn, hr, hd⟩ := hrel
    clear f0 f1 f2 f3 bW
    obtain ⟨wo, rfl⟩ : ∃ wo : World, wo = wr := ⟨_, rfl⟩
    by_cases hlt : i < 32
    · rw [← rowA_start] at hd
      have HA := Lib.hid ha
      have HN := Lib.hid hn
      have HR := Lib.hid hr
      have HD := Lib.hid hd
      have HB := Lib.hid hb
      clear ha hn hr hd hb
      go_wp2_with fail
      go_loopw [7, 8, 9] (fun c k _ wr => ∃ q : Nat, i + q ≤ 32 ∧ k = .int .i64 q ∧ c = .int .i64 ((rowC m n i q : Nat) : Int) ∧ Below w.heap.size w wr ∧ wr.heap[w.heap.size]? = some (.cells (da m) 39) ∧ wr.heap[w.heap.size + 1]? = some (.cells (da n) 39) ∧ wr.heap[w.heap.size + 1 + 1]? = some (.cells zD 39) ∧
          wr.heap[w.heap.size + 1 + 1 + 1]? = some (.cells (rowA m n i q) 39)) (fun _ k _ _ => 32 - (intOf k).toNat)
      case atStart => exact ⟨0, by omega, rfl, by rw [rowC_zero]; rfl, HB.out, HA.out, HN.out, HR.out, HD.out⟩
      case round =>
        obtain ⟨q, hq, rfl, rfl, hb, ha, hn, hr, hd⟩ := hrel
        clear HA HN HR HD HB
        by_cases hq2 : i + q < 32
        · have c1 := blk_cell ha (arr_get .i64 _ hlt)
          have c2 := blk_cell hn (arr_get .i64 _ (show q < 32 by omega))
          have c3 : wr.cell? ⟨w.heap.size + 1 + 1 + 1, i + q, none⟩ = some (.int .i64 ((dig (m % 256 ^ i * n) (i + q) : Nat) : Int)) := blk_cell hd (by unfold rowA; rw [arr_get .i64 _ hq2, if_neg (by omega)])
          have c4 := blk_frozen (j := i + q) hd
          have d1 := dig_lt m i
          have d2 := dig_lt n q
          have d3 := rowC_le m n i q
          have d4 := dig_lt (m % 256 ^ i * n) (i + q)
          have d5 : dig m i * dig n q ≤ 65025 := by
            have := Nat.mul_le_mul (show dig m i ≤ 255 by omega) (show dig n q ≤ 255 by omega)
            omega
          have d6 : ((dig m i : Nat) : Int) * ((dig n q : Nat) : Int) ≤ 65025 := by rw [← Int.natCast_mul]; omega
          have d7 : 0 ≤ ((dig m i : Nat) : Int) * ((dig n q : Nat) : Int) := by rw [← Int.natCast_mul]; omega
          clear d5
          obtain ⟨s1, s2⟩ := row_step m n i q
          have S1 := Lib.hid s1
          have S2 := Lib.hid s2
          have HA := Lib.hid ha
          have HN := Lib.hid hn
          have HR := Lib.hid hr
          have HD := Lib.hid hd
          have HB := Lib.hid hb
          clear ha hn hr hd hb s1 s2
          go_wp2_with fail
          go_region
          go_wp2_with fail
          have v1 : (((dig (m % 256 ^ i * n) (i + q) : Nat) : Int) + ((dig m i : Nat) : Int) * ((dig n q : Nat) : Int) + ((rowC m n i q : Nat) : Int)) % 256 = ((dig (rowT m n i (q + 1)) (i + q) : Nat) : Int) := by rw [← S1.out]; rfl
          have v2 : (((dig (m % 256 ^ i * n) (i + q) : Nat) : Int) + ((dig m i : Nat) : Int) * ((dig n q : Nat) : Int) + ((rowC m n i q : Nat) : Int)) / 256 = ((rowC m n i (q + 1) : Nat) : Int) := by rw [← S2.out]; rfl
          rw [v1, v2]
          refine ⟨⟨q + 1, by omega, by go_num, rfl, (HB.out.setCell (by simp; omega) _).drew, blk_other HA.out (by omega) _, blk_other HN.out (by omega) _, blk_other HR.out (by omega) _, ?_⟩, by simp [intOf]; omega⟩
          rw [← rowA_step m n i q hq2]
          exact blk_set HD.out _
        · obtain rfl : q = 32 - i := by omega
          rw [rowA_end m n i hlt] at hd
          have HA := Lib.hid ha
          have HN := Lib.hid hn
          have HR := Lib.hid hr
          have HD := Lib.hid hd
          have HB := Lib.hid hb
          clear ha hn hr hd hb
          have hge : ¬ (i : Int) + ((32 - i : Nat) : Int) < 32 := by omega
          go_wp2_with fail
          exact ⟨⟨i + 1, by omega, by go_num, HB.out, HA.out, HN.out, HR.out, HD.out⟩, by simp [intOf]; omega⟩
    · obtain rfl : i = 32 := by omega
      rw [rowA_last] at hd
      have HB := Lib.hid hb
      clear hb ha hn
      go_wp2_with (first | (refine wpList_load_row rfl 39 _ rfl _ rfl 39 (da (m * n)) (0, 0) _ hd Tryz.underlying39 rfl (infoArr _) ?_) | (refine wpList_store_row rfl 39 _ _ rfl _ zD (da (m * n)) rfl rfl hr (infoArr _) rfl (arr_one _ _ _) ?_))
      refine bodyPost_ret (v := .agg (da (m * n))) (results_cell_row rfl _ _ _ 39 (da (m * n)) (0, 0) _ rfl (blk_row hr) Tryz.underlying39 rfl (infoArr _)) rfl ⟨rfl, below_setRow HB.out (by omega) _⟩
end Go.Proofs.YtdpbjdecbilaeaaGreat
/- What the method Bit and the function Bits of the document's digits do: a bit of a number, and the digits of the number whose bits these are. -/
namespace Go.Proofs.YtdpbjdecbilaeaaGreat
open Go.RowKit SmWord
set_option maxRecDepth 100000

/-- A bit of n; 0 where there is none. -/
def bitI (n : Nat) (i : Int) : Int := if i < 0 ∨ 255 < i then 0 else ((bitN n i.toNat : Nat) : Int)
set_option maxHeartbeats 1000000 in
theorem bit_low (n : Nat) (i : Int) (w : World) (h1 : i < 0) : Calls Tryz.prog 60 #[.agg (da n), .int .i64 i] w fun e w' => e = .returned (.int .i64 0) ∧ Below w.heap.size w w' := by
  have hds : (da n).size = 32 := arr_size _ _ _
  go_enter Tryz.func60, Tryz.ntmps60
  go_wp2
  go_ret
  exact ⟨rfl, (Below.refl _ _).alloc (Nat.le_refl _) _⟩
set_option maxHeartbeats 1000000 in
theorem bit_high (n : Nat) (i : Int) (w : World) (h1 : 255 < i) : Calls Tryz.prog 60 #[.agg (da n), .int .i64 i] w fun e w' => e = .returned (.int .i64 0) ∧ Below w.heap.size w w' := by
  have hds : (da n).size = 32 := arr_size _ _ _
  have h0 : ¬ i < 0 := by omega
  go_enter Tryz.func60, Tryz.ntmps60
  go_wp2
  go_ret
  exact ⟨rfl, (Below.refl _ _).alloc (Nat.le_refl _) _⟩
set_option maxHeartbeats 1000000 in
theorem bit_mid (n k : Nat) (w : World) (hk : k < 256) : Calls Tryz.prog 60 #[.agg (da n), .int .i64 (k : Int)] w fun e w' => e = .returned (.int .i64 ((bitN n k : Nat) : Int)) ∧ Below w.heap.size w w' := by
  have hds : (da n).size = 32 := arr_size _ _ _
  have h0 : ¬ (k : Int) < 0 := by omega
  have h1 : ¬ (255 : Int) < (k : Int) := by omega
  have hq : k / 8 < 32 := by omega
  have fb : (w.alloc (.cells (da n) 39)).heap[w.heap.size]? = some (.cells (da n) 39) := heap_alloc_new _ _
  have c1 := blk_cell fb (arr_get .i64 _ hq)
  clear fb
  have HK := Lib.hid (dig_bit n k)
  have d1 := dig_lt n (k / 8)
  go_enter Tryz.func60, Tryz.ntmps60
  go_wp2
  go_loop [5, 6] (fun x i => ∃ j : Nat, j ≤ k % 8 ∧ i = .int .i64 j ∧ x = .int .i64 ((dig n (k / 8) / 2 ^ j : Nat) : Int)) (fun _ i => 8 - (intOf i).toNat)
  case atStart => exact ⟨0, Nat.zero_le _, rfl, by simp⟩
  case round =>
    obtain ⟨j, hj, rfl, rfl⟩ := hrel
    have d2 : dig n (k / 8) / 2 ^ j < 256 := Nat.lt_of_le_of_lt (Nat.div_le_self _ _) d1
    by_cases hlt : j < k % 8
    · have HJ : Hid (dig n (k / 8) / 2 ^ (j + 1) = dig n (k / 8) / 2 ^ j / 2) := Lib.hid (by rw [Nat.pow_succ, Nat.div_div_eq_div_mul])
      generalize dig n (k / 8) / 2 ^ j = y at *
      go_wp2
      go_round
      case rel => exact ⟨j + 1, by omega, by go_num, by rw [HJ.out]; rfl⟩
      case measure => simp [intOf]; omega
    · obtain rfl : j = k % 8 := by omega
      have HJ : Hid (dig n (k / 8) / 2 ^ (k % 8) % 2 = bitN n k) := HK
      generalize dig n (k / 8) / 2 ^ (k % 8) = y at *
      go_wp2
      go_ret
      exact ⟨by rw [← HJ.out]; rfl, (Below.refl _ _).alloc (Nat.le_refl _) _⟩
theorem bit_ref (n : Nat) (i : Int) (w : World) : Calls Tryz.prog 60 #[.agg (da n), .int .i64 i] w fun e w' => e = .returned (.int .i64 (bitI n i)) ∧ Below w.heap.size w w' := by
  unfold bitI
  by_cases h1 : i < 0
  · rw [if_pos (.inl h1)]; exact bit_low n i w h1
  · by_cases h2 : 255 < i
    · rw [if_pos (.inr h2)]; exact bit_high n i w h2
    · rw [if_neg (by omega)]
      obtain ⟨k, rfl⟩ := Int.eq_ofNat_of_zero_le (show 0 ≤ i by omega)
      rw [Int.toNat_natCast]
      exact bit_mid n k w (by omega)
end Go.Proofs.YtdpbjdecbilaeaaGreat
/- What the function Exp of the document's own answers of layer 2 does: a power, going round; all older memory is as it was. -/
namespace Go.Proofs.YtdpbjdecbilaeaaGreat
open Go.RowKit SmWord
set_option maxRecDepth 100000

theorem run_build_oneR {P : Program} {o : Oper} {t : TypeId} {z : Array Value} {x : Operand} {k : IntKind} {i : Int} (ho : o.op = .build t #[(0, x)]) {n : Nat} {e : TypeId} (hu : P.underlying t = some (.array n e)) (hn : 0 < n) (he : ∀ w : World, (sizeOf e).run P w = .ok 1 w) (hz : ∀ w : World, (zeroValue t).run P w = .ok (.agg z) w) (hzn : z.size = n)
    (ρ : Operand → Value) (w : World) (hx : ρ x = .int k i) : (execOp ρ o).run P w = .ok (.value (.agg (z.setIfInBounds 0 (.int k i)))) w := by
  obtain ⟨dst, op, type, pos, after, guard⟩ := o
  simp only at ho
  subst ho
  have h0 : ¬ z = #[] := by rintro rfl; simp at hzn; omega
  simp [execOp, go_sem, hz, run_underlying hu, he, hx, h0]
theorem wpList_build_oneR {P : Program} {ops : Array Oper} {Q : Exit → Act → World → Prop} {a : Act} {w : World} {rest : List Oper} {o : Oper} (hg : o.guard = none) (t : TypeId) (x : Operand) (ho : o.op = .build t #[(0, x)]) {n : Nat} {e : TypeId} (hu : P.underlying t = some (.array n e)) (hn : 0 < n) (he : ∀ w : World, (sizeOf e).run P w = .ok 1 w) (z : Array Value) (hz : ∀ w : World, (zeroValue t).run P w = .ok (.agg z) w) (hzn : z.size = n) (k : IntKind) (i : Int)
    (hx : a.eval x = .int k i) (h : wpList P ops Q rest (a.put o.dst (.agg (z.setIfInBounds 0 (.int k i)))) w) : wpList P ops Q (o :: rest) a w :=
  wpList_plain hg fun _ hK => by
    unfold Oper.wp
    rw [run_build_oneR ho hu hn he hz hzn a.eval w hx]
    exact hK _ _ h
theorem one_da : zD.setIfInBounds 0 (Value.int .i64 1) = da 1 := by
  unfold zD da
  rw [arr_set _ _ _ (by decide)]
  refine arr_congr fun i hi => ?_
  unfold dig
  by_cases h : i = 0
  · subst h; rfl
  · rw [if_neg h, Nat.div_eq_of_lt (Nat.one_lt_pow h (by decide))]; rfl

theorem exp_sq (a j : Nat) : a ^ 2 ^ (j + 1) = a ^ 2 ^ j * a ^ 2 ^ j := by
  rw [Nat.pow_succ 2 j, Nat.mul_two, Nat.pow_add]
theorem exp_bit (a n j : Nat) : (bitN n j = 1 → a ^ (n % 2 ^ (j + 1)) = a ^ (n % 2 ^ j) * a ^ 2 ^ j) ∧ (bitN n j ≠ 1 → a ^ (n % 2 ^ (j + 1)) = a ^ (n % 2 ^ j)) := by
  have h := bitN_lt n j
  have e : n % 2 ^ (j + 1) = n % 2 ^ j + 2 ^ j * bitN n j := by unfold bitN; rw [Nat.pow_succ, Nat.mod_mul]
  refine ⟨fun h1 => ?_, fun h1 => ?_⟩
  · rw [e, h1, Nat.mul_one, Nat.pow_add]
  · rw [e, show bitN n j = 0 by omega, Nat.mul_zero, Nat.add_zero]

set_option maxHeartbeats 2000000 in
theorem rexp_walk (a n : Nat) (w : World) : Calls Tryz.prog 58 #[wd a, wd n] w fun e w' => e = .returned (wd (a ^ (n % M))) ∧ Below w.heap.size w w' := by
  have hz := z4_wa
  go_enter Tryz.func58, Tryz.ntmps58
  go_upto_region 1 with fail
  have f2 : (((w.alloc (.cells (wa a) 24)).alloc (.cells (wa n) 24)).alloc (.cells (wa 0) 24)).heap[w.heap.size]? = some (.cells (wa a) 24) := blk_alloc (blk_alloc (blk_new _ rfl))
  have f3 : (((w.alloc (.cells (wa a) 24)).alloc (.cells (wa n) 24)).alloc (.cells (wa 0) 24)).heap[w.heap.size + 1]? = some (.cells (wa n) 24) := blk_alloc (blk_new _ (by simp))
  have f4 : (((w.alloc (.cells (wa a) 24)).alloc (.cells (wa n) 24)).alloc (.cells (wa 0) 24)).heap[w.heap.size + 1 + 1]? = some (.cells (wa 0) 24) := blk_new _ (by simp)
  have bW : Below w.heap.size w (((w.alloc (.cells (wa a) 24)).alloc (.cells (wa n) 24)).alloc (.cells (wa 0) 24)) := ((((Below.refl _ _).alloc (Nat.le_refl _) _).alloc (by simp <;> omega) _).alloc (by simp <;> omega) _)
  have sW : w.heap.size + 3 ≤ (((w.alloc (.cells (wa a) 24)).alloc (.cells (wa n) 24)).alloc (.cells (wa 0) 24)).heap.size := by simp
  generalize (((w.alloc (.cells (wa a) 24)).alloc (.cells (wa n) 24)).alloc (.cells (wa 0) 24)) = W at *
  clear hz
  go_wp2_with (refine wpList_load_row rfl 24 _ rfl _ rfl 24 _ (0, 0) _ (by assumption) Tryz.underlying24 rfl Tryz.infoWa ?_)
  refine (of_ref n _).mono ?_
  rintro e w1 ⟨rfl, b1⟩
  replace f2 := Below.stays b1 f2
  replace f3 := Below.stays b1 f3
  replace f4 := Below.stays b1 f4
  replace bW := bW.trans (b1.mono bW.size)
  replace sW := Nat.le_trans sW b1.size
  clear b1
  go_upto_region 2 with (first | (refine wpList_alloc_row rfl 39 rfl zD zD_run ?_) | (refine wpList_store_row rfl 39 (.tmp 5) _ rfl _ zD (da (n)) rfl rfl (heap_alloc_new _ _) (infoArr _) rfl (arr_one _ _ _) ?_))
  rw [World.setRow_alloc_new]
  simp only [Act.put, List.setIfInBounds_toArray, List.set_cons_succ, List.set_cons_zero]
  replace f2 := blk_alloc (o' := .cells (da (n)) 39) f2
  replace f3 := blk_alloc (o' := .cells (da (n)) 39) f3
  replace f4 := blk_alloc (o' := .cells (da (n)) 39) f4
  have f5 : (w1.alloc (.cells (da (n)) 39)).heap[w1.heap.size]? = some (.cells (da (n)) 39) := heap_alloc_new _ _
  replace bW : Below w.heap.size w (w1.alloc (.cells (da (n)) 39)) := bW.alloc (by omega) _
  have sb5 : w1.heap.size + 1 ≤ (w1.alloc (.cells (da (n)) 39)).heap.size := by simp
  generalize (w1.alloc (.cells (da (n)) 39)) = w2 at *
  generalize w1.heap.size = b5 at *
  have lb5 := sW
  replace sW := Nat.le_trans (Nat.le_succ_of_le sW) sb5
  go_wp2_with (refine wpList_load_row rfl 24 _ rfl _ rfl 24 _ (0, 0) _ (by assumption) Tryz.underlying24 rfl Tryz.infoWa ?_)
  refine (of_ref a _).mono ?_
  rintro e w3 ⟨rfl, b1⟩
  replace f2 := Below.stays b1 f2
  replace f3 := Below.stays b1 f3
  replace f4 := Below.stays b1 f4
  replace f5 := Below.stays b1 f5
  replace bW := bW.trans (b1.mono bW.size)
  replace sW := Nat.le_trans sW b1.size
  clear b1
  go_upto_region 3 with (first | (refine wpList_alloc_row rfl 39 rfl zD zD_run ?_) | (refine wpList_store_row rfl 39 (.tmp 6) _ rfl _ zD (da (a)) rfl rfl (heap_alloc_new _ _) (infoArr _) rfl (arr_one _ _ _) ?_))
  rw [World.setRow_alloc_new]
  simp only [Act.put, List.setIfInBounds_toArray, List.set_cons_succ, List.set_cons_zero]
  have ub5b6 : b5 + 1 ≤ w3.heap.size := (Array.getElem?_eq_some_iff.1 f5).1
  replace f2 := blk_alloc (o' := .cells (da (a)) 39) f2
  replace f3 := blk_alloc (o' := .cells (da (a)) 39) f3
  replace f4 := blk_alloc (o' := .cells (da (a)) 39) f4
  replace f5 := blk_alloc (o' := .cells (da (a)) 39) f5
  have f6 : (w3.alloc (.cells (da (a)) 39)).heap[w3.heap.size]? = some (.cells (da (a)) 39) := heap_alloc_new _ _
  replace bW : Below w.heap.size w (w3.alloc (.cells (da (a)) 39)) := bW.alloc (by omega) _
  have sb6 : w3.heap.size + 1 ≤ (w3.alloc (.cells (da (a)) 39)).heap.size := by simp
  generalize (w3.alloc (.cells (da (a)) 39)) = w4 at *
  generalize w3.heap.size = b6 at *
  have lb6 := sW
  replace sW := Nat.le_trans (Nat.le_succ_of_le sW) sb6
  go_upto_region 4 with (first | (refine wpList_alloc_row rfl 39 rfl zD zD_run ?_) | (refine wpList_store_row rfl 39 (.tmp 7) _ rfl _ zD (da (1)) rfl rfl (heap_alloc_new _ _) (infoArr _) rfl (arr_one _ _ _) ?_) | (refine wpList_build_oneR rfl 39 _ rfl Tryz.underlying39 (by decide) Tryz.sizeOf3 zD zD_run (arr_size _ _ _) .i64 1 rfl ?_; rw [one_da]))
  rw [World.setRow_alloc_new]
  simp only [Act.put, List.setIfInBounds_toArray, List.set_cons_succ, List.set_cons_zero]
  have ub5b7 : b5 + 1 ≤ w4.heap.size := (Array.getElem?_eq_some_iff.1 f5).1
  have ub6b7 : b6 + 1 ≤ w4.heap.size := (Array.getElem?_eq_some_iff.1 f6).1
  replace f2 := blk_alloc (o' := .cells (da (1)) 39) f2
  replace f3 := blk_alloc (o' := .cells (da (1)) 39) f3
  replace f4 := blk_alloc (o' := .cells (da (1)) 39) f4
  replace f5 := blk_alloc (o' := .cells (da (1)) 39) f5
  replace f6 := blk_alloc (o' := .cells (da (1)) 39) f6
  have f7 : (w4.alloc (.cells (da (1)) 39)).heap[w4.heap.size]? = some (.cells (da (1)) 39) := heap_alloc_new _ _
  replace bW : Below w.heap.size w (w4.alloc (.cells (da (1)) 39)) := bW.alloc (by omega) _
  have sb7 : w4.heap.size + 1 ≤ (w4.alloc (.cells (da (1)) 39)).heap.size := by simp
  generalize (w4.alloc (.cells (da (1)) 39)) = w5 at *
  generalize w4.heap.size = b7 at *
  have lb7 := sW
  replace sW := Nat.le_trans (Nat.le_succ_of_le sW) sb7
  go_wp2_with fail
  go_loopw [8] (fun i wr => ∃ j : Nat, j ≤ 256 ∧ i = .int .i64 (j : Int) ∧ wr.heap[w.heap.size + 1 + 1]? = some (.cells (wa 0) 24) ∧ wr.heap[b5]? = some (.cells (da n) 39) ∧ wr.heap[b6]? = some (.cells (da (a ^ 2 ^ j)) 39) ∧ wr.heap[b7]? = some (.cells (da (a ^ (n % 2 ^ j))) 39) ∧ Below w.heap.size w wr) (fun i _ => 256 - (intOf i).toNat)
  case atStart => exact ⟨0, Nat.zero_le _, rfl, f4, f5, by rw [Nat.pow_zero, Nat.pow_one]; exact f6, by rw [Nat.pow_zero, Nat.mod_one, Nat.pow_zero]; exact f7, bW⟩
  case round =>
    clear f2 f3 f4 f5 f6 f7 bW sW
    obtain ⟨j, hj, rfl, f4, f5, f6, f7, bW⟩ := hrel
    have he1 := Lib.hid (exp_sq a j)
    have he3 : j = 256 → a ^ (n % M) = a ^ (n % 2 ^ j) := fun h => by rw [h, M_2]
    have he2 := Lib.hid (exp_bit a n j)
    generalize a ^ 2 ^ j = x at *
    generalize a ^ (n % 2 ^ j) = y at *
    by_cases hlt : j < 256
    · go_wp2_with (refine wpList_load_row rfl 39 (.tmp 5) rfl _ rfl 39 (da (n)) (0, 0) _ f5 Tryz.underlying39 rfl (infoArr _) ?_)
      refine (bit_mid n j _ hlt).mono ?_
      rintro e w6 ⟨rfl, b1⟩
      replace f4 := Below.stays b1 f4
      replace f5 := Below.stays b1 f5
      replace f6 := Below.stays b1 f6
      replace f7 := Below.stays b1 f7
      replace bW := bW.trans (b1.mono bW.size)
      clear b1
      go_upto_if 21 with fail
      go_cut [] (fun wx => wx.heap[w.heap.size + 1 + 1]? = some (.cells (wa 0) 24) ∧ wx.heap[b5]? = some (.cells (da n) 39) ∧ wx.heap[b6]? = some (.cells (da x) 39) ∧ wx.heap[b7]? = some (.cells (da (a ^ (n % 2 ^ (j + 1)))) 39) ∧ Below w.heap.size w wx)
      case first =>
        have hb := bitN_lt n j
        by_cases h1 : bitN n j = 1
        · have hc : (((bitN n j : Nat) : Int) == 1) = true := by rw [beq_iff_eq]; omega
          have E := Lib.hid (he2.out.1 h1)
          clear h1 he2
          go_wp2_with (first | (refine wpList_load_row rfl 39 (.tmp 7) rfl _ rfl 39 (da (y)) (0, 0) _ f7 Tryz.underlying39 rfl (infoArr _) ?_) | (refine wpList_load_row rfl 39 (.tmp 6) rfl _ rfl 39 (da (x)) (0, 0) _ f6 Tryz.underlying39 rfl (infoArr _) ?_))
          refine (mul_ref y x _).mono ?_
          rintro e w7 ⟨rfl, b1⟩
          replace f4 := Below.stays b1 f4
          replace f5 := Below.stays b1 f5
          replace f6 := Below.stays b1 f6
          replace f7 := Below.stays b1 f7
          replace bW := bW.trans (b1.mono bW.size)
          clear b1
          go_wp2_with (refine wpList_store_row rfl 39 (.tmp 7) _ rfl _ _ (da (y * x)) rfl rfl f7 (infoArr _) rfl (arr_one _ _ _) ?_)
          simp only [Act.put]
          go_wp2_with fail
          go_meet
          refine ⟨blk_row_other f4 (by omega), blk_row_other f5 (by omega), blk_row_other f6 (by omega), ?_, below_setRow bW (by omega) _⟩
          rw [E.out]
          exact blk_row f7
        · have hc : (((bitN n j : Nat) : Int) == 1) = false := by rw [beq_eq_false_iff_ne]; omega
          have E := Lib.hid (he2.out.2 h1)
          clear h1 he2
          go_wp2_with fail
          go_meet
          refine ⟨f4, f5, f6, ?_, bW⟩
          rw [E.out]
          exact f7
      case rest =>
        clear f4 f5 f6 f7 bW he2
        obtain ⟨f4, f5, f6, f7, bW⟩ := hcut
        go_wp2_with (refine wpList_load_row rfl 39 (.tmp 6) rfl _ rfl 39 (da (x)) (0, 0) _ f6 Tryz.underlying39 rfl (infoArr _) ?_)
        refine (mul_ref x x _).mono ?_
        rintro e w7 ⟨rfl, b1⟩
        replace f4 := Below.stays b1 f4
        replace f5 := Below.stays b1 f5
        replace f6 := Below.stays b1 f6
        replace f7 := Below.stays b1 f7
        replace bW := bW.trans (b1.mono bW.size)
        clear b1
        go_wp2_with (refine wpList_store_row rfl 39 (.tmp 6) _ rfl _ _ (da (x * x)) rfl rfl f6 (infoArr _) rfl (arr_one _ _ _) ?_)
        refine ⟨⟨j + 1, by omega, by go_num, blk_row_other f4 (by omega), blk_row_other f5 (by omega), ?_, blk_row_other f7 (by omega), below_setRow bW (by omega) _⟩, by simp only [intOf]; omega⟩
        rw [he1.out]
        exact blk_row f6
    · obtain rfl : j = 256 := by omega
      have E := Lib.hid (he3 rfl)
      clear he3
      go_wp2_with (refine wpList_load_row rfl 39 (.tmp 7) rfl _ rfl 39 (da (y)) (0, 0) _ f7 Tryz.underlying39 rfl (infoArr _) ?_)
      refine (word_ref y _).mono ?_
      rintro e w7 ⟨rfl, b1⟩
      replace f4 := Below.stays b1 f4
      replace f5 := Below.stays b1 f5
      replace f6 := Below.stays b1 f6
      replace f7 := Below.stays b1 f7
      replace bW := bW.trans (b1.mono bW.size)
      clear b1
      go_wp2_with (refine wpList_store_row rfl 24 (.tmp 4) _ rfl _ _ (wa y) rfl rfl f4 Tryz.infoWa rfl wa_one ?_)
      have e4 := word_cells (blk_row (c' := wa y) f4)
      exact bodyPost_ret (v := wd y) (by simp [results, Tryz.results58, go_sem, e4, fold_wa]) rfl ⟨by rw [E.out], below_setRow bW (by omega) _⟩
end Go.Proofs.YtdpbjdecbilaeaaGreat
/- Numbers of any length as the document's slices of digits to the base 256: how they lie in memory. -/
namespace Go.Proofs.YtdpbjdecbilaeaaGreat
open Go.RowKit SmWord
set_option maxRecDepth 100000

/-- v is a slice of n digits, and their number is X. -/
structure NumS (w : World) (v : Value) (n X : Nat) : Prop where
  sl : ∃ A c, v = .slice A n c ∧ n ≤ c ∧ (0 < n → ∃ b off, A = some ⟨b, off, none⟩ ∧ b < w.heap.size ∧ ∀ i, i < n → w.cell? ⟨b, off + i, none⟩ = some (.int .i64 ((dig X i : Nat) : Int)))
  lt : X < 256 ^ n
  small : n ≤ 1000
theorem NumS.below {w w' : World} {v : Value} {n X : Nat} (h : NumS w v n X) {B : Nat} (hb : Below B w w') (hB : w.heap.size ≤ B) : NumS w' v n X := by
  obtain ⟨⟨A, c, rfl, hnc, hs⟩, hl, hm⟩ := h
  refine ⟨⟨A, c, rfl, hnc, fun hn => ?_⟩, hl, hm⟩
  obtain ⟨b, off, e, hlt, hc⟩ := hs hn
  exact ⟨b, off, e, Nat.lt_of_lt_of_le hlt hb.size, fun i hi => (hb.cell (p := ⟨b, off + i, none⟩) (Nat.lt_of_lt_of_le hlt hB)).trans (hc i hi)⟩
theorem NumS.stays {w w' : World} {v : Value} {n X : Nat} (h : NumS w v n X) (hb : Below w.heap.size w w') : NumS w' v n X := h.below hb (Nat.le_refl _)
/-- The n lowest digits, one behind the other. -/
def dg (X n : Nat) : List Value := (List.range n).map fun i => .int .i64 ((dig X i : Nat) : Int)
theorem dg_length (X n : Nat) : (dg X n).length = n := by simp [dg]
theorem dg_succ (X n : Nat) : dg X n ++ [.int .i64 ((dig X n : Nat) : Int)] = dg X (n + 1) := by simp [dg, List.range_succ]
theorem dg_get {X n i : Nat} (h : i < n) : (dg X n)[i]? = some (.int .i64 ((dig X i : Nat) : Int)) := by simp [dg, h]
theorem NumS.of_owns {w : World} {base : Nat} {v : Value} {n X : Nat} (h : w.ownsRow base 3 1 v n (dg X n)) (hl : X < 256 ^ n) (hn : n ≤ 1000) : NumS w v n X := by
  obtain ⟨hlen, h⟩ := h
  rcases h with ⟨rfl, rfl⟩ | ⟨g, cap, cur, rfl, hb, hc, h1, h2, h3, h4⟩
  · exact ⟨⟨none, 0, rfl, Nat.le_refl _, fun h => absurd h (by omega)⟩, hl, hn⟩
  · refine ⟨⟨_, cap, rfl, h1, fun _ => ⟨g, 0, rfl, (Array.getElem?_eq_some_iff.1 hc).1, fun i hi => ?_⟩⟩, hl, hn⟩
    rw [Nat.zero_add]
    refine blk_cell hc ?_
    have := dg_get (X := X) hi
    rw [← h4, Nat.mul_one, List.getElem?_take, if_pos hi] at this
    simpa using this
theorem Tryz.info3 : (Tryz.prog.info? 3).map (fun i => (i.zero, i.size, i.bytes)) = some (some (.int .i64 0), 1, 8) := by kernel_rfl
theorem dig_high {X n i : Nat} (h : X < 256 ^ n) (hi : n ≤ i) : dig X i = 0 := by
  unfold dig
  rw [Nat.div_eq_of_lt (Nat.lt_of_lt_of_le h (Nat.pow_le_pow_right (by decide) hi))]

set_option maxHeartbeats 1000000 in
theorem at_ref (v : Value) (n X i : Nat) (w : World) (h : NumS w v n X) (hi : i ≤ 1000000) :
    Calls Tryz.prog 88 #[v, .int .i64 (i : Int)] w fun e w' => e = .returned (.int .i64 ((dig X i : Nat) : Int)) ∧ w = w' := by
  obtain ⟨⟨A, c, rfl, _, hs⟩, hl, hm⟩ := h
  by_cases hlt : i < n
  · obtain ⟨b, off, rfl, hb, hc⟩ := hs (by omega)
    have c1 := hc i hlt
    clear hc hl
    go_enter Tryz.func88, Tryz.ntmps88
    go_wp2_with fail
    go_ret
    exact ⟨rfl, rfl⟩
  · rw [dig_high hl (by omega)]
    clear hs hl
    go_enter Tryz.func88, Tryz.ntmps88
    go_wp2_with fail
    go_ret
    exact ⟨rfl, rfl⟩

theorem own_empty (w : World) {base : Nat} (hb : base ≤ w.heap.size) : (w.alloc (.cells #[] 3)).ownsRow base 3 1 (.slice (some ⟨w.heap.size, 0, none⟩) 0 0) 0 [] :=
  ⟨rfl, .inr ⟨w.heap.size, 0, #[], rfl, hb, heap_alloc_new _ _, Nat.le_refl _, Nat.zero_le _, rfl, rfl⟩⟩
theorem own_one (w : World) (x : Value) : ∀ j u, [x][j]? = some u → (w.alloc (.cells #[x] 3)).cell? ((⟨w.heap.size, 0, none⟩ : Addr).add j) = some u := fun j u h => by
  cases j with
  | zero =>
    have hu : u = x := by simpa using h.symm
    subst hu
    exact blk_cell (heap_alloc_new _ _) rfl
  | succ j => simp at h
/-- What returns a number. -/
def RetN (n X : Nat) (w : World) (e : Ending) (w' : World) : Prop := ∃ v, e = .returned v ∧ NumS w' v n X ∧ Below w.heap.size w w'

set_option maxHeartbeats 1000000 in
theorem nof_ref (m : Nat) (w : World) : Calls Tryz.prog 49 #[wd m] w (RetN 32 (m % M) w) := by
  obtain ⟨i0, hi, hz0, hz1, hz2⟩ := info_parts Tryz.info3
  go_enter Tryz.func49, Tryz.ntmps49
  go_upto_region 1 with fail
  have f1 : (w.alloc (.cells (wa m) 24)).heap[w.heap.size]? = some (.cells (wa m) 24) := heap_alloc_new _ _
  have bW : Below w.heap.size w (w.alloc (.cells (wa m) 24)) := (Below.refl _ _).alloc (Nat.le_refl _) _
  generalize w.alloc (.cells (wa m) 24) = W at *
  go_wp2_with (refine wpList_load_row rfl 24 _ rfl _ rfl 24 _ (0, 0) _ (by assumption) Tryz.underlying24 rfl Tryz.infoWa ?_)
  refine (of_ref m _).mono ?_
  rintro e w1 ⟨rfl, b1⟩
  replace bW := bW.trans (b1.mono bW.size)
  clear b1 f1
  go_upto_region 2 with (first | (refine wpList_alloc_row rfl 39 rfl zD zD_run ?_) | (refine wpList_store_row rfl 39 (.tmp 3) _ rfl _ zD (da m) rfl rfl (heap_alloc_new _ _) (infoArr _) rfl (arr_one _ _ _) ?_))
  rw [World.setRow_alloc_new]
  simp only [Act.put]
  have f3 : (w1.alloc (.cells (da m) 39)).heap[w1.heap.size]? = some (.cells (da m) 39) := heap_alloc_new _ _
  have s3 : w1.heap.size + 1 ≤ (w1.alloc (.cells (da m) 39)).heap.size := by simp
  have l3 := bW.size
  replace bW : Below w.heap.size w (w1.alloc (.cells (da m) 39)) := bW.alloc bW.size _
  generalize w1.alloc (.cells (da m) 39) = w2 at *
  generalize w1.heap.size = b3 at *
  go_wp2_with fail
  go_loopw [4, 5] (fun v i wr => ∃ k : Nat, k ≤ 32 ∧ i = .int .i64 (k : Int) ∧ wr.ownsRow (b3 + 1) 3 1 v k (dg (m % M) k) ∧ wr.heap[b3]? = some (.cells (da m) 39) ∧ Below w.heap.size w wr ∧ b3 + 1 ≤ wr.heap.size) (fun _ i _ => 32 - (intOf i).toNat)
  case atStart => exact ⟨0, Nat.zero_le _, rfl, own_empty _ (by omega), blk_alloc f3, bW.alloc (by omega) _, by simp; omega⟩
  case round =>
    clear f3 bW s3
    obtain ⟨k, hk, rfl, hown, f3, bW, s3⟩ := hrel
    by_cases hlt : k < 32
    · have c1 := blk_cell f3 (arr_get .i64 (fun i => ((dig m i : Nat) : Int)) hlt)
      have hd : dig m k = dig (m % M) k := dig_congr (by rw [Nat.mod_mod]) hlt
      rw [hd] at c1
      have HD := Lib.hid hd
      clear hd
      go_wp2_with (at_builtin; refine wpList_append_own _ rfl _ _ 52 rfl (b3 + 1) 3 i0 (.int .i64 0) 1 8 Tryz.underlying52 hi hz0 hz1 hz2 rfl (by decide) _ _ _ rfl (hown.alloc _) ⟨wr.heap.size, 0, none⟩ 1 1 [.int .i64 ((dig (m % M) k : Nat) : Int)] rfl rfl ?c1 ?c2 ?c3 ?c4 ?c5 ?_)
      case c1 => exact own_one _ _
      case c2 => simp [Value.oneCell']
      case c3 => unfold maxLen; omega
      case c4 => omega
      case c5 => simp; omega
      intro v' w3 hown' hgrow _
      rw [dg_succ] at hown'
      have hr := fun g hg => (hown.lt g hg).1
      have f3' : w3.heap[b3]? = some (.cells (da m) 39) := by
        rw [hgrow.block b3 (by simp; omega) (fun e => by have := hr b3 e.symm; omega)]
        exact blk_alloc f3
      have bX : Below w.heap.size w w3 := (bW.alloc (o := .cells #[.int .i64 ((dig (m % M) k : Nat) : Int)] 3) (by omega)).grown hgrow (by simp; omega) (fun g hg => by have := hr g hg; omega)
      have s3' := hgrow.size
      simp only [World.size_alloc] at s3'
      clear hown hgrow f3 bW c1 hr
      go_wp2_with fail
      exact ⟨⟨k + 1, by omega, by go_num, hown', f3', bX, by omega⟩, by simp only [intOf]; omega⟩
    · obtain rfl : k = 32 := by omega
      go_wp2_with fail
      go_ret
      exact ⟨_, rfl, NumS.of_owns hown (by rw [← M_256]; exact Nat.mod_lt _ (by decide)) (by omega), bW⟩
end Go.Proofs.YtdpbjdecbilaeaaGreat
/- What the functions Word, High, Zero, Less, Plus and Minus of the document's numbers of any length do; all older memory is as it was. -/
namespace Go.Proofs.YtdpbjdecbilaeaaGreat
open Go.RowKit SmWord
set_option maxRecDepth 100000

namespace SmWord
theorem dig_up (X j : Nat) : X / 256 ^ j = 256 * (X / 256 ^ (j + 1)) + dig X j := by
  unfold dig
  rw [Nat.pow_succ, ← Nat.div_div_eq_div_mul]
  exact (Nat.div_add_mod _ _).symm
theorem low_succ (X j : Nat) : X % 256 ^ (j + 1) = X % 256 ^ j + 256 ^ j * dig X j := by
  unfold dig; rw [Nat.pow_succ, Nat.mod_mul]
theorem less_here {X Y j : Nat} (h : X / 256 ^ (j + 1) = Y / 256 ^ (j + 1)) (hne : dig X j ≠ dig Y j) : (X < Y) ↔ dig X j < dig Y j := by
  have hp : 0 < 256 ^ j := Nat.pow_pos (by decide)
  have hx := dig_up X j
  have hy := dig_up Y j
  have dx := Nat.div_add_mod X (256 ^ j)
  have dy := Nat.div_add_mod Y (256 ^ j)
  have mx := Nat.mod_lt X hp
  have my := Nat.mod_lt Y hp
  rw [h] at hx
  generalize 256 * (Y / 256 ^ (j + 1)) = z at *
  constructor
  · intro hlt
    apply Classical.byContradiction
    intro hn
    have h3 : Y / 256 ^ j + 1 ≤ X / 256 ^ j := by rw [hx, hy]; omega
    have h4 := Nat.mul_le_mul_left (256 ^ j) h3
    rw [Nat.mul_add, Nat.mul_one] at h4
    omega
  · intro hlt
    have h3 : X / 256 ^ j + 1 ≤ Y / 256 ^ j := by rw [hx, hy]; omega
    have h4 := Nat.mul_le_mul_left (256 ^ j) h3
    rw [Nat.mul_add, Nat.mul_one] at h4
    omega
theorem less_same {X Y j : Nat} (h : X / 256 ^ (j + 1) = Y / 256 ^ (j + 1)) (he : dig X j = dig Y j) : X / 256 ^ j = Y / 256 ^ j := by
  rw [dig_up X j, dig_up Y j, h, he]
end SmWord

theorem setRow_alloc2 (w : World) (o : Obj) (c c' : Array Value) (t : TypeId) : ((w.alloc o).alloc (.cells c t)).setRow (w.heap.size + 1) c' = (w.alloc o).alloc (.cells c' t) := by
  have := World.setRow_alloc_new (w.alloc o) c c' t
  rw [World.size_alloc] at this
  exact this

set_option maxHeartbeats 1000000 in
theorem nword_ref (v : Value) (n X : Nat) (w : World) (h : NumS w v n X) : Calls Tryz.prog 54 #[v] w fun e w' => e = .returned (wd X) ∧ Below w.heap.size w w' := by
  have HN := Lib.hid h
  clear h
  go_enter Tryz.func54, Tryz.ntmps54
  go_upto_block 0 with (first | (refine wpList_alloc_row rfl 39 rfl zD zD_run ?_) | (refine wpList_build_zero rfl 39 rfl Tryz.underlying39 Tryz.sizeOf3 zD zD_run ?_) | (refine wpList_store_row rfl 39 (.tmp 3) _ rfl _ zD zD rfl rfl (heap_alloc_new _ _) (infoArr _) rfl (arr_one _ _ _) ?_))
  rw [setRow_alloc2]
  have f2 : ((w.alloc (.cells (wa 0) 24)).alloc (.cells zD 39)).heap[w.heap.size]? = some (.cells (wa 0) 24) := blk_alloc (heap_alloc_new _ _)
  have f3 : ((w.alloc (.cells (wa 0) 24)).alloc (.cells zD 39)).heap[w.heap.size + 1]? = some (.cells zD 39) := heap_alloc2_new _ _ _
  have bW : Below w.heap.size w ((w.alloc (.cells (wa 0) 24)).alloc (.cells zD 39)) := ((Below.refl _ _).alloc (Nat.le_refl _) _).alloc (by simp) _
  have ez : (w.alloc (.cells #[.int .u64 0, .int .u64 0, .int .u64 0, .int .u64 0] 24)).alloc (.cells zD 39) = (w.alloc (.cells (wa 0) 24)).alloc (.cells zD 39) := rfl
  rw [ez]
  clear ez
  generalize (w.alloc (.cells (wa 0) 24)).alloc (.cells zD 39) = W at *
  go_wp2_with fail
  go_loopw [4] (fun i wr => ∃ k : Nat, k ≤ 32 ∧ i = .int .i64 (k : Int) ∧ Below w.heap.size w wr ∧ wr.heap[w.heap.size]? = some (.cells (wa 0) 24) ∧
      wr.heap[w.heap.size + 1]? = some (.cells (arr .i64 32 (fun j => if j < k then ((dig X j : Nat) : Int) else 0)) 39)) (fun i _ => 32 - (intOf i).toNat)
  case atStart => exact ⟨0, Nat.zero_le _, rfl, bW, f2, by rw [fill_start]; exact f3⟩
  case round =>
    clear f2 f3 bW
    obtain ⟨k, hk, rfl, bW, f2, f3⟩ := hrel
    by_cases hlt : k < 32
    · have c2 := blk_cell f3 (arr_get .i64 _ hlt)
      have c3 := blk_frozen (j := k) f3
      have HF := Lib.hid f3
      clear f3
      go_wp2_with fail
      refine (at_ref v n X k wr (HN.out.stays bW) (by omega)).mono ?_
      rintro e w1 ⟨rfl, rfl⟩
      go_wp2_with fail
      refine ⟨⟨k + 1, by omega, by go_num, bW.setCell (by simp) _, blk_other f2 (by omega) _, ?_⟩, by simp only [intOf]; omega⟩
      rw [← fill_step (fun j => ((dig X j : Nat) : Int)) k hlt _ rfl]
      exact blk_set HF.out _
    · obtain rfl : k = 32 := by omega
      rw [fill_end] at f3
      go_wp2_with (refine wpList_load_row rfl 39 (.tmp 3) rfl _ rfl 39 (da X) (0, 0) _ f3 Tryz.underlying39 rfl (infoArr _) ?_)
      refine (word_ref X _).mono ?_
      rintro e w1 ⟨rfl, b1⟩
      replace f2 := Below.stays b1 f2
      replace bW := bW.trans (b1.mono bW.size)
      go_wp2_with (refine wpList_store_row rfl 24 (.tmp 2) _ rfl _ _ (wa X) rfl rfl f2 Tryz.infoWa rfl wa_one ?_)
      exact bodyPost_ret (v := wd X) (results_cell_row rfl _ _ _ 24 (wa X) (0, 0) _ rfl (blk_row f2) Tryz.underlying24 rfl Tryz.infoWa) rfl ⟨rfl, below_setRow bW (by omega) _⟩

set_option maxHeartbeats 1000000 in
theorem zero_ref (v : Value) (n X : Nat) (w : World) (h : NumS w v n X) : Calls Tryz.prog 85 #[v] w fun e w' => e = .returned (.bool (decide (X = 0))) ∧ w = w' := by
  obtain ⟨⟨A, c, rfl, hnc, hs⟩, hl, hm⟩ := h
  have HL := Lib.hid hl
  have HS := Lib.hid hs
  clear hl hs
  go_enter Tryz.func85, Tryz.ntmps85
  go_wp2_with fail
  go_loop [6] (fun i => ∃ k : Nat, k ≤ n ∧ i = .int .i64 (k : Int) ∧ Hid (X % 256 ^ k = 0)) (fun i => n - (intOf i).toNat)
  case atStart => exact ⟨0, Nat.zero_le _, rfl, Lib.hid (by rw [Nat.pow_zero, Nat.mod_one])⟩
  case round =>
    obtain ⟨k, hk, rfl, hx⟩ := hrel
    by_cases hlt : k < n
    · obtain ⟨b, off, rfl, hb, hc⟩ := HS.out (by omega)
      have c1 := hc k hlt
      have hsx := Lib.hid (low_succ X k)
      clear hc
      by_cases hd : dig X k = 0
      · have hb1 : (((dig X k : Nat) : Int) != 0) = false := by simp [hd]
        have HD := Lib.hid hd
        clear hd
        go_wp2_with fail
        refine ⟨⟨k + 1, by omega, by go_num, Lib.hid ?_⟩, by simp only [intOf]; omega⟩
        rw [hsx.out, hx.out, HD.out, Nat.mul_zero]
      · have hb1 : (((dig X k : Nat) : Int) != 0) = true := by simp [hd]
        have HD := Lib.hid hd
        clear hd
        have HF : Hid (decide (X = 0) = false) := Lib.hid (decide_eq_false fun e => HD.out (by rw [e]; unfold dig; rw [Nat.zero_div]))
        go_wp2_with fail
        go_ret
        exact ⟨by rw [HF.out]; rfl, rfl⟩
    · obtain rfl : k = n := by omega
      have HF : Hid (decide (X = 0) = true) := Lib.hid (decide_eq_true (by rw [← hx.out, Nat.mod_eq_of_lt HL.out]))
      go_wp2_with fail
      go_ret
      exact ⟨by rw [HF.out]; rfl, rfl⟩

set_option maxHeartbeats 2000000 in
theorem less_ref (v u : Value) (n m X Y : Nat) (w : World) (h : NumS w v n X) (g : NumS w u m Y) : Calls Tryz.prog 86 #[v, u] w fun e w' => e = .returned (.bool (decide (X < Y))) ∧ w = w' := by
  have h' := h
  have g' := g
  obtain ⟨⟨A, c, rfl, hnc, _⟩, hl, hm⟩ := h
  obtain ⟨⟨A', c', rfl, hnc', _⟩, gl, gm⟩ := g
  obtain ⟨t, ht, h1, h2⟩ : ∃ t : Nat, max (n : Int) (m : Int) = (t : Int) ∧ n ≤ t ∧ m ≤ t := ⟨max n m, by omega, by omega, by omega⟩
  have ht2 : t ≤ 1000 := by omega
  have hx : X / 256 ^ t = Y / 256 ^ t := by
    rw [Nat.div_eq_of_lt (Nat.lt_of_lt_of_le hl (Nat.pow_le_pow_right (by decide) h1)), Nat.div_eq_of_lt (Nat.lt_of_lt_of_le gl (Nat.pow_le_pow_right (by decide) h2))]
  have HX := Lib.hid hx
  have HA := Lib.hid h'
  have HB := Lib.hid g'
  clear hx h' g' hl gl
  go_enter Tryz.func86, Tryz.ntmps86
  go_wp2_with fail
  clear ht
  go_loop [5] (fun i => ∃ k : Nat, k ≤ t ∧ i = .int .i64 ((k : Int) - 1) ∧ Hid (X / 256 ^ k = Y / 256 ^ k)) (fun i => (intOf i + 1).toNat)
  case atStart => exact ⟨t, Nat.le_refl _, rfl, HX⟩
  case round =>
    obtain ⟨k, hk, rfl, hx⟩ := hrel
    cases k with
    | zero =>
      have HF : Hid (decide (X < Y) = false) := Lib.hid (decide_eq_false (by have := hx.out; rw [Nat.pow_zero, Nat.div_one, Nat.div_one] at this; omega))
      go_wp2_with fail
      go_ret
      exact ⟨by rw [HF.out]; rfl, rfl⟩
    | succ j =>
      rw [show (((j + 1 : Nat) : Int) - 1) = (j : Int) by omega]
      by_cases hd : dig X j = dig Y j
      · have hb1 : (((dig X j : Nat) : Int) != ((dig Y j : Nat) : Int)) = false := by simp [hd]
        have HN := Lib.hid (less_same hx.out hd)
        clear hd
        go_wp2_with (first | (go_at_call_of 88 (Value.slice A n c); refine (at_ref _ n X j _ HA.out (by omega)).mono ?_; rintro e w' ⟨rfl, rfl⟩) | (go_at_call 88; refine (at_ref _ m Y j _ HB.out (by omega)).mono ?_; rintro e w' ⟨rfl, rfl⟩))
        exact ⟨⟨j, by omega, rfl, HN⟩, by simp only [intOf]; omega⟩
      · have hb1 : (((dig X j : Nat) : Int) != ((dig Y j : Nat) : Int)) = true := by simp; omega
        have HF : Hid (decide (X < Y) = decide (dig X j < dig Y j)) := Lib.hid (decide_eq_decide.2 (less_here hx.out hd))
        clear hd
        go_wp2_with (first | (go_at_call_of 88 (Value.slice A n c); refine (at_ref _ n X j _ HA.out (by omega)).mono ?_; rintro e w' ⟨rfl, rfl⟩) | (go_at_call 88; refine (at_ref _ m Y j _ HB.out (by omega)).mono ?_; rintro e w' ⟨rfl, rfl⟩))
        go_ret
        exact ⟨by rw [HF.out]; rfl, rfl⟩
end Go.Proofs.YtdpbjdecbilaeaaGreat
/- What the functions High, Plus and Minus of the document's numbers of any length do; all older memory is as it was. -/
namespace Go.Proofs.YtdpbjdecbilaeaaGreat
open Go.RowKit SmWord
set_option maxRecDepth 100000

namespace SmWord
theorem dig_shift (X s i : Nat) : dig (X / 256 ^ s) i = dig X (s + i) := by
  unfold dig; rw [Nat.div_div_eq_div_mul, ← Nat.pow_add]
/-- Taking off, digit by digit: Z + Y is X. -/
theorem minus_step {X Y Z k : Nat} (h : Z + Y = X) : (dig X k : Int) - dig Y k - carry Z Y k = dig Z k - 256 * carry Z Y (k + 1) ∧ carry Z Y (k + 1) ≤ 1 := by
  obtain ⟨h1, h2⟩ := carry_step Z Y k
  rw [h] at h1
  refine ⟨?_, (carry_eq Z Y (k + 1)).2⟩
  omega
end SmWord

/-- What returns a number in new memory. -/
def RetF (n X : Nat) (w : World) (e : Ending) (w' : World) : Prop := ∃ v, e = .returned v ∧ NumS w' v n X ∧ (∀ b, v.ownBlock = some b → w.heap.size ≤ b) ∧ Below w.heap.size w w'
theorem NumS.apart {w : World} {v : Value} {n X b0 j : Nat} {x : Value} (h : NumS w v n X) (ha : ∀ b, v.ownBlock = some b → b ≠ b0) : NumS (w.setCell ⟨b0, j, none⟩ x) v n X := by
  obtain ⟨⟨A, c, rfl, hnc, hs⟩, hl, hm⟩ := h
  refine ⟨⟨A, c, rfl, hnc, fun hn => ?_⟩, hl, hm⟩
  obtain ⟨b, off, rfl, hlt, hc⟩ := hs hn
  have hne : b ≠ b0 := ha b rfl
  refine ⟨b, off, rfl, by simpa using hlt, fun i hi => ?_⟩
  have e : (w.setCell ⟨b0, j, none⟩ x).heap[b]? = w.heap[b]? := by
    obtain ⟨o, ho⟩ : ∃ o, w.heap[b]? = some o := ⟨_, Array.getElem?_eq_getElem hlt⟩
    rw [ho]; exact blk_other ho hne x
  rw [World.cell?_of_block (w := w) (a := ⟨b, off + i, none⟩) e]
  exact hc i hi
theorem at_below (v : Value) (n X i : Nat) (w : World) (h : NumS w v n X) (hi : i ≤ 1000000) :
    Calls Tryz.prog 88 #[v, .int .i64 (i : Int)] w fun e w' => e = .returned (.int .i64 ((dig X i : Nat) : Int)) ∧ Below w.heap.size w w' :=
  (at_ref v n X i w h hi).mono fun _ _ ⟨h1, h2⟩ => ⟨h1, h2 ▸ Below.refl _ _⟩
theorem own_stays {w w' : World} {base : Nat} {e : TypeId} {s : Nat} {v : Value} {n : Nat} {xs : List Value} (h : w.ownsRow base e s v n xs) (hb : Below w.heap.size w w') : w'.ownsRow base e s v n xs := by
  obtain ⟨h0, h⟩ := h
  refine ⟨h0, ?_⟩
  rcases h with h | ⟨g, cap, cur, h1, h2, h3, h4⟩
  · exact .inl h
  · exact .inr ⟨g, cap, cur, h1, h2, Below.stays hb h3, h4⟩

set_option maxHeartbeats 2000000 in
theorem plus_ref (v u : Value) (n m X Y : Nat) (w : World) (h : NumS w v n X) (g : NumS w u m Y) (hsm : n ≤ 900 ∧ m ≤ 900) : Calls Tryz.prog 56 #[v, u] w (RetN (max n m + 1) (X + Y) w) := by
  obtain ⟨i0, hi, hz0, hz1, hz2⟩ := info_parts Tryz.info3
  have h' := h
  have g' := g
  obtain ⟨⟨A, c, rfl, hnc, _⟩, hl, hm⟩ := h
  obtain ⟨⟨A', c', rfl, hnc', _⟩, gl, gm⟩ := g
  obtain ⟨t, ht, ht', h1, h2⟩ : ∃ t : Nat, max (n : Int) (m : Int) = (t : Int) ∧ max n m = t ∧ n ≤ t ∧ m ≤ t := ⟨max n m, by omega, rfl, by omega, by omega⟩
  have ht2 : t ≤ 900 := by omega
  have hS : X + Y < 256 ^ (t + 1) := by
    have a1 := Nat.lt_of_lt_of_le hl (Nat.pow_le_pow_right (n := 256) (by decide) h1)
    have a2 := Nat.lt_of_lt_of_le gl (Nat.pow_le_pow_right (n := 256) (by decide) h2)
    rw [Nat.pow_succ]; omega
  rw [ht']
  have HS := Lib.hid hS
  have HA := Lib.hid h'
  have HB := Lib.hid g'
  clear h' g' hl gl hS hsm ht'
  go_enter Tryz.func56, Tryz.ntmps56
  go_wp2_with fail
  go_loopw [5, 6, 7] (fun v s i wr => ∃ k : Nat, k ≤ t + 1 ∧ i = .int .i64 (k : Int) ∧ s = .int .i64 ((carry X Y k : Nat) : Int) ∧ wr.ownsRow w.heap.size 3 1 v k (dg (X + Y) k) ∧ Below w.heap.size w wr) (fun _ _ i _ => t + 1 - (intOf i).toNat)
  case atStart => exact ⟨0, Nat.zero_le _, rfl, by rw [carry_zero]; rfl, own_empty _ (Nat.le_refl _), (Below.refl _ _).alloc (Nat.le_refl _) _⟩
  case round =>
    obtain ⟨k, hk, rfl, rfl, hown, bW⟩ := hrel
    have sW := bW.size
    by_cases hlt : k < t + 1
    · have d1 := dig_lt X k
      have d2 := dig_lt Y k
      have d3 := (carry_eq X Y k).2
      have HC := Lib.hid (carry_step X Y k)
      go_wp2_with fail
      (refine (at_ref _ n X k _ (HA.out.stays bW) (by omega)).mono ?_; rintro e w' ⟨rfl, rfl⟩)
      go_wp2_with fail
      (refine (at_ref _ m Y k _ (HB.out.stays bW) (by omega)).mono ?_; rintro e w' ⟨rfl, rfl⟩)
      go_wp2_with (at_builtin; refine wpList_append_own _ rfl _ _ 52 rfl (w.heap.size) 3 i0 (.int .i64 0) 1 8 Tryz.underlying52 hi hz0 hz1 hz2 rfl (by decide) _ _ _ rfl (hown.alloc _) ⟨wr.heap.size, 0, none⟩ 1 1 [.int .i64 ((((dig X k : Nat) : Int) + ((dig Y k : Nat) : Int) + ((carry X Y k : Nat) : Int)) % 256)] rfl rfl ?c1 ?c2 ?c3 ?c4 ?c5 ?_)
      case c1 => exact own_one _ _
      case c2 => simp [Value.oneCell']
      case c3 => unfold maxLen; omega
      case c4 => omega
      case c5 => simp; omega
      intro v' w3 hown' hgrow _
      rw [show (((dig X k : Nat) : Int) + ((dig Y k : Nat) : Int) + ((carry X Y k : Nat) : Int)) % 256 = ((dig (X + Y) k : Nat) : Int) by rw [← HC.out.1]; omega, dg_succ] at hown'
      have hr := fun g hg => (hown.lt g hg).1
      have bX : Below w.heap.size w w3 := (bW.alloc (o := .cells #[.int .i64 ((((dig X k : Nat) : Int) + ((dig Y k : Nat) : Int) + ((carry X Y k : Nat) : Int)) % 256)] 3) (by omega)).grown hgrow (by simp; omega) (fun g hg => hr g hg)
      clear hown hgrow bW hr
      go_wp2_with fail
      exact ⟨⟨k + 1, by omega, by go_num, congrArg (Value.int .i64) (by rw [← HC.out.2]; omega), hown', bX⟩, by simp only [intOf]; omega⟩
    · obtain rfl : k = t + 1 := by omega
      go_wp2_with fail
      go_ret
      exact ⟨_, rfl, NumS.of_owns hown HS.out (by omega), bW⟩

set_option maxHeartbeats 2000000 in
theorem minus_ref (v u : Value) (n m X Y Z : Nat) (w : World) (h : NumS w v n X) (g : NumS w u m Y) (hZ : Z + Y = X) : Calls Tryz.prog 87 #[v, u] w (RetF n Z w) := by
  obtain ⟨i0, hi, hz0, hz1, hz2⟩ := info_parts Tryz.info3
  have h' := h
  have g' := g
  obtain ⟨⟨A, c, rfl, hnc, _⟩, hl, hm⟩ := h
  obtain ⟨⟨A', c', rfl, hnc', _⟩, gl, gm⟩ := g
  have HS : Hid (Z < 256 ^ n) := Lib.hid (by omega)
  have HA := Lib.hid h'
  have HB := Lib.hid g'
  have HZ := Lib.hid hZ
  clear h' g' hl gl hZ
  go_enter Tryz.func87, Tryz.ntmps87
  go_wp2_with fail
  go_loopw [5, 6, 12] (fun v s i wr => ∃ k : Nat, k ≤ n ∧ i = .int .i64 (k : Int) ∧ s = .int .i64 ((carry Z Y k : Nat) : Int) ∧ wr.ownsRow w.heap.size 3 1 v k (dg Z k) ∧ Below w.heap.size w wr) (fun _ _ i _ => n - (intOf i).toNat)
  case atStart => exact ⟨0, Nat.zero_le _, rfl, by rw [carry_zero]; rfl, own_empty _ (Nat.le_refl _), (Below.refl _ _).alloc (Nat.le_refl _) _⟩
  case round =>
    obtain ⟨k, hk, rfl, rfl, hown, bW⟩ := hrel
    have sW := bW.size
    by_cases hlt : k < n
    · have d1 := dig_lt X k
      have d2 := dig_lt Y k
      have d4 := dig_lt Z k
      have d3 := (carry_eq Z Y k).2
      obtain ⟨m1, m2⟩ := minus_step (k := k) HZ.out
      have HM := Lib.hid m1
      clear m1
      obtain ⟨⟨A1, c1, e1, _, hs1⟩, _, _⟩ := HA.out.stays bW
      cases e1
      obtain ⟨b, off, rfl, hbl, hc⟩ := hs1 (by omega)
      have k1 := hc k hlt
      clear hs1 hc
      go_upto_region 6 with fail
      go_cut [8] (fun s8 wx => s8 = .int .i64 (((dig Z k : Nat) : Int) - 256 * ((carry Z Y (k + 1) : Nat) : Int)) ∧ Below wr.heap.size wr wx)
      case first =>
        have k2 := fun g : Ext wr => (g.below.cell (p := ⟨b, off + k, none⟩) hbl).trans k1
        refine region_ext (by kernel_rfl) (by kernel_rfl) ?_
        repeat (go_big_quiet_step ((go_at_call 88; with_reducible exact calls_ext (at_below _ m Y k _ ((HB.out.stays bW).stays (Ext.below _)) (by omega)))))
        refine wpQuiet_nil ?_
        rintro _ ⟨g, rfl⟩
        go_wp2_with fail
        go_meet
        exact ⟨by rw [HM.out], g.below⟩
      case rest =>
        obtain ⟨rfl, b1⟩ := hcut
        replace hown := own_stays hown b1
        replace bW := bW.trans (b1.mono bW.size)
        have sC := Nat.le_trans sW b1.size
        clear b1 k1 hbl HM
        generalize wc = wr at *
        by_cases hz : carry Z Y (k + 1) = 0
        · have HZ0 := Lib.hid hz
          rw [hz, show ((dig Z k : Nat) : Int) - 256 * ((0 : Nat) : Int) = ((dig Z k : Nat) : Int) by omega]
          clear hz m2
          go_wp2_with (at_builtin; refine wpList_append_own _ rfl _ _ 52 rfl (w.heap.size) 3 i0 (.int .i64 0) 1 8 Tryz.underlying52 hi hz0 hz1 hz2 rfl (by decide) _ _ _ rfl (hown.alloc _) ⟨wr.heap.size, 0, none⟩ 1 1 [.int .i64 (((dig Z k : Nat) : Int))] rfl rfl ?c1 ?c2 ?c3 ?c4 ?c5 ?_)
          case c1 => exact own_one _ _
          case c2 => simp [Value.oneCell']
          case c3 => unfold maxLen; omega
          case c4 => omega
          case c5 => simp; omega
          intro v' w3 hown' hgrow _
          rw [dg_succ] at hown'
          have hr := fun g hg => (hown.lt g hg).1
          have bX : Below w.heap.size w w3 := (bW.alloc (o := .cells #[.int .i64 ((dig Z k : Nat) : Int)] 3) (by omega)).grown hgrow (by simp; omega) (fun g hg => hr g hg)
          clear hown hgrow bW hr
          go_wp2_with fail
          exact ⟨⟨k + 1, by omega, by go_num, by rw [HZ0.out]; rfl, hown', bX⟩, by simp only [intOf]; omega⟩
        · have hz1 : carry Z Y (k + 1) = 1 := by omega
          have HZ0 := Lib.hid hz1
          rw [hz1, show ((dig Z k : Nat) : Int) - 256 * ((1 : Nat) : Int) = ((dig Z k : Nat) : Int) - 256 by omega]
          clear hz hz1 m2
          go_wp2_with (at_builtin; refine wpList_append_own _ rfl _ _ 52 rfl (w.heap.size) 3 i0 (.int .i64 0) 1 8 Tryz.underlying52 hi hz0 hz1 hz2 rfl (by decide) _ _ _ rfl (hown.alloc _) ⟨wr.heap.size, 0, none⟩ 1 1 [.int .i64 (((dig Z k : Nat) : Int))] rfl rfl ?c1 ?c2 ?c3 ?c4 ?c5 ?_)
          case c1 => exact own_one _ _
          case c2 => simp [Value.oneCell']
          case c3 => unfold maxLen; omega
          case c4 => omega
          case c5 => simp; omega
          intro v' w3 hown' hgrow _
          rw [dg_succ] at hown'
          have hr := fun g hg => (hown.lt g hg).1
          have bX : Below w.heap.size w w3 := (bW.alloc (o := .cells #[.int .i64 ((dig Z k : Nat) : Int)] 3) (by omega)).grown hgrow (by simp; omega) (fun g hg => hr g hg)
          clear hown hgrow bW hr
          go_wp2_with fail
          exact ⟨⟨k + 1, by omega, by go_num, by rw [HZ0.out]; rfl, hown', bX⟩, by simp only [intOf]; omega⟩
    · obtain rfl : k = n := by omega
      go_wp2_with fail
      go_ret
      exact ⟨_, rfl, NumS.of_owns hown HS.out (by omega), fun b hb => (hown.lt b hb).1, bW⟩
end Go.Proofs.YtdpbjdecbilaeaaGreat
/- What the function Times of the document's numbers of any length does: the whole product; all older memory is as it was. -/
namespace Go.Proofs.YtdpbjdecbilaeaaGreat
open Go.RowKit SmWord
set_option maxRecDepth 100000

namespace SmWord
theorem row_full {m n i k : Nat} (hk : n < 256 ^ k) : rowT m n i k = m % 256 ^ (i + 1) * n := by
  unfold rowT
  rw [Nat.mod_eq_of_lt hk, low_succ, Nat.add_mul, Nat.mul_comm (dig m i)]
theorem row_over {m n i k l : Nat} (hn : n < 256 ^ l) (hk : l + 1 ≤ k) : rowC m n i k = 0 := by
  have h1 : n < 256 ^ k := Nat.lt_of_lt_of_le hn (Nat.pow_le_pow_right (by decide) (by omega))
  have h2 : rowT m n i k < 256 ^ (i + k) := by
    rw [row_full h1]
    have a1 : m % 256 ^ (i + 1) < 256 ^ (i + 1) := Nat.mod_lt _ (Nat.pow_pos (by decide))
    have a2 : m % 256 ^ (i + 1) * n ≤ 256 ^ (i + 1) * n := Nat.mul_le_mul_right _ (Nat.le_of_lt a1)
    have a3 : 256 ^ (i + 1) * n < 256 ^ (i + 1) * 256 ^ l := Nat.mul_lt_mul_of_pos_left hn (Nat.pow_pos (by decide))
    rw [← Nat.pow_add] at a3
    have a4 : 256 ^ (i + 1 + l) ≤ 256 ^ (i + k) := Nat.pow_le_pow_right (by decide) (by omega)
    omega
  unfold rowC
  rw [Nat.div_eq_of_lt h2, Nat.zero_sub]
end SmWord

/-- The digits while row i is under way, in L places: k of its steps are done. -/
def rowL (L m n i k : Nat) : Array Value := arr .i64 L (fun j => if j < i + k then ((dig (rowT m n i k) j : Nat) : Int) else ((dig (m % 256 ^ i * n) j : Nat) : Int))
def dL (L x : Nat) : Array Value := arr .i64 L (fun j => ((dig x j : Nat) : Int))
theorem rowL_start (L m n i : Nat) : rowL L m n i 0 = dL L (m % 256 ^ i * n) := arr_congr fun j _ => by rw [rowT_zero]; simp
theorem rowL_step (L m n i k : Nat) (hk : i + k < L) : (rowL L m n i k).setIfInBounds (i + k) (.int .i64 ((dig (rowT m n i (k + 1)) (i + k) : Nat) : Int)) = rowL L m n i (k + 1) := by
  unfold rowL
  rw [arr_set _ _ _ hk]
  refine arr_congr fun j _ => ?_
  by_cases h1 : j = i + k
  · subst h1; simp [show i + k < i + (k + 1) by omega]
  · by_cases h2 : j < i + k
    · simp [h1, h2, show j < i + (k + 1) by omega, row_low m n i k h2]
    · simp [h1, h2, show ¬ j < i + (k + 1) by omega]
theorem rowL_end (L m n i k : Nat) (hk : n < 256 ^ k) (hc : rowC m n i k = 0) : rowL L m n i k = dL L (m % 256 ^ (i + 1) * n) := arr_congr fun j _ => by
  have e := rowC_eq m n i k
  rw [hc, Nat.add_zero] at e
  by_cases h : j < i + k
  · rw [if_pos h, row_full hk]
  · rw [if_neg h, ← row_full hk]
    unfold dig
    have ep : 256 ^ j = 256 ^ (i + k) * 256 ^ (j - (i + k)) := by rw [← Nat.pow_add]; congr 1; omega
    rw [ep, ← Nat.div_div_eq_div_mul, ← Nat.div_div_eq_div_mul, e]
theorem dL_none (L n m : Nat) : dL L (m % 256 ^ 0 * n) = arr .i64 L (fun _ => 0) := arr_congr fun j _ => by simp [dig, Nat.mod_one]
theorem dL_num {w : World} {b L X : Nat} (h : w.heap[b]? = some (.cells (dL L X) 3)) (hX : X < 256 ^ L) (hL : L ≤ 1000) : NumS w (.slice (some ⟨b, 0, none⟩) L L) L X :=
  ⟨⟨_, _, rfl, Nat.le_refl _, fun _ => ⟨b, 0, rfl, (Array.getElem?_eq_some_iff.1 h).1, fun i hi => by rw [Nat.zero_add]; exact blk_cell h (arr_get .i64 _ hi)⟩⟩, hX, hL⟩
theorem made_row {w : World} {base g n : Nat} (h : w.ownsRow base 3 1 (.slice (some ⟨g, 0, none⟩) n n) n (madeCells #[.int .i64 0] n).toList) : w.heap[g]? = some (.cells (arr .i64 n (fun _ => 0)) 3) := by
  obtain ⟨_, h⟩ := h
  rcases h with ⟨h, _⟩ | ⟨g', cap, cur, h1, _, h3, _, _, h6, h7⟩
  · cases h
  · cases h1
    have e : cur = arr .i64 n (fun _ => 0) := by
      apply Array.ext'
      rw [List.take_of_length_le (by simp [h6])] at h7
      rw [h7]
      rw [toList_madeCells_one]
      unfold arr
      simp [List.map_const']
    rw [← e]; exact h3

set_option maxHeartbeats 4000000 in
theorem times_ref (v u : Value) (n m X Y : Nat) (w : World) (h : NumS w v n X) (g : NumS w u m Y) (hsm : n ≤ 400 ∧ m ≤ 400) : Calls Tryz.prog 57 #[v, u] w (RetN (n + m + 1) (X * Y) w) := by
  obtain ⟨i0, hi, hz0, hz1, hz2⟩ := info_parts Tryz.info3
  have h' := h
  have g' := g
  obtain ⟨⟨A, c, rfl, hnc, _⟩, hl, hm⟩ := h
  obtain ⟨⟨A', c', rfl, hnc', _⟩, gl, gm⟩ := g
  obtain ⟨L, hL⟩ : ∃ L, n + m + 1 = L := ⟨_, rfl⟩
  have hL1 : n + m + 1 ≤ L := by omega
  have hL2 : L ≤ 801 := by omega
  have hLi : ((n : Int) + (m : Int) + 1) = (L : Int) := by omega
  have hXY : X * Y < 256 ^ L := by
    have a1 : X * Y ≤ 256 ^ n * Y := Nat.mul_le_mul_right _ (Nat.le_of_lt hl)
    have a2 : 256 ^ n * Y ≤ 256 ^ n * 256 ^ m := Nat.mul_le_mul_left _ (Nat.le_of_lt gl)
    rw [← Nat.pow_add] at a2
    have a3 : 256 ^ (n + m) < 256 ^ L := Nat.pow_lt_pow_right (by decide) (by omega)
    omega
  rw [hL]
  have hXe : X % 256 ^ n * Y = X * Y := by rw [Nat.mod_eq_of_lt hl]
  have HS := Lib.hid hXY
  have HE := Lib.hid hXe
  have HL := Lib.hid hLi
  have HA := Lib.hid h'
  have HB := Lib.hid g'
  have HY := Lib.hid gl
  clear h' g' hl gl hXY hXe hL hLi
  go_enter Tryz.func57, Tryz.ntmps57
  go_upto_region 2 with (at_make; refine wpList_make_full _ rfl _ _ 52 rfl w.heap.size 3 i0 (.int .i64 0) 1 Tryz.underlying52 hi hz0 hz1 _ _ _ _ L rfl rfl HL.out HL.out ?b2 ?b3 ?b4 ?_)
  case b2 => rw [hz2]; omega
  case b3 => unfold maxLen; omega
  case b4 => exact Nat.le_refl _
  intro w1 hown hgrow
  have f5 := made_row hown
  have bW : Below w.heap.size w w1 := (Below.refl _ _).grown hgrow (Nat.le_refl _) (fun k hk => by cases hk)
  clear hown hgrow
  go_wp2_with fail
  go_loopw [6, 7, 8, 9, 19] (fun _ _ _ _ i wr => ∃ k : Nat, k ≤ n ∧ i = .int .i64 (k : Int) ∧ Below w.heap.size w wr ∧ wr.heap[w.heap.size]? = some (.cells (dL L (X % 256 ^ k * Y)) 3)) (fun _ _ _ _ i _ => n - (intOf i).toNat)
  case atStart => exact ⟨0, Nat.zero_le _, rfl, bW, by rw [dL_none]; exact f5⟩
  case round =>
    clear f5 bW
    obtain ⟨i, hin, rfl, bW, f5⟩ := hrel
    obtain ⟨wo, rfl⟩ : ∃ wo : World, wo = wr := ⟨_, rfl⟩
    by_cases hlt : i < n
    · rw [← rowL_start] at f5
      go_wp2_with fail
      go_loopw [7, 8, 9] (fun c k _ wr => ∃ q : Nat, q ≤ m + 1 ∧ k = .int .i64 (q : Int) ∧ c = .int .i64 ((rowC X Y i q : Nat) : Int) ∧ Below w.heap.size w wr ∧ wr.heap[w.heap.size]? = some (.cells (rowL L X Y i q) 3)) (fun _ k _ _ => m + 1 - (intOf k).toNat)
      case atStart => exact ⟨0, by omega, rfl, by rw [rowC_zero]; rfl, bW, f5⟩
      case round =>
        clear f5 bW
        obtain ⟨q, hq, rfl, rfl, bW, f5⟩ := hrel
        have d3 := rowC_le X Y i q
        have sW := bW.size
        by_cases hend : m ≤ q ∧ rowC X Y i q = 0
        · obtain ⟨he1, he2⟩ := hend
          have HF := Lib.hid (rowL_end L X Y i q (Nat.lt_of_lt_of_le HY.out (Nat.pow_le_pow_right (by decide) he1)) he2)
          rw [he2]
          clear he2
          have g1 : decide (q < m) = false := by simp; omega
          go_wp2_with fail
          exact ⟨⟨i + 1, by omega, by go_num, bW, by rw [← HF.out]; exact f5⟩, by simp only [intOf]; omega⟩
        · have hqm : q ≤ m := by
            apply Classical.byContradiction
            intro hn
            exact hend ⟨by omega, row_over HY.out (by omega)⟩
          have hbody : i + q < L := by omega
          have d1 := dig_lt X i
          have d2 := dig_lt Y q
          have d4 := dig_lt (X % 256 ^ i * Y) (i + q)
          have d5 : dig X i * dig Y q ≤ 65025 := by
            have := Nat.mul_le_mul (show dig X i ≤ 255 by omega) (show dig Y q ≤ 255 by omega)
            omega
          have d6 : ((dig X i : Nat) : Int) * ((dig Y q : Nat) : Int) ≤ 65025 := by rw [← Int.natCast_mul]; omega
          have d7 : 0 ≤ ((dig X i : Nat) : Int) * ((dig Y q : Nat) : Int) := by rw [← Int.natCast_mul]; omega
          clear d5
          obtain ⟨s1, s2⟩ := row_step X Y i q
          have S1 := Lib.hid s1
          have S2 := Lib.hid s2
          clear s1 s2
          have c5 : wr.cell? ⟨w.heap.size, i + q, none⟩ = some (.int .i64 ((dig (X % 256 ^ i * Y) (i + q) : Nat) : Int)) := blk_cell f5 (by unfold rowL; rw [arr_get .i64 _ hbody, if_neg (by omega)])
          have z5 := blk_frozen (j := i + q) f5
          have hb5 : w.heap.size < wr.heap.size := (Array.getElem?_eq_some_iff.1 f5).1
          obtain ⟨⟨A1, c1, e1, _, hs1⟩, _, _⟩ := HA.out.stays bW
          cases e1
          obtain ⟨b, off, rfl, hbl, hc⟩ := hs1 (by omega)
          have k1 := hc i hlt
          clear hs1 hc
          have HF := Lib.hid f5
          clear f5
          by_cases hqlt : q < m
          · have g1 : decide (q < m) = true := by simp; omega
            clear hend
            go_upto_region 9 with fail
            have k2 := fun g : Ext wr => (g.below.cell (p := ⟨b, off + i, none⟩) (by omega)).trans k1
            have c6 := fun g : Ext wr => (g.below.cell (p := ⟨w.heap.size, i + q, none⟩) hb5).trans c5
            have e1 : IntKind.i64.wrap ((i : Int) + (q : Int)) = ((i + q : Nat) : Int) := by rw [IntWalk.i64_in _ (by omega)]; omega
            have e2 : IntKind.i64.wrap (((dig X i : Nat) : Int) * ((dig Y q : Nat) : Int)) = ((dig X i : Nat) : Int) * ((dig Y q : Nat) : Int) := IntWalk.i64_in _ (by omega)
            have e3 : IntKind.i64.wrap (((dig (X % 256 ^ i * Y) (i + q) : Nat) : Int) + ((dig X i : Nat) : Int) * ((dig Y q : Nat) : Int)) = ((dig (X % 256 ^ i * Y) (i + q) : Nat) : Int) + ((dig X i : Nat) : Int) * ((dig Y q : Nat) : Int) := IntWalk.i64_in _ (by omega)
            have e4 : IntKind.i64.wrap (((dig (X % 256 ^ i * Y) (i + q) : Nat) : Int) + ((dig X i : Nat) : Int) * ((dig Y q : Nat) : Int) + ((rowC X Y i q : Nat) : Int)) = ((dig (X % 256 ^ i * Y) (i + q) : Nat) : Int) + ((dig X i : Nat) : Int) * ((dig Y q : Nat) : Int) + ((rowC X Y i q : Nat) : Int) := IntWalk.i64_in _ (by omega)
            refine region_ext (by kernel_rfl) (by kernel_rfl) ?_
            repeat (go_big_quiet_step ((go_at_call 88; with_reducible exact calls_ext (at_below _ m Y q _ ((HB.out.stays bW).stays (Ext.below _)) (by omega)))))
            refine wpQuiet_nil ?_
            rintro _ ⟨g, rfl⟩
            clear k2 c6 e1 e2 e3 e4 c5 z5 k1
            have f5 := Below.stays g.below HF.out
            replace bW := bW.trans (g.below.mono bW.size)
            generalize g.on = wn at *
            have c5 : wn.cell? ⟨w.heap.size, i + q, none⟩ = some (.int .i64 ((dig (X % 256 ^ i * Y) (i + q) : Nat) : Int)) := blk_cell f5 (by unfold rowL; rw [arr_get .i64 _ hbody, if_neg (by omega)])
            have z5 := blk_frozen (j := i + q) f5
            clear HF
            have HF := Lib.hid f5
            clear f5
            go_wp2_with fail
            have v1 : (((dig (X % 256 ^ i * Y) (i + q) : Nat) : Int) + ((dig X i : Nat) : Int) * ((dig Y q : Nat) : Int) + ((rowC X Y i q : Nat) : Int)) % 256 = ((dig (rowT X Y i (q + 1)) (i + q) : Nat) : Int) := by rw [← S1.out]; rfl
            have v2 : (((dig (X % 256 ^ i * Y) (i + q) : Nat) : Int) + ((dig X i : Nat) : Int) * ((dig Y q : Nat) : Int) + ((rowC X Y i q : Nat) : Int)) / 256 = ((rowC X Y i (q + 1) : Nat) : Int) := by rw [← S2.out]; rfl
            rw [v1, v2]
            refine ⟨⟨q + 1, by omega, by go_num, rfl, bW.setCell (by simp) _, ?_⟩, by simp only [intOf]; omega⟩
            rw [← rowL_step L X Y i q hbody]
            exact blk_set HF.out _
          · have g1 : decide (q < m) = false := by simp; omega
            have hpos : 0 < rowC X Y i q := by omega
            clear hend
            go_upto_region 9 with fail
            have k2 := fun g : Ext wr => (g.below.cell (p := ⟨b, off + i, none⟩) (by omega)).trans k1
            have c6 := fun g : Ext wr => (g.below.cell (p := ⟨w.heap.size, i + q, none⟩) hb5).trans c5
            have e1 : IntKind.i64.wrap ((i : Int) + (q : Int)) = ((i + q : Nat) : Int) := by rw [IntWalk.i64_in _ (by omega)]; omega
            have e2 : IntKind.i64.wrap (((dig X i : Nat) : Int) * ((dig Y q : Nat) : Int)) = ((dig X i : Nat) : Int) * ((dig Y q : Nat) : Int) := IntWalk.i64_in _ (by omega)
            have e3 : IntKind.i64.wrap (((dig (X % 256 ^ i * Y) (i + q) : Nat) : Int) + ((dig X i : Nat) : Int) * ((dig Y q : Nat) : Int)) = ((dig (X % 256 ^ i * Y) (i + q) : Nat) : Int) + ((dig X i : Nat) : Int) * ((dig Y q : Nat) : Int) := IntWalk.i64_in _ (by omega)
            have e4 : IntKind.i64.wrap (((dig (X % 256 ^ i * Y) (i + q) : Nat) : Int) + ((dig X i : Nat) : Int) * ((dig Y q : Nat) : Int) + ((rowC X Y i q : Nat) : Int)) = ((dig (X % 256 ^ i * Y) (i + q) : Nat) : Int) + ((dig X i : Nat) : Int) * ((dig Y q : Nat) : Int) + ((rowC X Y i q : Nat) : Int) := IntWalk.i64_in _ (by omega)
            refine region_ext (by kernel_rfl) (by kernel_rfl) ?_
            repeat (go_big_quiet_step ((go_at_call 88; with_reducible exact calls_ext (at_below _ m Y q _ ((HB.out.stays bW).stays (Ext.below _)) (by omega)))))
            refine wpQuiet_nil ?_
            rintro _ ⟨g, rfl⟩
            clear k2 c6 e1 e2 e3 e4 c5 z5 k1
            have f5 := Below.stays g.below HF.out
            replace bW := bW.trans (g.below.mono bW.size)
            generalize g.on = wn at *
            have c5 : wn.cell? ⟨w.heap.size, i + q, none⟩ = some (.int .i64 ((dig (X % 256 ^ i * Y) (i + q) : Nat) : Int)) := blk_cell f5 (by unfold rowL; rw [arr_get .i64 _ hbody, if_neg (by omega)])
            have z5 := blk_frozen (j := i + q) f5
            clear HF
            have HF := Lib.hid f5
            clear f5
            go_wp2_with fail
            have v1 : (((dig (X % 256 ^ i * Y) (i + q) : Nat) : Int) + ((dig X i : Nat) : Int) * ((dig Y q : Nat) : Int) + ((rowC X Y i q : Nat) : Int)) % 256 = ((dig (rowT X Y i (q + 1)) (i + q) : Nat) : Int) := by rw [← S1.out]; rfl
            have v2 : (((dig (X % 256 ^ i * Y) (i + q) : Nat) : Int) + ((dig X i : Nat) : Int) * ((dig Y q : Nat) : Int) + ((rowC X Y i q : Nat) : Int)) / 256 = ((rowC X Y i (q + 1) : Nat) : Int) := by rw [← S2.out]; rfl
            rw [v1, v2]
            refine ⟨⟨q + 1, by omega, by go_num, rfl, bW.setCell (by simp) _, ?_⟩, by simp only [intOf]; omega⟩
            rw [← rowL_step L X Y i q hbody]
            exact blk_set HF.out _
    · obtain rfl : i = n := by omega
      rw [HE.out] at f5
      go_wp2_with fail
      go_ret
      exact ⟨_, rfl, dL_num f5 HS.out (by omega), bW⟩
end Go.Proofs.YtdpbjdecbilaeaaGreat
/- What the function Div of the document's numbers of any length does: a quotient, and what is left; 0 and 0, where the divisor is 0; all older memory is as it was. -/
namespace Go.Proofs.YtdpbjdecbilaeaaGreat
open Go.RowKit SmWord
set_option maxRecDepth 100000

namespace SmWord
theorem dig_cons0 {L d : Nat} (hd : d < 256) : dig (256 * L + d) 0 = d := by unfold dig; rw [Nat.pow_zero, Nat.div_one]; omega
theorem dig_cons {L d : Nat} (hd : d < 256) (i : Nat) : dig (256 * L + d) (i + 1) = dig L i := by
  unfold dig
  rw [Nat.pow_succ', ← Nat.div_div_eq_div_mul, show (256 * L + d) / 256 = L by omega]
/-- One digit more of a quotient. -/
theorem quo_digit {X Y j : Nat} (hY : 0 < Y) : (256 * (X / 256 ^ (j + 1) % Y) + dig X j) / Y = dig (X / Y) j ∧ (256 * (X / 256 ^ (j + 1) % Y) + dig X j) % Y = X / 256 ^ j % Y ∧ 256 * (X / 256 ^ (j + 1) % Y) + dig X j < 256 * Y := by
  have h := dig_up X j
  have e := Nat.div_add_mod (X / 256 ^ (j + 1)) Y
  have hd := dig_lt X j
  have hl := Nat.mod_lt (X / 256 ^ (j + 1)) hY
  have key : X / 256 ^ j = 256 * (X / 256 ^ (j + 1) % Y) + dig X j + Y * (256 * (X / 256 ^ (j + 1) / Y)) := by
    rw [h, Nat.mul_left_comm Y]
    generalize Y * (X / 256 ^ (j + 1) / Y) = z at *
    omega
  have hlt : 256 * (X / 256 ^ (j + 1) % Y) + dig X j < 256 * Y := by omega
  refine ⟨?_, ?_, hlt⟩
  · have e2 : dig (X / Y) j = X / 256 ^ j / Y % 256 := by
      unfold dig; rw [Nat.div_div_eq_div_mul, Nat.div_div_eq_div_mul, Nat.mul_comm]
    rw [e2]
    generalize X / 256 ^ (j + 1) % Y = L at *
    rw [key, Nat.add_mul_div_left _ _ hY, Nat.add_mul_mod_self_left, Nat.mod_eq_of_lt]
    rw [Nat.div_lt_iff_lt_mul hY]; exact hlt
  · generalize X / 256 ^ (j + 1) % Y = L at *
    rw [key, Nat.add_mul_mod_self_left]
theorem top_zero {L n : Nat} (h : L < 256 ^ (n + 1)) (hz : dig L n = 0) : L < 256 ^ n := by
  have := low_succ L n
  rw [Nat.mod_eq_of_lt h, hz, Nat.mul_zero, Nat.add_zero] at this
  rw [this]; exact Nat.mod_lt _ (Nat.pow_pos (by decide))
theorem top_some {L Y n m : Nat} (hz : dig L n ≠ 0) (hL : L < Y) (hY : Y < 256 ^ m) : n + 1 ≤ m := by
  apply Classical.byContradiction
  intro hn
  apply hz
  have h1 : 256 ^ m ≤ 256 ^ n := Nat.pow_le_pow_right (by decide) (by omega)
  unfold dig
  rw [Nat.div_eq_of_lt (by omega)]
end SmWord

theorem dg_cons {L d n : Nat} (hd : d < 256) : [Value.int .i64 ((d : Nat) : Int)] ++ dg L n = dg (256 * L + d) (1 + n) := by
  apply List.ext_getElem?
  intro i
  cases i with
  | zero => rw [dg_get (by omega), dig_cons0 hd]; rfl
  | succ i =>
    rw [List.getElem?_append_right (by simp), show i + 1 - [Value.int .i64 ((d : Nat) : Int)].length = i by simp]
    by_cases hi : i < n
    · rw [dg_get hi, dg_get (by omega), dig_cons hd]
    · rw [List.getElem?_eq_none (by rw [dg_length]; omega), List.getElem?_eq_none (by rw [dg_length]; omega)]
theorem own_single (w : World) (x : Value) {base : Nat} (hb : base ≤ w.heap.size) : (w.alloc (.cells #[x] 3)).ownsRow base 3 1 (.slice (some ⟨w.heap.size, 0, none⟩) 1 1) 1 [x] :=
  ⟨rfl, .inr ⟨w.heap.size, 1, #[x], rfl, hb, heap_alloc_new _ _, Nat.le_refl _, by unfold maxLen; omega, rfl, rfl⟩⟩
/-- The quotient's digits: those below j are still 0, digit j is t. -/
def qarr (n Q j t : Nat) : Array Value := arr .i64 n (fun i => if i < j then 0 else if i = j then ((t : Nat) : Int) else ((dig Q i : Nat) : Int))
def qall (n Q k : Nat) : Array Value := arr .i64 n (fun i => if i < k then 0 else ((dig Q i : Nat) : Int))
theorem qarr_zero (n Q j : Nat) : qall n Q (j + 1) = qarr n Q j 0 := arr_congr fun i _ => by
  by_cases h1 : i < j
  · simp [h1, show i < j + 1 by omega]
  · by_cases h2 : i = j
    · subst h2; simp
    · simp [h1, h2, show ¬ i < j + 1 by omega]
theorem qarr_end (n Q j : Nat) : qarr n Q j (dig Q j) = qall n Q j := arr_congr fun i _ => by
  by_cases h1 : i < j
  · simp [h1]
  · by_cases h2 : i = j
    · subst h2; simp
    · simp [h1, h2]
theorem qarr_step (n Q j t : Nat) (hj : j < n) : (qarr n Q j t).setIfInBounds j (.int .i64 ((t : Int) + 1)) = qarr n Q j (t + 1) := by
  unfold qarr
  rw [arr_set _ _ _ hj]
  refine arr_congr fun i _ => ?_
  by_cases h2 : i = j
  · subst h2; simp
  · simp [h2]
theorem qarr_get (n Q j t : Nat) (hj : j < n) : (qarr n Q j t)[j]? = some (.int .i64 (t : Int)) := by
  unfold qarr; rw [arr_get .i64 _ hj]; simp
theorem qall_full {n Q : Nat} : qall n Q 0 = dL n Q := arr_congr fun i _ => by simp
theorem qall_none {n Q : Nat} : arr .i64 n (fun _ => 0) = qall n Q n := arr_congr fun i hi => by simp [hi]

/-- What returns a quotient of n digits, and what is left. -/
def RetD (n Q R : Nat) (w : World) (e : Ending) (w' : World) : Prop := ∃ v u k, e = .returned (.tuple #[v, u]) ∧ NumS w' v n Q ∧ NumS w' u k R ∧ Below w.heap.size w w'

set_option maxHeartbeats 1000000 in
theorem rdiv_zero (v u : Value) (n m X : Nat) (w : World) (h : NumS w v n X) (g : NumS w u m 0) : Calls Tryz.prog 53 #[v, u] w (RetD n 0 0 w) := by
  obtain ⟨i0, hi, hz0, hz1, hz2⟩ := info_parts Tryz.info3
  have HB := Lib.hid g
  obtain ⟨⟨A, c, rfl, hnc, _⟩, hl, hm⟩ := h
  clear g hl
  go_enter Tryz.func53, Tryz.ntmps53
  go_upto_region 2 with (at_make; refine wpList_make_full _ rfl _ _ 52 rfl w.heap.size 3 i0 (.int .i64 0) 1 Tryz.underlying52 hi hz0 hz1 _ _ _ _ n rfl rfl rfl rfl ?b2 ?b3 ?b4 ?_)
  case b2 => rw [hz2]; omega
  case b3 => unfold maxLen; omega
  case b4 => exact Nat.le_refl _
  intro w1 hown hgrow
  have f6 := made_row hown
  have bW : Below w.heap.size w w1 := (Below.refl _ _).grown hgrow (Nat.le_refl _) (fun k hk => by cases hk)
  clear hown hgrow
  go_wp2_with fail
  have e0 := own_empty w1 (base := 0) (Nat.zero_le _)
  replace f6 := blk_alloc (o' := .cells #[] 3) f6
  replace bW : Below w.heap.size w (w1.alloc (.cells #[] 3)) := bW.alloc bW.size _
  generalize w1.alloc (.cells #[] 3) = w2 at *
  refine (zero_ref u m 0 _ (HB.out.stays bW)).mono ?_
  rintro e w3 ⟨rfl, rfl⟩
  go_wp2_with fail
  go_ret2
  exact ⟨_, _, 0, rfl, dL_num (by rw [show dL n 0 = arr .i64 n (fun _ => 0) from arr_congr fun j _ => by simp [dig]]; exact f6) (Nat.pow_pos (by decide)) (by omega), NumS.of_owns e0 (by decide) (by omega), bW⟩
end Go.Proofs.YtdpbjdecbilaeaaGreat
/- What the function Div of the document's numbers of any length does, where the divisor isn't 0: a quotient, and what is left; all older memory is as it was. -/
namespace Go.Proofs.YtdpbjdecbilaeaaGreat
open Go.RowKit SmWord
set_option maxRecDepth 100000

theorem dg_one (L n : Nat) : ∀ u ∈ dg L n, u.oneCell' = true := fun u hu => by
  obtain ⟨i, _, rfl⟩ := List.mem_map.1 hu
  rfl
theorem num_up_lt {L d R n : Nat} (h : 256 * L + d = R) (hL : L < 256 ^ n) (hd : d < 256) : R < 256 ^ (1 + n) := by
  rw [Nat.add_comm, Nat.pow_succ]; omega

set_option maxHeartbeats 4000000 in
theorem rdiv_pos (v u : Value) (n m X Y : Nat) (w : World) (h : NumS w v n X) (g : NumS w u m Y) (hY : 0 < Y) (hsm : n ≤ 400 ∧ m ≤ 400) : Calls Tryz.prog 53 #[v, u] w (RetD n (X / Y) (X % Y) w) := by
  obtain ⟨i0, hi, hz0, hz1, hz2⟩ := info_parts Tryz.info3
  have HA := Lib.hid h
  have HB := Lib.hid g
  have HY := Lib.hid g.lt
  have HP := Lib.hid hY
  have hXn := h.lt
  have HX := Lib.hid hXn
  have HQ : Hid (X / Y < 256 ^ n) := Lib.hid (Nat.lt_of_le_of_lt (Nat.div_le_self _ _) hXn)
  obtain ⟨⟨A, c, rfl, hnc, _⟩, hl, hm⟩ := h
  have hY0 : decide (Y = 0) = false := decide_eq_false (by omega)
  have hn400 : n ≤ 400 := hsm.1
  have hm400 : m ≤ 400 := hsm.2
  clear g hl hY hXn hsm hm
  go_enter Tryz.func53, Tryz.ntmps53
  go_upto_region 2 with (at_make; refine wpList_make_full _ rfl _ _ 52 rfl w.heap.size 3 i0 (.int .i64 0) 1 Tryz.underlying52 hi hz0 hz1 _ _ _ _ n rfl rfl rfl rfl ?b2 ?b3 ?b4 ?_)
  case b2 => rw [hz2]; omega
  case b3 => unfold maxLen; omega
  case b4 => exact Nat.le_refl _
  intro w1 hown hgrow
  have f6 := made_row hown
  have bW : Below w.heap.size w w1 := (Below.refl _ _).grown hgrow (Nat.le_refl _) (fun k hk => by cases hk)
  have sW : w.heap.size + 1 ≤ w1.heap.size := (Array.getElem?_eq_some_iff.1 f6).1
  clear hown hgrow
  rw [qall_none (Q := X / Y)] at f6
  go_wp2_with fail
  have e0 := own_empty w1 (base := 0) (Nat.zero_le _)
  have l7 := NumS.of_owns (X := 0) e0 (by decide) (by omega)
  clear e0
  replace f6 := blk_alloc (o' := .cells #[] 3) f6
  replace bW : Below w.heap.size w (w1.alloc (.cells #[] 3)) := bW.alloc bW.size _
  generalize w1.alloc (.cells #[] 3) = w2 at *
  generalize w1.heap.size = b7 at *
  refine (zero_ref u m Y _ (HB.out.stays bW)).mono ?_
  rintro e w3 ⟨rfl, rfl⟩
  rw [hY0]
  go_wp2_with fail
  go_loopw [7, 8, 9] (fun l i _ wr => ∃ (k nl b off cl : Nat), k ≤ n ∧ i = .int .i64 ((k : Int) - 1) ∧ l = .slice (some ⟨b, off, none⟩) nl cl ∧ nl ≤ m ∧ NumS wr (.slice (some ⟨b, off, none⟩) nl cl) nl (X / 256 ^ k % Y) ∧ wr.heap[w.heap.size]? = some (.cells (qall n (X / Y) k) 3) ∧ Below w.heap.size w wr) (fun _ i _ _ => (intOf i + 1).toNat)
  case atStart =>
    refine ⟨n, 0, b7, 0, 0, Nat.le_refl _, rfl, rfl, Nat.zero_le _, ?_, f6, bW⟩
    rw [Nat.div_eq_of_lt HX.out, Nat.zero_mod]
    exact l7
  case round =>
    clear f6 bW sW l7
    obtain ⟨k, nl, b, off, cl, hk, rfl, rfl, hnl, l7, f6, bW⟩ := hrel
    obtain ⟨wo, rfl⟩ : ∃ wo : World, wo = wr := ⟨_, rfl⟩
    cases k with
    | zero =>
      have ez : X / 256 ^ 0 % Y = X % Y := by rw [Nat.pow_zero, Nat.div_one]
      rw [ez] at l7
      rw [qall_full] at f6
      clear ez
      go_wp2_with fail
      go_ret2
      exact ⟨_, _, nl, rfl, dL_num f6 HQ.out (by omega), l7, bW⟩
    | succ j =>
      rw [show (((j + 1 : Nat) : Int) - 1) = (j : Int) by omega]
      have hj : j < n := by omega
      obtain ⟨Q1, Q2, Q3⟩ := quo_digit (X := X) (Y := Y) (j := j) HP.out
      have hd := dig_lt X j
      have hsz : w.heap.size + 1 ≤ wo.heap.size := (Array.getElem?_eq_some_iff.1 f6).1
      obtain ⟨⟨A1, c1, e1, _, hs1⟩, _, _⟩ := HA.out.stays bW
      cases e1
      obtain ⟨ba, oa, rfl, hbl, hc⟩ := hs1 (by omega)
      have k1 := hc j hj
      clear hs1 hc
      obtain ⟨⟨A2, c2, e2, hcl, hs2⟩, hLlt, _⟩ := l7
      cases e2
      rw [qarr_zero] at f6
      generalize X / 256 ^ (j + 1) % Y = L at *
      generalize hR0 : 256 * L + dig X j = R0 at *
      have HR0 := Lib.hid hR0
      have HL := Lib.hid hLlt
      have H1 := Lib.hid Q1
      have H2 := Lib.hid Q2
      have H3 := Lib.hid Q3
      have H4 := Lib.hid hs2
      have F6 := Lib.hid f6
      clear hR0 hLlt Q1 Q2 Q3 hs2 f6
      go_upto_region 9 with fail
      have hown := own_single wo (.int .i64 ((dig X j : Nat) : Int)) (base := w.heap.size + 1) hsz
      have hnews : ∀ i x, (dg L nl)[i]? = some x → (wo.alloc (.cells #[.int .i64 ((dig X j : Nat) : Int)] 3)).cell? ((⟨b, off, none⟩ : Addr).add i) = some x := fun i x hx => by
        have hin : i < nl := by
          apply Classical.byContradiction
          intro hn
          rw [List.getElem?_eq_none (by rw [dg_length]; omega)] at hx
          cases hx
        obtain ⟨b', o', e, hb', hcs⟩ := H4.out (by omega)
        cases e
        rw [dg_get hin] at hx
        cases hx
        have hadd : (⟨b, off, none⟩ : Addr).add i = ⟨b, off + i, none⟩ := by unfold Addr.add; split <;> simp_all
        rw [hadd, World.cell?_alloc_past _ _ _ hb']
        exact hcs i hin
      have HNW := Lib.hid hnews
      clear hnews
      go_upto_block 2 with (at_builtin; refine wpList_append_own _ rfl _ _ 52 rfl (w.heap.size + 1) 3 i0 (.int .i64 0) 1 8 Tryz.underlying52 hi hz0 hz1 hz2 rfl (by decide) _ _ _ rfl hown ⟨b, off, none⟩ nl cl (dg L nl) rfl ?c0 ?c1 ?c2 ?c3 ?c4 ?c5 ?_)
      case c0 => rw [dg_length, Nat.mul_one]
      case c1 => exact HNW.out
      case c2 => exact dg_one L nl
      case c3 => unfold maxLen; omega
      case c4 => omega
      case c5 => simp; omega
      intro v' w3 hown' hgrow _
      rw [show Value.int .i64 ((dig X j : Nat) : Int) :: dg L nl = [Value.int .i64 ((dig X j : Nat) : Int)] ++ dg L nl from rfl, dg_cons hd, HR0.out] at hown'
      have l7 := NumS.of_owns hown' (num_up_lt HR0.out HL.out hd) (by omega)
      have a7 : ∀ b, v'.ownBlock = some b → b ≠ w.heap.size := fun b hb => by have := (hown'.lt b hb).1; omega
      have f6 : w3.heap[w.heap.size]? = some (.cells (qarr n (X / Y) j 0) 3) := by
        rw [hgrow.block w.heap.size (by simp; omega) (fun e => by have : w.heap.size = wo.heap.size := Option.some.inj e; omega)]
        exact blk_alloc F6.out
      replace bW : Below w.heap.size w w3 := (bW.alloc (o := .cells #[.int .i64 ((dig X j : Nat) : Int)] 3) (by omega)).grown hgrow (by simp; omega) (fun g hg => by have : wo.heap.size = g := Option.some.inj hg; omega)
      clear hown hown' hgrow F6 HNW H4 HL HR0 k1 hbl
      go_wp2_with fail
      go_loopg [7] R0 (fun gk l wr => ∃ t : Nat, Hid (gk + t * Y = R0) ∧ Hid (∀ b, l.ownBlock = some b → b ≠ w.heap.size) ∧ NumS wr l (1 + nl) gk ∧ wr.heap[w.heap.size]? = some (.cells (qarr n (X / Y) j t) 3) ∧ Below w.heap.size w wr)
      case atStart => exact ⟨0, Lib.hid (by rw [Nat.zero_mul, Nat.add_zero]), Lib.hid a7, l7, f6, bW⟩
      case round =>
        clear l7 f6 bW a7
        obtain ⟨t, ht, a7, l7, f6, bW⟩ := hrel
        have ht2 : t < 256 := Nat.lt_of_mul_lt_mul_right (a := Y) (by have := ht.out; have := H3.out; omega)
        go_wp2_with fail
        refine (less_ref _ u _ m gk Y _ l7 (HB.out.stays bW)).mono ?_
        rintro e w4 ⟨rfl, rfl⟩
        by_cases hlt : gk < Y
        · rw [decide_eq_true hlt]
          have E1 : Hid (dig (X / Y) j = t ∧ X / 256 ^ j % Y = gk) := Lib.hid (by
            rw [← H1.out, ← H2.out, ← ht.out, Nat.add_mul_div_right _ _ HP.out, Nat.div_eq_of_lt hlt, Nat.zero_add, Nat.add_mul_mod_self_right, Nat.mod_eq_of_lt hlt]
            exact ⟨rfl, rfl⟩)
          have HLT := Lib.hid hlt
          clear hlt ht H1 H2 H3
          obtain ⟨⟨A3, c3, rfl, hc3, hs3⟩, hl3, _⟩ := l7
          obtain ⟨b3, o3, rfl, hb3, hcs⟩ := hs3 (by omega)
          have HCS := Lib.hid hcs
          have HL3 := Lib.hid hl3
          have F6 : Hid (wr.heap[w.heap.size]? = some (.cells (qall n (X / Y) j) 3)) := Lib.hid (by rw [← qarr_end, E1.out.1]; exact f6)
          have HEND : Hid (∀ q cq, q ≤ cq → q ≤ 1 + nl → gk < 256 ^ q → NumS wr (.slice (some ⟨b3, o3, none⟩) q cq) q (X / 256 ^ j % Y)) := Lib.hid fun q cq h1 h2 h3 => by
            rw [E1.out.2]
            exact ⟨⟨_, _, rfl, h1, fun _ => ⟨b3, o3, rfl, hb3, fun i hi => hcs i (by omega)⟩⟩, h3, by omega⟩
          clear hs3 hcs hl3 f6 a7
          obtain ⟨R, rfl⟩ : ∃ R, R = gk := ⟨_, rfl⟩
          go_wp2_with fail
          go_loopg [7] (1 + nl) (fun gk l wx => ∃ cq : Nat, l = .slice (some ⟨b3, o3, none⟩) gk cq ∧ gk ≤ cq ∧ gk ≤ 1 + nl ∧ Hid (R < 256 ^ gk) ∧ wr = wx)
          case atStart => exact ⟨c3, rfl, hc3, Nat.le_refl _, HL3, rfl⟩
          case round =>
            obtain ⟨cq, rfl, hq1, hq2, hq3, rfl⟩ := hrel
            cases gk with
            | zero =>
              go_wp2_with fail
              exact ⟨⟨j, 0, b3, o3, cq, by omega, rfl, rfl, by omega, HEND.out 0 cq hq1 hq2 hq3.out, F6.out, bW⟩, by simp only [intOf]; omega⟩
            | succ p =>
              have cp := HCS.out p (by omega)
              have dp := dig_lt R p
              by_cases hz : dig R p = 0
              · have HZ := Lib.hid (top_zero hq3.out hz)
                rw [hz] at cp
                clear hz
                go_wp2_with fail
                go_roundg p
                case measure => omega
                case rel => exact ⟨cq, rfl, by omega, by omega, HZ, rfl⟩
              · have hb1 : (((dig R p : Nat) : Int) == 0) = false := by rw [beq_eq_false_iff_ne]; omega
                have HZ := Lib.hid (top_some hz HLT.out HY.out)
                clear hz
                go_wp2_with fail
                exact ⟨⟨j, p + 1, b3, o3, cq, by omega, rfl, rfl, HZ.out, HEND.out (p + 1) cq hq1 hq2 hq3.out, F6.out, bW⟩, by simp only [intOf]; omega⟩
        · rw [decide_eq_false hlt]
          have hZ : gk - Y + Y = gk := by omega
          have HT := Lib.hid ht
          have hnew : gk - Y + (t + 1) * Y = R0 := by rw [Nat.add_mul, Nat.one_mul]; have := ht.out; omega
          have HN := Lib.hid hnew
          have HLT := Lib.hid hlt
          have HZ := Lib.hid hZ
          clear hlt ht hnew hZ
          go_wp2_with fail
          refine (minus_ref _ u _ m gk Y (gk - Y) _ l7 (HB.out.stays bW) HZ.out).mono ?_
          rintro e w5 ⟨v5, rfl, l7', a5, b1⟩
          have a7' : ∀ b, v5.ownBlock = some b → b ≠ w.heap.size := fun b hb => by have := a5 b hb; have := (Array.getElem?_eq_some_iff.1 f6).1; omega
          have A7 := Lib.hid a7'
          clear a5 a7 a7'
          replace f6 := Below.stays b1 f6
          replace bW := bW.trans (b1.mono bW.size)
          clear b1 l7
          have c6 := blk_cell f6 (qarr_get n (X / Y) j t hj)
          have z6 := blk_frozen (j := j) f6
          have F6 := Lib.hid f6
          clear f6
          go_wp2_with fail
          go_roundg (gk - Y)
          case measure => have := HLT.out; have := HP.out; omega
          case rel =>
            refine ⟨t + 1, HN, A7, l7'.apart A7.out, ?_, bW.setCell (by simp) _⟩
            rw [← qarr_step n (X / Y) j t hj]
            exact blk_set F6.out _
end Go.Proofs.YtdpbjdecbilaeaaGreat
/- What the function High of the document's numbers does, with the very slice that it returns; and what returns a quotient, whatever the divisor. -/
namespace Go.Proofs.YtdpbjdecbilaeaaGreat
open Go.RowKit SmWord
set_option maxRecDepth 100000

theorem high_num {w : World} {b off n c X : Nat} (h : NumS w (.slice (some ⟨b, off, none⟩) n c) n X) (hn : 32 < n) : NumS w (.slice (some ⟨b, off + 32, none⟩) (n - 32) (c - 32)) (n - 32) (X / M) := by
  obtain ⟨⟨A, c', e, hnc, hs⟩, hl, hm⟩ := h
  cases e
  obtain ⟨b', o', e, hb, hc⟩ := hs (by omega)
  cases e
  refine ⟨⟨_, _, rfl, by omega, fun _ => ⟨b, off + 32, rfl, hb, fun i hi => ?_⟩⟩, ?_, by omega⟩
  · have := hc (32 + i) (by omega)
    rw [← Nat.add_assoc] at this
    rw [this, M_256, dig_shift]
  · rw [M_256, Nat.div_lt_iff_lt_mul (Nat.pow_pos (by decide)), ← Nat.pow_add, show n - 32 + 32 = n by omega]
    exact hl
theorem NumS.form {w : World} {v : Value} {n X : Nat} (h : NumS w v n X) (hn : 0 < n) : ∃ b off c, v = .slice (some ⟨b, off, none⟩) n c ∧ n ≤ c := by
  obtain ⟨⟨A, c, rfl, hnc, hs⟩, _, _⟩ := h
  obtain ⟨b, off, rfl, _, _⟩ := hs hn
  exact ⟨b, off, c, rfl, hnc⟩
theorem rdiv_ref (v u : Value) (n m X Y : Nat) (w : World) (h : NumS w v n X) (g : NumS w u m Y) (hsm : n ≤ 400 ∧ m ≤ 400) : Calls Tryz.prog 53 #[v, u] w (RetD n (X / Y) (rs X Y) w) := by
  rcases Nat.eq_zero_or_pos Y with h0 | h0
  · subst h0
    rw [Nat.div_zero, rs_zero]
    exact rdiv_zero v u n m X w h g
  · rw [rs_pos (by omega)]
    exact rdiv_pos v u n m X Y w h g h0 hsm
theorem zero_below (v : Value) (n X : Nat) (w : World) (h : NumS w v n X) : Calls Tryz.prog 85 #[v] w fun e w' => e = .returned (.bool (decide (X = 0))) ∧ Below w.heap.size w w' :=
  (zero_ref v n X w h).mono fun _ _ ⟨h1, h2⟩ => ⟨h1, h2 ▸ Below.refl _ _⟩
end Go.Proofs.YtdpbjdecbilaeaaGreat
