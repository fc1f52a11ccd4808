/- What the function Exp of the document's own answers of layer 2 does: a power, going round; all older memory is as it was. -/
import Derived.Test.YtapkadmpfoeljaaFixedB
import Derived.Test.YtapkadmpfoeljaaRefM
import Derived.Test.YtapkadmpfoeljaaRefW
import Derived.Test.YtapkadmpfoeljaaBit
import Derived.Deep.DeepCutAuto
namespace Go.Proofs.Ytapkadmpfoeljaa
open Go.RowKit SmWord
set_option maxRecDepth 100000

theorem run_build_one {P : Program} {o : Oper} {t : TypeId} {z : Array Value} {x : Operand} {k : IntKind} {i : Int} (ho : o.op = .build t #[(0, x)]) {n : Nat} {e : TypeId} (hu : P.underlying t = some (.array n e)) (hn : 0 < n) (he : ∀ w : World, (sizeOf e).run P w = .ok 1 w) (hz : ∀ w : World, (zeroValue t).run P w = .ok (.agg z) w) (hzn : z.size = n)
    (ρ : Operand → Value) (w : World) (hx : ρ x = .int k i) : (execOp ρ o).run P w = .ok (.value (.agg (z.setIfInBounds 0 (.int k i)))) w := by
  obtain ⟨dst, op, type, pos, after, guard⟩ := o
  simp only at ho
  subst ho
  have h0 : ¬ z = #[] := by rintro rfl; simp at hzn; omega
  simp [execOp, go_sem, hz, run_underlying hu, he, hx, h0]
theorem wpList_build_one {P : Program} {ops : Array Oper} {Q : Exit → Act → World → Prop} {a : Act} {w : World} {rest : List Oper} {o : Oper} (hg : o.guard = none) (t : TypeId) (x : Operand) (ho : o.op = .build t #[(0, x)]) {n : Nat} {e : TypeId} (hu : P.underlying t = some (.array n e)) (hn : 0 < n) (he : ∀ w : World, (sizeOf e).run P w = .ok 1 w) (z : Array Value) (hz : ∀ w : World, (zeroValue t).run P w = .ok (.agg z) w) (hzn : z.size = n) (k : IntKind) (i : Int)
    (hx : a.eval x = .int k i) (h : wpList P ops Q rest (a.put o.dst (.agg (z.setIfInBounds 0 (.int k i)))) w) : wpList P ops Q (o :: rest) a w :=
  wpList_plain hg fun _ hK => by
    unfold Oper.wp
    rw [run_build_one ho hu hn he hz hzn a.eval w hx]
    exact hK _ _ h
theorem one_da : zD.setIfInBounds 0 (Value.int .i64 1) = da 1 := by
  unfold zD da
  rw [arr_set _ _ _ (by decide)]
  refine arr_congr fun i hi => ?_
  unfold dig
  by_cases h : i = 0
  · subst h; rfl
  · rw [if_neg h, Nat.div_eq_of_lt (Nat.one_lt_pow h (by decide))]; rfl

theorem exp_sq (a j : Nat) : a ^ 2 ^ (j + 1) = a ^ 2 ^ j * a ^ 2 ^ j := by
  rw [Nat.pow_succ 2 j, Nat.mul_two, Nat.pow_add]
theorem exp_bit (a n j : Nat) : (bitN n j = 1 → a ^ (n % 2 ^ (j + 1)) = a ^ (n % 2 ^ j) * a ^ 2 ^ j) ∧ (bitN n j ≠ 1 → a ^ (n % 2 ^ (j + 1)) = a ^ (n % 2 ^ j)) := by
  have h := bitN_lt n j
  have e : n % 2 ^ (j + 1) = n % 2 ^ j + 2 ^ j * bitN n j := by unfold bitN; rw [Nat.pow_succ, Nat.mod_mul]
  refine ⟨fun h1 => ?_, fun h1 => ?_⟩
  · rw [e, h1, Nat.mul_one, Nat.pow_add]
  · rw [e, show bitN n j = 0 by omega, Nat.mul_zero, Nat.add_zero]

set_option maxHeartbeats 2000000 in
theorem rexp_walk (a n : Nat) (w : World) : Calls Try.prog 23 #[wd a, wd n] w fun e w' => e = .returned (wd (a ^ (n % M))) ∧ Below w.heap.size w w' := by
  have hz := z4_wa
  go_enter Try.func23, Try.ntmps23
  go_upto_region 1 with fail
  have f2 : (((w.alloc (.cells (wa a) 24)).alloc (.cells (wa n) 24)).alloc (.cells (wa 0) 24)).heap[w.heap.size]? = some (.cells (wa a) 24) := blk_alloc (blk_alloc (blk_new _ rfl))
  have f3 : (((w.alloc (.cells (wa a) 24)).alloc (.cells (wa n) 24)).alloc (.cells (wa 0) 24)).heap[w.heap.size + 1]? = some (.cells (wa n) 24) := blk_alloc (blk_new _ (by simp))
  have f4 : (((w.alloc (.cells (wa a) 24)).alloc (.cells (wa n) 24)).alloc (.cells (wa 0) 24)).heap[w.heap.size + 1 + 1]? = some (.cells (wa 0) 24) := blk_new _ (by simp)
  have bW : Below w.heap.size w (((w.alloc (.cells (wa a) 24)).alloc (.cells (wa n) 24)).alloc (.cells (wa 0) 24)) := ((((Below.refl _ _).alloc (Nat.le_refl _) _).alloc (by simp <;> omega) _).alloc (by simp <;> omega) _)
  have sW : w.heap.size + 3 ≤ (((w.alloc (.cells (wa a) 24)).alloc (.cells (wa n) 24)).alloc (.cells (wa 0) 24)).heap.size := by simp
  generalize (((w.alloc (.cells (wa a) 24)).alloc (.cells (wa n) 24)).alloc (.cells (wa 0) 24)) = W at *
  clear hz
  go_wp2_with (refine wpList_load_row rfl 24 _ rfl _ rfl 24 _ (0, 0) _ (by assumption) Try.underlying24 rfl Try.infoWa ?_)
  refine (of_ref n _).mono ?_
  rintro e w1 ⟨rfl, b1⟩
  replace f2 := Below.stays b1 f2
  replace f3 := Below.stays b1 f3
  replace f4 := Below.stays b1 f4
  replace bW := bW.trans (b1.mono bW.size)
  replace sW := Nat.le_trans sW b1.size
  clear b1
  go_upto_region 2 with (first | (refine wpList_alloc_row rfl 43 rfl zD zD_run ?_) | (refine wpList_store_row rfl 43 (.tmp 5) _ rfl _ zD (da (n)) rfl rfl (heap_alloc_new _ _) (infoArr _) rfl (arr_one _ _ _) ?_))
  rw [World.setRow_alloc_new]
  simp only [Act.put, List.setIfInBounds_toArray, List.set_cons_succ, List.set_cons_zero]
  replace f2 := blk_alloc (o' := .cells (da (n)) 43) f2
  replace f3 := blk_alloc (o' := .cells (da (n)) 43) f3
  replace f4 := blk_alloc (o' := .cells (da (n)) 43) f4
  have f5 : (w1.alloc (.cells (da (n)) 43)).heap[w1.heap.size]? = some (.cells (da (n)) 43) := heap_alloc_new _ _
  replace bW : Below w.heap.size w (w1.alloc (.cells (da (n)) 43)) := bW.alloc (by omega) _
  have sb5 : w1.heap.size + 1 ≤ (w1.alloc (.cells (da (n)) 43)).heap.size := by simp
  generalize (w1.alloc (.cells (da (n)) 43)) = w2 at *
  generalize w1.heap.size = b5 at *
  have lb5 := sW
  replace sW := Nat.le_trans (Nat.le_succ_of_le sW) sb5
  go_wp2_with (refine wpList_load_row rfl 24 _ rfl _ rfl 24 _ (0, 0) _ (by assumption) Try.underlying24 rfl Try.infoWa ?_)
  refine (of_ref a _).mono ?_
  rintro e w3 ⟨rfl, b1⟩
  replace f2 := Below.stays b1 f2
  replace f3 := Below.stays b1 f3
  replace f4 := Below.stays b1 f4
  replace f5 := Below.stays b1 f5
  replace bW := bW.trans (b1.mono bW.size)
  replace sW := Nat.le_trans sW b1.size
  clear b1
  go_upto_region 3 with (first | (refine wpList_alloc_row rfl 43 rfl zD zD_run ?_) | (refine wpList_store_row rfl 43 (.tmp 6) _ rfl _ zD (da (a)) rfl rfl (heap_alloc_new _ _) (infoArr _) rfl (arr_one _ _ _) ?_))
  rw [World.setRow_alloc_new]
  simp only [Act.put, List.setIfInBounds_toArray, List.set_cons_succ, List.set_cons_zero]
  have ub5b6 : b5 + 1 ≤ w3.heap.size := (Array.getElem?_eq_some_iff.1 f5).1
  replace f2 := blk_alloc (o' := .cells (da (a)) 43) f2
  replace f3 := blk_alloc (o' := .cells (da (a)) 43) f3
  replace f4 := blk_alloc (o' := .cells (da (a)) 43) f4
  replace f5 := blk_alloc (o' := .cells (da (a)) 43) f5
  have f6 : (w3.alloc (.cells (da (a)) 43)).heap[w3.heap.size]? = some (.cells (da (a)) 43) := heap_alloc_new _ _
  replace bW : Below w.heap.size w (w3.alloc (.cells (da (a)) 43)) := bW.alloc (by omega) _
  have sb6 : w3.heap.size + 1 ≤ (w3.alloc (.cells (da (a)) 43)).heap.size := by simp
  generalize (w3.alloc (.cells (da (a)) 43)) = w4 at *
  generalize w3.heap.size = b6 at *
  have lb6 := sW
  replace sW := Nat.le_trans (Nat.le_succ_of_le sW) sb6
  go_upto_region 4 with (first | (refine wpList_alloc_row rfl 43 rfl zD zD_run ?_) | (refine wpList_store_row rfl 43 (.tmp 7) _ rfl _ zD (da (1)) rfl rfl (heap_alloc_new _ _) (infoArr _) rfl (arr_one _ _ _) ?_) | (refine wpList_build_one rfl 43 _ rfl Try.underlying43 (by decide) Try.sizeOf3 zD zD_run (arr_size _ _ _) .i64 1 rfl ?_; rw [one_da]))
  rw [World.setRow_alloc_new]
  simp only [Act.put, List.setIfInBounds_toArray, List.set_cons_succ, List.set_cons_zero]
  have ub5b7 : b5 + 1 ≤ w4.heap.size := (Array.getElem?_eq_some_iff.1 f5).1
  have ub6b7 : b6 + 1 ≤ w4.heap.size := (Array.getElem?_eq_some_iff.1 f6).1
  replace f2 := blk_alloc (o' := .cells (da (1)) 43) f2
  replace f3 := blk_alloc (o' := .cells (da (1)) 43) f3
  replace f4 := blk_alloc (o' := .cells (da (1)) 43) f4
  replace f5 := blk_alloc (o' := .cells (da (1)) 43) f5
  replace f6 := blk_alloc (o' := .cells (da (1)) 43) f6
  have f7 : (w4.alloc (.cells (da (1)) 43)).heap[w4.heap.size]? = some (.cells (da (1)) 43) := heap_alloc_new _ _
  replace bW : Below w.heap.size w (w4.alloc (.cells (da (1)) 43)) := bW.alloc (by omega) _
  have sb7 : w4.heap.size + 1 ≤ (w4.alloc (.cells (da (1)) 43)).heap.size := by simp
  generalize (w4.alloc (.cells (da (1)) 43)) = w5 at *
  generalize w4.heap.size = b7 at *
  have lb7 := sW
  replace sW := Nat.le_trans (Nat.le_succ_of_le sW) sb7
  go_wp2_with fail
  go_loopw [8] (fun i wr => ∃ j : Nat, j ≤ 256 ∧ i = .int .i64 (j : Int) ∧ wr.heap[w.heap.size + 1 + 1]? = some (.cells (wa 0) 24) ∧ wr.heap[b5]? = some (.cells (da n) 43) ∧ wr.heap[b6]? = some (.cells (da (a ^ 2 ^ j)) 43) ∧ wr.heap[b7]? = some (.cells (da (a ^ (n % 2 ^ j))) 43) ∧ Below w.heap.size w wr) (fun i _ => 256 - (intOf i).toNat)
  case atStart => exact ⟨0, Nat.zero_le _, rfl, f4, f5, by rw [Nat.pow_zero, Nat.pow_one]; exact f6, by rw [Nat.pow_zero, Nat.mod_one, Nat.pow_zero]; exact f7, bW⟩
  case round =>
    clear f2 f3 f4 f5 f6 f7 bW sW
    obtain ⟨j, hj, rfl, f4, f5, f6, f7, bW⟩ := hrel
    have he1 := Lib.hid (exp_sq a j)
    have he3 : j = 256 → a ^ (n % M) = a ^ (n % 2 ^ j) := fun h => by rw [h, M_2]
    have he2 := Lib.hid (exp_bit a n j)
    generalize a ^ 2 ^ j = x at *
    generalize a ^ (n % 2 ^ j) = y at *
    by_cases hlt : j < 256
    · go_wp2_with (refine wpList_load_row rfl 43 (.tmp 5) rfl _ rfl 43 (da (n)) (0, 0) _ f5 Try.underlying43 rfl (infoArr _) ?_)
      refine (bit_mid n j _ hlt).mono ?_
      rintro e w6 ⟨rfl, b1⟩
      replace f4 := Below.stays b1 f4
      replace f5 := Below.stays b1 f5
      replace f6 := Below.stays b1 f6
      replace f7 := Below.stays b1 f7
      replace bW := bW.trans (b1.mono bW.size)
      clear b1
      go_upto_if 21 with fail
      go_cut [] (fun wx => wx.heap[w.heap.size + 1 + 1]? = some (.cells (wa 0) 24) ∧ wx.heap[b5]? = some (.cells (da n) 43) ∧ wx.heap[b6]? = some (.cells (da x) 43) ∧ wx.heap[b7]? = some (.cells (da (a ^ (n % 2 ^ (j + 1)))) 43) ∧ Below w.heap.size w wx)
      case first =>
        have hb := bitN_lt n j
        by_cases h1 : bitN n j = 1
        · have hc : (((bitN n j : Nat) : Int) == 1) = true := by rw [beq_iff_eq]; omega
          have E := Lib.hid (he2.out.1 h1)
          clear h1 he2
          go_wp2_with (first | (refine wpList_load_row rfl 43 (.tmp 7) rfl _ rfl 43 (da (y)) (0, 0) _ f7 Try.underlying43 rfl (infoArr _) ?_) | (refine wpList_load_row rfl 43 (.tmp 6) rfl _ rfl 43 (da (x)) (0, 0) _ f6 Try.underlying43 rfl (infoArr _) ?_))
          refine (mul_ref y x _).mono ?_
          rintro e w7 ⟨rfl, b1⟩
          replace f4 := Below.stays b1 f4
          replace f5 := Below.stays b1 f5
          replace f6 := Below.stays b1 f6
          replace f7 := Below.stays b1 f7
          replace bW := bW.trans (b1.mono bW.size)
          clear b1
          go_wp2_with (refine wpList_store_row rfl 43 (.tmp 7) _ rfl _ _ (da (y * x)) rfl rfl f7 (infoArr _) rfl (arr_one _ _ _) ?_)
          simp only [Act.put]
          go_wp2_with fail
          go_meet
          refine ⟨blk_row_other f4 (by omega), blk_row_other f5 (by omega), blk_row_other f6 (by omega), ?_, below_setRow bW (by omega) _⟩
          rw [E.out]
          exact blk_row f7
        · have hc : (((bitN n j : Nat) : Int) == 1) = false := by rw [beq_eq_false_iff_ne]; omega
          have E := Lib.hid (he2.out.2 h1)
          clear h1 he2
          go_wp2_with fail
          go_meet
          refine ⟨f4, f5, f6, ?_, bW⟩
          rw [E.out]
          exact f7
      case rest =>
        clear f4 f5 f6 f7 bW he2
        obtain ⟨f4, f5, f6, f7, bW⟩ := hcut
        go_wp2_with (refine wpList_load_row rfl 43 (.tmp 6) rfl _ rfl 43 (da (x)) (0, 0) _ f6 Try.underlying43 rfl (infoArr _) ?_)
        refine (mul_ref x x _).mono ?_
        rintro e w7 ⟨rfl, b1⟩
        replace f4 := Below.stays b1 f4
        replace f5 := Below.stays b1 f5
        replace f6 := Below.stays b1 f6
        replace f7 := Below.stays b1 f7
        replace bW := bW.trans (b1.mono bW.size)
        clear b1
        go_wp2_with (refine wpList_store_row rfl 43 (.tmp 6) _ rfl _ _ (da (x * x)) rfl rfl f6 (infoArr _) rfl (arr_one _ _ _) ?_)
        refine ⟨⟨j + 1, by omega, by go_num, blk_row_other f4 (by omega), blk_row_other f5 (by omega), ?_, blk_row_other f7 (by omega), below_setRow bW (by omega) _⟩, by simp only [intOf]; omega⟩
        rw [he1.out]
        exact blk_row f6
    · obtain rfl : j = 256 := by omega
      have E := Lib.hid (he3 rfl)
      clear he3
      go_wp2_with (refine wpList_load_row rfl 43 (.tmp 7) rfl _ rfl 43 (da (y)) (0, 0) _ f7 Try.underlying43 rfl (infoArr _) ?_)
      refine (word_ref y _).mono ?_
      rintro e w7 ⟨rfl, b1⟩
      replace f4 := Below.stays b1 f4
      replace f5 := Below.stays b1 f5
      replace f6 := Below.stays b1 f6
      replace f7 := Below.stays b1 f7
      replace bW := bW.trans (b1.mono bW.size)
      clear b1
      go_wp2_with (refine wpList_store_row rfl 24 (.tmp 4) _ rfl _ _ (wa y) rfl rfl f4 Try.infoWa rfl wa_one ?_)
      have e4 := word_cells (blk_row (c' := wa y) f4)
      exact bodyPost_ret (v := wd y) (by simp [results, Try.results23, go_sem, e4, fold_wa]) rfl ⟨by rw [E.out], below_setRow bW (by omega) _⟩
end Go.Proofs.Ytapkadmpfoeljaa
