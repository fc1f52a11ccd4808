/- What the functions Product and Exp of package wide do; all older memory is as it was. -/
import Derived.Test.YtapkadmpfoeljaaWideA
namespace Go.Proofs.Ytapkadmpfoeljaa
open Go.RowKit SmWord
set_option maxRecDepth 100000

theorem index_4 (x0 x1 x2 x3 : Value) (w : World) :
    (Instr.index 24 (.agg #[x0, x1, x2, x3]) (.int .i64 0)).run Try.prog w = .ok x0 w ∧ (Instr.index 24 (.agg #[x0, x1, x2, x3]) (.int .i64 1)).run Try.prog w = .ok x1 w ∧
    (Instr.index 24 (.agg #[x0, x1, x2, x3]) (.int .i64 2)).run Try.prog w = .ok x2 w ∧ (Instr.index 24 (.agg #[x0, x1, x2, x3]) (.int .i64 3)).run Try.prog w = .ok x3 w :=
  ⟨by kernel_rfl, by kernel_rfl, by kernel_rfl, by kernel_rfl⟩
theorem index_wa (b k : Nat) (hk : k < 4) (w : World) : (Instr.index 24 (.agg (wa b)) (.int .i64 (k : Int))).run Try.prog w = .ok (.int .u64 ((lb b k : Nat) : Int)) w := by
  have e := wa_lb b k hk
  have h := index_4 (.int .u64 ((l0 b : Nat) : Int)) (.int .u64 ((l1 b : Nat) : Int)) (.int .u64 ((l2 b : Nat) : Int)) (.int .u64 ((l3 b : Nat) : Int)) w
  have : k = 0 ∨ k = 1 ∨ k = 2 ∨ k = 3 := by omega
  rcases this with rfl | rfl | rfl | rfl
  · rw [← Option.some.inj e]; exact h.1
  · rw [← Option.some.inj e]; exact h.2.1
  · rw [← Option.some.inj e]; exact h.2.2.1
  · rw [← Option.some.inj e]; exact h.2.2.2

set_option maxHeartbeats 4000000 in
theorem product_walk (a b : Nat) (lo hi sk tk : Nat → Nat) (w : World) (h0 : Hid (lo 0 = 0)) (g0 : Hid (hi 0 = 0))
    (Ha : Hid (∀ k, k < 4 → ∀ w : World, Calls Try.prog 30 #[wd (hi k), wd a, .int .u64 ((lb b k : Nat) : Int)] w fun e w' => e = .returned (.tuple #[wd (sk k), .int .u64 ((tk k : Nat) : Int)]) ∧ Below w.heap.size w w'))
    (Hlo : Hid (∀ k, k < 4 → (wa (lo k)).setIfInBounds k (.int .u64 ((l0 (sk k) : Nat) : Int)) = wa (lo (k + 1))))
    (Hhi : Hid (∀ k, k < 4 → ((((wa 0).setIfInBounds 0 (Value.int .u64 ((l1 (sk k) : Nat) : Int))).setIfInBounds 1 (.int .u64 ((l2 (sk k) : Nat) : Int))).setIfInBounds 2 (.int .u64 ((l3 (sk k) : Nat) : Int))).setIfInBounds 3 (.int .u64 ((tk k : Nat) : Int)) = wa (hi (k + 1)))) :
    Calls Try.prog 19 #[wd a, wd b] w fun e w' => e = .returned (.tuple #[wd (lo 4), wd (hi 4)]) ∧ Below w.heap.size w w' := by
  have hz := z4_wa
  have hsz := wa_size
  go_enter Try.func19, Try.ntmps19
  go_upto_region 2 with fail
  have f2 : ((((((w.alloc (.cells (wa a) 24)).alloc (.cells (wa b) 24)).alloc (.cells (wa 0) 24)).alloc (.cells (wa 0) 24)).alloc (.cells (wa 0) 24)).alloc (.cells (wa 0) 24)).heap[w.heap.size]? = some (.cells (wa a) 24) := blk_alloc (blk_alloc (blk_alloc (blk_alloc (blk_alloc (blk_new _ rfl)))))
  have f3 : ((((((w.alloc (.cells (wa a) 24)).alloc (.cells (wa b) 24)).alloc (.cells (wa 0) 24)).alloc (.cells (wa 0) 24)).alloc (.cells (wa 0) 24)).alloc (.cells (wa 0) 24)).heap[w.heap.size + 1]? = some (.cells (wa b) 24) := blk_alloc (blk_alloc (blk_alloc (blk_alloc (blk_new _ (by simp)))))
  have f4 : ((((((w.alloc (.cells (wa a) 24)).alloc (.cells (wa b) 24)).alloc (.cells (wa 0) 24)).alloc (.cells (wa 0) 24)).alloc (.cells (wa 0) 24)).alloc (.cells (wa 0) 24)).heap[w.heap.size + 1 + 1]? = some (.cells (wa 0) 24) := blk_alloc (blk_alloc (blk_alloc (blk_new _ (by simp))))
  have f5 : ((((((w.alloc (.cells (wa a) 24)).alloc (.cells (wa b) 24)).alloc (.cells (wa 0) 24)).alloc (.cells (wa 0) 24)).alloc (.cells (wa 0) 24)).alloc (.cells (wa 0) 24)).heap[w.heap.size + 1 + 1 + 1]? = some (.cells (wa 0) 24) := blk_alloc (blk_alloc (blk_new _ (by simp)))
  have f6 : ((((((w.alloc (.cells (wa a) 24)).alloc (.cells (wa b) 24)).alloc (.cells (wa 0) 24)).alloc (.cells (wa 0) 24)).alloc (.cells (wa 0) 24)).alloc (.cells (wa 0) 24)).heap[w.heap.size + 1 + 1 + 1 + 1]? = some (.cells (wa 0) 24) := blk_alloc (blk_new _ (by simp))
  have f7 : ((((((w.alloc (.cells (wa a) 24)).alloc (.cells (wa b) 24)).alloc (.cells (wa 0) 24)).alloc (.cells (wa 0) 24)).alloc (.cells (wa 0) 24)).alloc (.cells (wa 0) 24)).heap[w.heap.size + 1 + 1 + 1 + 1 + 1]? = some (.cells (wa 0) 24) := blk_new _ (by simp)
  have bW : Below w.heap.size w ((((((w.alloc (.cells (wa a) 24)).alloc (.cells (wa b) 24)).alloc (.cells (wa 0) 24)).alloc (.cells (wa 0) 24)).alloc (.cells (wa 0) 24)).alloc (.cells (wa 0) 24)) := (((((((Below.refl _ _).alloc (Nat.le_refl _) _).alloc (by simp <;> omega) _).alloc (by simp <;> omega) _).alloc (by simp <;> omega) _).alloc (by simp <;> omega) _).alloc (by simp <;> omega) _)
  have sW : w.heap.size + 6 ≤ ((((((w.alloc (.cells (wa a) 24)).alloc (.cells (wa b) 24)).alloc (.cells (wa 0) 24)).alloc (.cells (wa 0) 24)).alloc (.cells (wa 0) 24)).alloc (.cells (wa 0) 24)).heap.size := by simp
  generalize ((((((w.alloc (.cells (wa a) 24)).alloc (.cells (wa b) 24)).alloc (.cells (wa 0) 24)).alloc (.cells (wa 0) 24)).alloc (.cells (wa 0) 24)).alloc (.cells (wa 0) 24)) = W at *
  go_wp2_with (refine wpList_load_row rfl 24 _ rfl _ rfl 24 _ (0, 0) _ (by assumption) Try.underlying24 rfl Try.infoWa ?_)
  go_loopw [12] (fun i wr => ∃ k : Nat, k ≤ 4 ∧ i = .int .i64 (k : Int) ∧ wr.heap[w.heap.size]? = some (.cells (wa a) 24) ∧ wr.heap[w.heap.size + 1 + 1]? = some (.cells (wa 0) 24) ∧ wr.heap[w.heap.size + 1 + 1 + 1]? = some (.cells (wa 0) 24) ∧ wr.heap[w.heap.size + 1 + 1 + 1 + 1]? = some (.cells (wa (lo k)) 24) ∧ wr.heap[w.heap.size + 1 + 1 + 1 + 1 + 1]? = some (.cells (wa (hi k)) 24) ∧ Below w.heap.size w wr) (fun i _ => 4 - (intOf i).toNat)
  case atStart => exact ⟨0, Nat.zero_le _, rfl, f2, f4, f5, by rw [h0.out]; exact f6, by rw [g0.out]; exact f7, bW⟩
  case round =>
    clear f2 f3 f4 f5 f6 f7 bW sW
    obtain ⟨k, hk, rfl, f2, f4, f5, f6, f7, bW⟩ := hrel
    by_cases hlt : k < 4
    · have hi0 := fun w => index_wa b k hlt w
      go_wp2_with (refine wpList_load_row rfl 24 _ rfl _ rfl 24 _ (0, 0) _ (by assumption) Try.underlying24 rfl Try.infoWa ?_)
      clear hi0
      refine (Ha.out k hlt _).mono ?_
      rintro e w1 ⟨rfl, b1⟩
      replace f2 := Below.stays b1 f2
      replace f4 := Below.stays b1 f4
      replace f5 := Below.stays b1 f5
      replace f6 := Below.stays b1 f6
      replace f7 := Below.stays b1 f7
      replace bW := bW.trans (b1.mono bW.size)
      clear b1
      go_upto_region 7 with (refine wpList_store_row rfl 24 (.tmp 7) _ rfl _ _ (wa (sk k)) rfl rfl f7 Try.infoWa rfl wa_one ?_)
      replace f2 := blk_row_other (b := w.heap.size + 1 + 1 + 1 + 1 + 1) (c' := wa (sk k)) f2 (by omega)
      replace f4 := blk_row_other (b := w.heap.size + 1 + 1 + 1 + 1 + 1) (c' := wa (sk k)) f4 (by omega)
      replace f5 := blk_row_other (b := w.heap.size + 1 + 1 + 1 + 1 + 1) (c' := wa (sk k)) f5 (by omega)
      replace f6 := blk_row_other (b := w.heap.size + 1 + 1 + 1 + 1 + 1) (c' := wa (sk k)) f6 (by omega)
      replace f7 := blk_row (c' := wa (sk k)) f7
      replace bW : Below w.heap.size w (w1.setRow (w.heap.size + 1 + 1 + 1 + 1 + 1) (wa (sk k))) := below_setRow bW (by omega) _
      generalize w1.setRow (w.heap.size + 1 + 1 + 1 + 1 + 1) (wa (sk k)) = w2 at *
      have c7 := word_cells f7
      have c6 := blk_cell f6 (wa_lb (lo k) k hlt)
      have d6 := blk_frozen (j := k) f6
      go_upto_region 8 with fail
      replace f2 := blk_other (b := w.heap.size + 1 + 1 + 1 + 1) (j := k) f2 (by omega) (.int .u64 ((l0 (sk k) : Nat) : Int))
      replace f4 := blk_other (b := w.heap.size + 1 + 1 + 1 + 1) (j := k) f4 (by omega) (.int .u64 ((l0 (sk k) : Nat) : Int))
      replace f5 := blk_other (b := w.heap.size + 1 + 1 + 1 + 1) (j := k) f5 (by omega) (.int .u64 ((l0 (sk k) : Nat) : Int))
      replace f7 := blk_other (b := w.heap.size + 1 + 1 + 1 + 1) (j := k) f7 (by omega) (.int .u64 ((l0 (sk k) : Nat) : Int))
      replace f6 := blk_set (j := k) f6 (.int .u64 ((l0 (sk k) : Nat) : Int))
      replace bW : Below w.heap.size w (w2.setCell ⟨w.heap.size + 1 + 1 + 1 + 1, k, none⟩ (.int .u64 ((l0 (sk k) : Nat) : Int))) := bW.setCell (by show _ ≤ w.heap.size + 1 + 1 + 1 + 1; omega) _
      rw [Hlo.out k hlt] at f6
      clear c7 c6 d6
      generalize w2.setCell ⟨w.heap.size + 1 + 1 + 1 + 1, k, none⟩ (.int .u64 ((l0 (sk k) : Nat) : Int)) = w3 at *
      have c7 := word_cells f7
      have fo := Hhi.out k hlt
      go_wp2_with (refine wpList_store_row rfl 24 (.tmp 7) _ rfl _ _ (wa (hi (k + 1))) rfl rfl f7 Try.infoWa rfl wa_one ?_)
      exact ⟨⟨k + 1, by omega, by go_num, blk_row_other f2 (by omega), blk_row_other f4 (by omega), blk_row_other f5 (by omega), blk_row_other f6 (by omega), blk_row f7, below_setRow bW (by omega) _⟩, by simp only [intOf]; omega⟩
    · obtain rfl : k = 4 := by omega
      clear hz
      have d6 := word_cells f6
      have d7 := word_cells f7
      have d7' := word_cells (blk_row_other (w := wr.drew) (b := w.heap.size + 1 + 1) (c' := wa (lo 4)) f7 (by omega))
      have fo := fold_wa
      have k1 := store_old (w := wr.drew) (m := lo 4) f4
      have k2 := store_old (w := wr.drew.setRow (w.heap.size + 1 + 1) (wa (lo 4))) (m := hi 4) (blk_row_other (w := wr.drew) (b := w.heap.size + 1 + 1) (c' := wa (lo 4)) f5 (by omega))
      go_wp2_with fail
      go_region
      all_goals
        have e4 := word_cells (blk_row_other (b := w.heap.size + 1 + 1 + 1) (c' := wa (hi 4)) (blk_row (w := wr.drew) (c' := wa (lo 4)) f4) (by omega))
        have e5 := word_cells (blk_row (c' := wa (hi 4)) (blk_row_other (w := wr.drew) (b := w.heap.size + 1 + 1) (c' := wa (lo 4)) f5 (by omega)))
        clear k1 k2 d6 d7 d7'
        go_wp2_with fail
        exact bodyPost_ret (v := .tuple #[wd (lo 4), wd (hi 4)]) (by simp [results, Try.results19, go_sem, e4, e5, fo]) rfl ⟨rfl, below_setRow (below_setRow bW.drew (by omega) _) (by omega) _⟩

set_option maxHeartbeats 4000000 in
theorem exp_walk (a n L : Nat) (pw : Nat → Nat) (w : World) (_hL : L ≤ 256) (h0 : Hid (pw L = 1))
    (Hl : Hid (∀ w : World, Calls Try.prog 35 #[wd n] w fun e w' => e = .returned (.int .i64 (L : Int)) ∧ Below w.heap.size w w'))
    (Hbit : Hid (∀ j, j < L → ∃ p : Bool, (∀ w : World, Calls Try.prog 37 #[wd n, .int .u64 (j : Int)] w fun e w' => e = .returned (.bool p) ∧ Below w.heap.size w w') ∧ (p = true → pw j % M = (pw (j + 1) * pw (j + 1) * a) % M) ∧ (p = false → pw j % M = (pw (j + 1) * pw (j + 1)) % M))) :
    Calls Try.prog 22 #[wd a, wd n] w fun e w' => e = .returned (wd (pw 0)) ∧ Below w.heap.size w w' := by
  have hz := z4_wa
  have hs := store_new0
  have hsz := wa_size
  go_enter Try.func22, Try.ntmps22
  go_upto_region 1 with fail
  have f2 : (((w.alloc (.cells (wa a) 24)).alloc (.cells (wa n) 24)).alloc (.cells (wa 0) 24)).heap[w.heap.size]? = some (.cells (wa a) 24) := blk_alloc (blk_alloc (blk_new _ rfl))
  have f3 : (((w.alloc (.cells (wa a) 24)).alloc (.cells (wa n) 24)).alloc (.cells (wa 0) 24)).heap[w.heap.size + 1]? = some (.cells (wa n) 24) := blk_alloc (blk_new _ (by simp))
  have f4 : (((w.alloc (.cells (wa a) 24)).alloc (.cells (wa n) 24)).alloc (.cells (wa 0) 24)).heap[w.heap.size + 1 + 1]? = some (.cells (wa 0) 24) := blk_new _ (by simp)
  have bW : Below w.heap.size w (((w.alloc (.cells (wa a) 24)).alloc (.cells (wa n) 24)).alloc (.cells (wa 0) 24)) := ((((Below.refl _ _).alloc (Nat.le_refl _) _).alloc (by simp <;> omega) _).alloc (by simp <;> omega) _)
  have sW : w.heap.size + 3 ≤ (((w.alloc (.cells (wa a) 24)).alloc (.cells (wa n) 24)).alloc (.cells (wa 0) 24)).heap.size := by simp
  generalize (((w.alloc (.cells (wa a) 24)).alloc (.cells (wa n) 24)).alloc (.cells (wa 0) 24)) = W at *
  go_wp2_with fail
  refine (of_wd 1 _ (by decide)).mono ?_
  rintro e w1 ⟨rfl, b1⟩
  replace f2 := Below.stays b1 f2
  replace f3 := Below.stays b1 f3
  replace f4 := Below.stays b1 f4
  replace bW := bW.trans (b1.mono bW.size)
  replace sW := Nat.le_trans sW b1.size
  clear b1
  go_upto_region 2 with fail
  replace f2 := blk_alloc (o' := .cells (wa 1) 24) f2
  replace f3 := blk_alloc (o' := .cells (wa 1) 24) f3
  replace f4 := blk_alloc (o' := .cells (wa 1) 24) f4
  have f5 : (w1.alloc (.cells (wa 1) 24)).heap[w1.heap.size]? = some (.cells (wa 1) 24) := heap_alloc_new _ _
  replace bW : Below w.heap.size w (w1.alloc (.cells (wa 1) 24)) := bW.alloc (by omega) _
  have sb5 : w1.heap.size + 1 ≤ (w1.alloc (.cells (wa 1) 24)).heap.size := by simp
  generalize (w1.alloc (.cells (wa 1) 24)) = w2 at *
  generalize w1.heap.size = b5 at *
  have lb5 := sW
  replace sW := Nat.le_trans (Nat.le_succ_of_le sW) sb5
  clear hz hs hsz
  go_wp2_with (refine wpList_load_row rfl 24 _ rfl _ rfl 24 _ (0, 0) _ (by assumption) Try.underlying24 rfl Try.infoWa ?_)
  refine (Hl.out _).mono ?_
  rintro e w3 ⟨rfl, b1⟩
  replace f2 := Below.stays b1 f2
  replace f3 := Below.stays b1 f3
  replace f4 := Below.stays b1 f4
  replace f5 := Below.stays b1 f5
  replace bW := bW.trans (b1.mono bW.size)
  replace sW := Nat.le_trans sW b1.size
  clear b1
  go_wp2_with fail
  go_loopw [6] (fun i wr => ∃ j : Nat, j ≤ L ∧ i = .int .i64 ((j : Int) - 1) ∧ wr.heap[w.heap.size]? = some (.cells (wa a) 24) ∧ wr.heap[w.heap.size + 1]? = some (.cells (wa n) 24) ∧ wr.heap[w.heap.size + 1 + 1]? = some (.cells (wa 0) 24) ∧ wr.heap[b5]? = some (.cells (wa (pw j)) 24) ∧ Below w.heap.size w wr) (fun i _ => (intOf i + 1).toNat)
  case atStart => exact ⟨L, Nat.le_refl _, rfl, f2, f3, f4, by rw [h0.out]; exact f5, bW⟩
  case round =>
    clear f2 f3 f4 f5 bW sW
    obtain ⟨j, hj, rfl, f2, f3, f4, f5, bW⟩ := hrel
    cases j with
    | zero =>
      go_wp2_with (first | (refine wpList_load_row rfl 24 _ rfl _ rfl 24 _ (0, 0) _ (by assumption) Try.underlying24 rfl Try.infoWa ?_) | (refine wpList_store_row rfl 24 (.tmp 4) _ rfl _ _ (wa (pw 0)) rfl rfl f4 Try.infoWa rfl wa_one ?_))
      have e4 := word_cells (blk_row (c' := wa (pw 0)) f4)
      exact bodyPost_ret (v := wd (pw 0)) (by simp [results, Try.results22, go_sem, e4, fold_wa]) rfl ⟨rfl, below_setRow bW (by omega) _⟩
    | succ j =>
      rw [show (((j + 1 : Nat) : Int) - 1) = (j : Int) by omega]
      go_wp2_with (refine wpList_load_row rfl 24 _ rfl _ rfl 24 _ (0, 0) _ (by assumption) Try.underlying24 rfl Try.infoWa ?_)
      refine (mul_wd (pw (j + 1)) (pw (j + 1)) _).mono ?_
      rintro e w4 ⟨rfl, b1⟩
      replace f2 := Below.stays b1 f2
      replace f3 := Below.stays b1 f3
      replace f4 := Below.stays b1 f4
      replace f5 := Below.stays b1 f5
      replace bW := bW.trans (b1.mono bW.size)
      clear b1
      go_upto_region 6 with (refine wpList_store_row rfl 24 (.tmp 5) _ rfl _ _ (wa (pw (j + 1) * pw (j + 1))) rfl rfl f5 Try.infoWa rfl wa_one ?_)
      simp only [Act.put]
      replace f2 := blk_row_other (b := b5) (c' := wa (pw (j + 1) * pw (j + 1))) f2 (by omega)
      replace f3 := blk_row_other (b := b5) (c' := wa (pw (j + 1) * pw (j + 1))) f3 (by omega)
      replace f4 := blk_row_other (b := b5) (c' := wa (pw (j + 1) * pw (j + 1))) f4 (by omega)
      replace f5 := blk_row (c' := wa (pw (j + 1) * pw (j + 1))) f5
      replace bW : Below w.heap.size w (w4.setRow b5 (wa (pw (j + 1) * pw (j + 1)))) := below_setRow bW (by omega) _
      generalize w4.setRow b5 (wa (pw (j + 1) * pw (j + 1))) = w5 at *
      go_wp2_with (refine wpList_load_row rfl 24 _ rfl _ rfl 24 _ (0, 0) _ (by assumption) Try.underlying24 rfl Try.infoWa ?_)
      obtain ⟨p, Hb, hpt, hpf⟩ := Hbit.out j (by omega)
      have HB := Lib.hid Hb
      clear Hb
      cases p
      · have e := hpf rfl
        have HE := Lib.hid e
        clear e hpt hpf
        refine (HB.out _).mono ?_
        rintro e w6 ⟨rfl, b1⟩
        go_wp2_with fail
        exact ⟨⟨j, by omega, rfl, Below.stays b1 f2, Below.stays b1 f3, Below.stays b1 f4, by rw [wa_congr HE.out]; exact Below.stays b1 f5, bW.trans (b1.mono bW.size)⟩, by simp only [intOf]; omega⟩
      · have e := hpt rfl
        have HE := Lib.hid e
        clear e hpt hpf
        refine (HB.out _).mono ?_
        rintro e w6 ⟨rfl, b1⟩
        replace f2 := Below.stays b1 f2
        replace f3 := Below.stays b1 f3
        replace f4 := Below.stays b1 f4
        replace f5 := Below.stays b1 f5
        replace bW := bW.trans (b1.mono bW.size)
        clear b1
        go_wp2_with (refine wpList_load_row rfl 24 _ rfl _ rfl 24 _ (0, 0) _ (by assumption) Try.underlying24 rfl Try.infoWa ?_)
        refine (mul_wd (pw (j + 1) * pw (j + 1)) a _).mono ?_
        rintro e w7 ⟨rfl, b1⟩
        replace f2 := Below.stays b1 f2
        replace f3 := Below.stays b1 f3
        replace f4 := Below.stays b1 f4
        replace f5 := Below.stays b1 f5
        replace bW := bW.trans (b1.mono bW.size)
        clear b1
        go_wp2_with (refine wpList_store_row rfl 24 (.tmp 5) _ rfl _ _ (wa (pw (j + 1) * pw (j + 1) * a)) rfl rfl f5 Try.infoWa rfl wa_one ?_)
        exact ⟨⟨j, by omega, rfl, blk_row_other f2 (by omega), blk_row_other f3 (by omega), blk_row_other f4 (by omega), by rw [wa_congr HE.out]; exact blk_row f5, below_setRow bW (by omega) _⟩, by simp only [intOf]; omega⟩
end Go.Proofs.Ytapkadmpfoeljaa
