/- What the functions Div, left, AddMod, MulMod and Product of package wide do, in numbers; all older memory is as it was. -/
import Derived.Test.YtapkadmpfoeljaaDivN
import Derived.Deep.DeepCutAuto
namespace Go.Proofs.Ytapkadmpfoeljaa
open Go.RowKit SmWord
set_option maxRecDepth 100000

theorem setRow_alloc {w : World} {g : Nat} (h : g < w.heap.size) (c : Array Value) (o : Obj) : (w.alloc o).setRow g c = (w.setRow g c).alloc o := by
  unfold World.setRow World.alloc
  simp only [World.mk.injEq, and_true]
  apply Array.ext_getElem?
  intro i
  simp only [Array.getElem?_modify, Array.getElem?_push, Array.size_modify]
  by_cases hi : i = w.heap.size
  · subst hi
    rw [if_neg (by omega), if_pos rfl, if_pos rfl]
  · by_cases hg : g = i
    · subst hg
      simp [hi]
    · simp [hi, hg]
/-- Two new variables, filled one behind the other. -/
theorem store_pair1 (w : World) (a : Nat) : (storeCells ⟨w.heap.size, 0, none⟩ (wa a).toList 0).run Try.prog ((w.alloc (.cells (wa 0) 24)).alloc (.cells (wa 0) 24)) = .ok () ((w.alloc (.cells (wa a) 24)).alloc (.cells (wa 0) 24)) := by
  rw [store_old (n := 0) (blk_alloc (blk_new _ rfl)), setRow_alloc (by simp), World.setRow_alloc_new]
theorem store_pair2 (w : World) (a b : Nat) : (storeCells ⟨w.heap.size + 1, 0, none⟩ (wa b).toList 0).run Try.prog ((w.alloc (.cells (wa a) 24)).alloc (.cells (wa 0) 24)) = .ok () ((w.alloc (.cells (wa a) 24)).alloc (.cells (wa b) 24)) := by
  have := store_new0 (w.alloc (.cells (wa a) 24)) b
  rw [World.size_alloc] at this
  exact this

set_option maxHeartbeats 1000000 in
theorem div_walk (a b q r : Nat) (w : World) (H : Hid (∀ w : World, Calls Try.prog 27 #[wd 0, wd a, wd b] w fun e w' => e = .returned (.tuple #[wd q, wd r]) ∧ Below w.heap.size w w')) :
    Calls Try.prog 9 #[wd a, wd b] w fun e w' => e = .returned (.tuple #[wd q, wd r]) ∧ Below w.heap.size w w' := by
  have hz := z4_wa
  have hsz := wa_size
  go_enter Try.func9, Try.ntmps9
  go_upto_region 1 with fail
  have f2 : ((((w.alloc (.cells (wa a) 24)).alloc (.cells (wa b) 24)).alloc (.cells (wa 0) 24)).alloc (.cells (wa 0) 24)).heap[w.heap.size]? = some (.cells (wa a) 24) := blk_alloc (blk_alloc (blk_alloc (blk_new _ rfl)))
  have f3 : ((((w.alloc (.cells (wa a) 24)).alloc (.cells (wa b) 24)).alloc (.cells (wa 0) 24)).alloc (.cells (wa 0) 24)).heap[w.heap.size + 1]? = some (.cells (wa b) 24) := blk_alloc (blk_alloc (blk_new _ (by simp)))
  have f4 : ((((w.alloc (.cells (wa a) 24)).alloc (.cells (wa b) 24)).alloc (.cells (wa 0) 24)).alloc (.cells (wa 0) 24)).heap[w.heap.size + 1 + 1]? = some (.cells (wa 0) 24) := blk_alloc (blk_new _ (by simp))
  have f5 : ((((w.alloc (.cells (wa a) 24)).alloc (.cells (wa b) 24)).alloc (.cells (wa 0) 24)).alloc (.cells (wa 0) 24)).heap[w.heap.size + 1 + 1 + 1]? = some (.cells (wa 0) 24) := blk_new _ (by simp)
  have bW : Below w.heap.size w ((((w.alloc (.cells (wa a) 24)).alloc (.cells (wa b) 24)).alloc (.cells (wa 0) 24)).alloc (.cells (wa 0) 24)) := (((((Below.refl _ _).alloc (Nat.le_refl _) _).alloc (by simp <;> omega) _).alloc (by simp <;> omega) _).alloc (by simp <;> omega) _)
  have sW : w.heap.size + 4 ≤ ((((w.alloc (.cells (wa a) 24)).alloc (.cells (wa b) 24)).alloc (.cells (wa 0) 24)).alloc (.cells (wa 0) 24)).heap.size := by simp
  generalize ((((w.alloc (.cells (wa a) 24)).alloc (.cells (wa b) 24)).alloc (.cells (wa 0) 24)).alloc (.cells (wa 0) 24)) = W at *
  go_wp2_with (refine wpList_load_row rfl 24 _ rfl _ rfl 24 _ (0, 0) _ (by assumption) Try.underlying24 rfl Try.infoWa ?_)
  refine (H.out _).mono ?_
  rintro e w1 ⟨rfl, b1⟩
  replace f2 := Below.stays b1 f2
  replace f3 := Below.stays b1 f3
  replace f4 := Below.stays b1 f4
  replace f5 := Below.stays b1 f5
  replace bW := bW.trans (b1.mono bW.size)
  replace sW := Nat.le_trans sW b1.size
  clear b1
  go_wp2_with (first | (refine wpList_store_row rfl 24 (.tmp 4) _ rfl _ _ (wa q) rfl rfl f4 Try.infoWa rfl wa_one ?_) | (refine wpList_store_row rfl 24 (.tmp 5) _ rfl _ _ (wa r) rfl rfl (blk_row_other f5 (by omega)) Try.infoWa rfl wa_one ?_))
  have e4 := word_cells (blk_row_other (b := w.heap.size + 1 + 1 + 1) (c' := wa r) (blk_row (c' := wa q) f4) (by omega))
  have e5 := word_cells (blk_row (c' := wa r) (blk_row_other (b := w.heap.size + 1 + 1) (c' := wa q) f5 (by omega)))
  exact bodyPost_ret (v := .tuple #[wd q, wd r]) (by simp [results, Try.results9, go_sem, e4, e5, fold_wa]) rfl ⟨rfl, below_setRow (below_setRow bW (by omega) _) (by omega) _⟩
theorem div_wd (a b : Nat) (w : World) : Calls Try.prog 9 #[wd a, wd b] w fun e w' => e = .returned (.tuple #[wd (a % M / (b % M)), wd (rs (a % M) (b % M))]) ∧ Below w.heap.size w w' :=
  div_walk a b _ _ w (Lib.hid fun w => by
    have := divide_wd 0 a b (by rw [Nat.zero_mod]; omega) w
    rw [Nat.zero_mod, Nat.zero_mul, Nat.zero_add] at this
    exact this)

set_option maxHeartbeats 1000000 in
theorem left_walk (h l m q1 r1 q2 r2 : Nat) (w : World) (H1 : Hid (∀ w : World, Calls Try.prog 27 #[wd 0, wd h, wd m] w fun e w' => e = .returned (.tuple #[wd q1, wd r1]) ∧ Below w.heap.size w w')) (H2 : Hid (∀ w : World, Calls Try.prog 27 #[wd r1, wd l, wd m] w fun e w' => e = .returned (.tuple #[wd q2, wd r2]) ∧ Below w.heap.size w w')) :
    Calls Try.prog 34 #[wd h, wd l, wd m] w fun e w' => e = .returned (wd r2) ∧ Below w.heap.size w w' := by
  have hz := z4_wa
  have hsz := wa_size
  have hp1 := store_pair1
  have hp2 := store_pair2
  go_enter Try.func34, Try.ntmps34
  go_upto_region 1 with fail
  have f3 : ((((w.alloc (.cells (wa h) 24)).alloc (.cells (wa l) 24)).alloc (.cells (wa m) 24)).alloc (.cells (wa 0) 24)).heap[w.heap.size]? = some (.cells (wa h) 24) := blk_alloc (blk_alloc (blk_alloc (blk_new _ rfl)))
  have f4 : ((((w.alloc (.cells (wa h) 24)).alloc (.cells (wa l) 24)).alloc (.cells (wa m) 24)).alloc (.cells (wa 0) 24)).heap[w.heap.size + 1]? = some (.cells (wa l) 24) := blk_alloc (blk_alloc (blk_new _ (by simp)))
  have f5 : ((((w.alloc (.cells (wa h) 24)).alloc (.cells (wa l) 24)).alloc (.cells (wa m) 24)).alloc (.cells (wa 0) 24)).heap[w.heap.size + 1 + 1]? = some (.cells (wa m) 24) := blk_alloc (blk_new _ (by simp))
  have f6 : ((((w.alloc (.cells (wa h) 24)).alloc (.cells (wa l) 24)).alloc (.cells (wa m) 24)).alloc (.cells (wa 0) 24)).heap[w.heap.size + 1 + 1 + 1]? = some (.cells (wa 0) 24) := blk_new _ (by simp)
  have bW : Below w.heap.size w ((((w.alloc (.cells (wa h) 24)).alloc (.cells (wa l) 24)).alloc (.cells (wa m) 24)).alloc (.cells (wa 0) 24)) := (((((Below.refl _ _).alloc (Nat.le_refl _) _).alloc (by simp <;> omega) _).alloc (by simp <;> omega) _).alloc (by simp <;> omega) _)
  have sW : w.heap.size + 4 ≤ ((((w.alloc (.cells (wa h) 24)).alloc (.cells (wa l) 24)).alloc (.cells (wa m) 24)).alloc (.cells (wa 0) 24)).heap.size := by simp
  generalize ((((w.alloc (.cells (wa h) 24)).alloc (.cells (wa l) 24)).alloc (.cells (wa m) 24)).alloc (.cells (wa 0) 24)) = W at *
  go_wp2_with (refine wpList_load_row rfl 24 _ rfl _ rfl 24 _ (0, 0) _ (by assumption) Try.underlying24 rfl Try.infoWa ?_)
  refine (H1.out _).mono ?_
  rintro e w1 ⟨rfl, b1⟩
  replace f3 := Below.stays b1 f3
  replace f4 := Below.stays b1 f4
  replace f5 := Below.stays b1 f5
  replace f6 := Below.stays b1 f6
  replace bW := bW.trans (b1.mono bW.size)
  replace sW := Nat.le_trans sW b1.size
  clear b1
  go_upto_region 2 with (refine wpList_store_row rfl 24 (.tmp 3) _ rfl _ _ (wa r1) rfl rfl f3 Try.infoWa rfl wa_one ?_)
  simp only [Act.put]
  replace f4 := blk_row_other (b := w.heap.size) (c' := wa r1) f4 (by omega)
  replace f5 := blk_row_other (b := w.heap.size) (c' := wa r1) f5 (by omega)
  replace f6 := blk_row_other (b := w.heap.size) (c' := wa r1) f6 (by omega)
  replace f3 := blk_row (c' := wa r1) f3
  replace bW : Below w.heap.size w (w1.setRow (w.heap.size) (wa r1)) := below_setRow bW (by omega) _
  replace sW := Nat.le_trans sW (Nat.le_of_eq (setRow_size w1 (w.heap.size) (wa r1)).symm)
  generalize (w1.setRow (w.heap.size) (wa r1)) = w2 at *
  go_wp2_with (refine wpList_load_row rfl 24 _ rfl _ rfl 24 _ (0, 0) _ (by assumption) Try.underlying24 rfl Try.infoWa ?_)
  refine (H2.out _).mono ?_
  rintro e w3 ⟨rfl, b1⟩
  replace f3 := Below.stays b1 f3
  replace f4 := Below.stays b1 f4
  replace f5 := Below.stays b1 f5
  replace f6 := Below.stays b1 f6
  replace bW := bW.trans (b1.mono bW.size)
  replace sW := Nat.le_trans sW b1.size
  clear b1
  go_upto_region 3 with fail
  replace f6 : ((w3.alloc (.cells (wa q2) 24)).alloc (.cells (wa r2) 24)).heap[w.heap.size + 1 + 1 + 1]? = some (.cells (wa 0) 24) := blk_alloc (blk_alloc f6)
  have f8 : ((w3.alloc (.cells (wa q2) 24)).alloc (.cells (wa r2) 24)).heap[w3.heap.size + 1]? = some (.cells (wa r2) 24) := blk_new _ (by simp)
  replace bW : Below w.heap.size w ((w3.alloc (.cells (wa q2) 24)).alloc (.cells (wa r2) 24)) := (bW.alloc (by omega) _).alloc (by simp; omega) _
  clear f3 f4 f5 hp1 hp2
  generalize ((w3.alloc (.cells (wa q2) 24)).alloc (.cells (wa r2) 24)) = w4 at *
  generalize w3.heap.size = b7 at *
  go_wp2_with (first | (refine wpList_load_row rfl 24 _ rfl _ rfl 24 _ (0, 0) _ (by assumption) Try.underlying24 rfl Try.infoWa ?_) | (refine wpList_store_row rfl 24 (.tmp 6) _ rfl _ _ (wa r2) rfl rfl f6 Try.infoWa rfl wa_one ?_))
  have e6 := word_cells (blk_row (c' := wa r2) f6)
  exact bodyPost_ret (v := wd r2) (by simp [results, Try.results34, go_sem, e6, fold_wa]) rfl ⟨rfl, below_setRow bW (by omega) _⟩
theorem rs_lt {x m : Nat} (hm : m < M) : rs x m < M := by
  unfold rs
  split
  · decide
  · have := Nat.mod_lt x (show 0 < m by omega); omega
theorem left_wd (h l m : Nat) (w : World) : Calls Try.prog 34 #[wd h, wd l, wd m] w fun e w' => e = .returned (wd (rs (h % M * M + l % M) (m % M))) ∧ Below w.heap.size w w' := by
  have hm : m % M < M := Nat.mod_lt _ (by decide)
  have e : rs (rs (h % M) (m % M) % M * M + l % M) (m % M) = rs (h % M * M + l % M) (m % M) := by
    rw [Nat.mod_eq_of_lt (rs_lt hm)]
    unfold rs
    split
    · rfl
    · rw [← Nat.mod_add_mod, Nat.mod_mul_mod, Nat.mod_add_mod]
  rw [← e]
  refine left_walk h l m (h % M / (m % M)) _ _ _ w (Lib.hid fun w => ?_) (Lib.hid fun w => divide_wd (rs (h % M) (m % M)) l m ?_ w)
  · have := divide_wd 0 h m (by rw [Nat.zero_mod]; omega) w
    rw [Nat.zero_mod, Nat.zero_mul, Nat.zero_add] at this
    exact this
  · rw [Nat.mod_eq_of_lt (rs_lt hm)]
    by_cases h0 : m % M = 0
    · exact .inr h0
    · rw [rs_pos h0]
      exact .inl (Nat.mod_lt _ (by omega))

set_option maxHeartbeats 1000000 in
theorem mulMod_walk (a b m lo hi r : Nat) (w : World) (H1 : Hid (∀ w : World, Calls Try.prog 19 #[wd a, wd b] w fun e w' => e = .returned (.tuple #[wd lo, wd hi]) ∧ Below w.heap.size w w')) (H2 : Hid (∀ w : World, Calls Try.prog 34 #[wd hi, wd lo, wd m] w fun e w' => e = .returned (wd r) ∧ Below w.heap.size w w')) :
    Calls Try.prog 21 #[wd a, wd b, wd m] w fun e w' => e = .returned (wd r) ∧ Below w.heap.size w w' := by
  have hz := z4_wa
  have hsz := wa_size
  have hp1 := store_pair1
  have hp2 := store_pair2
  go_enter Try.func21, Try.ntmps21
  go_upto_region 1 with fail
  have f3 : ((((w.alloc (.cells (wa a) 24)).alloc (.cells (wa b) 24)).alloc (.cells (wa m) 24)).alloc (.cells (wa 0) 24)).heap[w.heap.size]? = some (.cells (wa a) 24) := blk_alloc (blk_alloc (blk_alloc (blk_new _ rfl)))
  have f4 : ((((w.alloc (.cells (wa a) 24)).alloc (.cells (wa b) 24)).alloc (.cells (wa m) 24)).alloc (.cells (wa 0) 24)).heap[w.heap.size + 1]? = some (.cells (wa b) 24) := blk_alloc (blk_alloc (blk_new _ (by simp)))
  have f5 : ((((w.alloc (.cells (wa a) 24)).alloc (.cells (wa b) 24)).alloc (.cells (wa m) 24)).alloc (.cells (wa 0) 24)).heap[w.heap.size + 1 + 1]? = some (.cells (wa m) 24) := blk_alloc (blk_new _ (by simp))
  have f6 : ((((w.alloc (.cells (wa a) 24)).alloc (.cells (wa b) 24)).alloc (.cells (wa m) 24)).alloc (.cells (wa 0) 24)).heap[w.heap.size + 1 + 1 + 1]? = some (.cells (wa 0) 24) := blk_new _ (by simp)
  have bW : Below w.heap.size w ((((w.alloc (.cells (wa a) 24)).alloc (.cells (wa b) 24)).alloc (.cells (wa m) 24)).alloc (.cells (wa 0) 24)) := (((((Below.refl _ _).alloc (Nat.le_refl _) _).alloc (by simp <;> omega) _).alloc (by simp <;> omega) _).alloc (by simp <;> omega) _)
  have sW : w.heap.size + 4 ≤ ((((w.alloc (.cells (wa a) 24)).alloc (.cells (wa b) 24)).alloc (.cells (wa m) 24)).alloc (.cells (wa 0) 24)).heap.size := by simp
  generalize ((((w.alloc (.cells (wa a) 24)).alloc (.cells (wa b) 24)).alloc (.cells (wa m) 24)).alloc (.cells (wa 0) 24)) = W at *
  go_wp2_with (refine wpList_load_row rfl 24 _ rfl _ rfl 24 _ (0, 0) _ (by assumption) Try.underlying24 rfl Try.infoWa ?_)
  refine (H1.out _).mono ?_
  rintro e w3 ⟨rfl, b1⟩
  replace f3 := Below.stays b1 f3
  replace f4 := Below.stays b1 f4
  replace f5 := Below.stays b1 f5
  replace f6 := Below.stays b1 f6
  replace bW := bW.trans (b1.mono bW.size)
  replace sW := Nat.le_trans sW b1.size
  clear b1
  go_upto_region 2 with fail
  replace f5 : ((w3.alloc (.cells (wa lo) 24)).alloc (.cells (wa hi) 24)).heap[w.heap.size + 1 + 1]? = some (.cells (wa m) 24) := blk_alloc (blk_alloc f5)
  replace f6 : ((w3.alloc (.cells (wa lo) 24)).alloc (.cells (wa hi) 24)).heap[w.heap.size + 1 + 1 + 1]? = some (.cells (wa 0) 24) := blk_alloc (blk_alloc f6)
  have f7 : ((w3.alloc (.cells (wa lo) 24)).alloc (.cells (wa hi) 24)).heap[w3.heap.size]? = some (.cells (wa lo) 24) := blk_alloc (blk_new _ rfl)
  have f8 : ((w3.alloc (.cells (wa lo) 24)).alloc (.cells (wa hi) 24)).heap[w3.heap.size + 1]? = some (.cells (wa hi) 24) := blk_new _ (by simp)
  replace bW : Below w.heap.size w ((w3.alloc (.cells (wa lo) 24)).alloc (.cells (wa hi) 24)) := (bW.alloc (by omega) _).alloc (by simp; omega) _
  clear f3 f4 hp1 hp2
  generalize ((w3.alloc (.cells (wa lo) 24)).alloc (.cells (wa hi) 24)) = w4 at *
  generalize w3.heap.size = b7 at *
  go_wp2_with (refine wpList_load_row rfl 24 _ rfl _ rfl 24 _ (0, 0) _ (by assumption) Try.underlying24 rfl Try.infoWa ?_)
  refine (H2.out _).mono ?_
  rintro e w5 ⟨rfl, b1⟩
  replace f6 := Below.stays b1 f6
  replace bW := bW.trans (b1.mono bW.size)
  go_wp2_with (refine wpList_store_row rfl 24 (.tmp 6) _ rfl _ _ (wa r) rfl rfl f6 Try.infoWa rfl wa_one ?_)
  have e6 := word_cells (blk_row (c' := wa r) f6)
  exact bodyPost_ret (v := wd r) (by simp [results, Try.results21, go_sem, e6, fold_wa]) rfl ⟨rfl, below_setRow bW (by omega) _⟩

set_option maxHeartbeats 1000000 in
theorem addMod_walk (a b m hi r : Nat) (c : Int) (w : World) (H1 : Hid (∀ w : World, Calls Try.prog 32 #[wd (a + b), wd a] w fun e w' => e = .returned (.int .i64 c) ∧ Below w.heap.size w w')) (h1 : Hid (c < 0 → hi = 1)) (h0 : Hid (0 ≤ c → hi = 0)) (H2 : Hid (∀ w : World, Calls Try.prog 34 #[wd hi, wd (a + b), wd m] w fun e w' => e = .returned (wd r) ∧ Below w.heap.size w w')) :
    Calls Try.prog 20 #[wd a, wd b, wd m] w fun e w' => e = .returned (wd r) ∧ Below w.heap.size w w' := by
  have hz := z4_wa
  have hsz := wa_size
  have hs := store_new0
  go_enter Try.func20, Try.ntmps20
  go_upto_region 1 with fail
  have f3 : ((((w.alloc (.cells (wa a) 24)).alloc (.cells (wa b) 24)).alloc (.cells (wa m) 24)).alloc (.cells (wa 0) 24)).heap[w.heap.size]? = some (.cells (wa a) 24) := blk_alloc (blk_alloc (blk_alloc (blk_new _ rfl)))
  have f4 : ((((w.alloc (.cells (wa a) 24)).alloc (.cells (wa b) 24)).alloc (.cells (wa m) 24)).alloc (.cells (wa 0) 24)).heap[w.heap.size + 1]? = some (.cells (wa b) 24) := blk_alloc (blk_alloc (blk_new _ (by simp)))
  have f5 : ((((w.alloc (.cells (wa a) 24)).alloc (.cells (wa b) 24)).alloc (.cells (wa m) 24)).alloc (.cells (wa 0) 24)).heap[w.heap.size + 1 + 1]? = some (.cells (wa m) 24) := blk_alloc (blk_new _ (by simp))
  have f6 : ((((w.alloc (.cells (wa a) 24)).alloc (.cells (wa b) 24)).alloc (.cells (wa m) 24)).alloc (.cells (wa 0) 24)).heap[w.heap.size + 1 + 1 + 1]? = some (.cells (wa 0) 24) := blk_new _ (by simp)
  have bW : Below w.heap.size w ((((w.alloc (.cells (wa a) 24)).alloc (.cells (wa b) 24)).alloc (.cells (wa m) 24)).alloc (.cells (wa 0) 24)) := (((((Below.refl _ _).alloc (Nat.le_refl _) _).alloc (by simp <;> omega) _).alloc (by simp <;> omega) _).alloc (by simp <;> omega) _)
  have sW : w.heap.size + 4 ≤ ((((w.alloc (.cells (wa a) 24)).alloc (.cells (wa b) 24)).alloc (.cells (wa m) 24)).alloc (.cells (wa 0) 24)).heap.size := by simp
  generalize ((((w.alloc (.cells (wa a) 24)).alloc (.cells (wa b) 24)).alloc (.cells (wa m) 24)).alloc (.cells (wa 0) 24)) = W at *
  go_wp2_with (refine wpList_load_row rfl 24 _ rfl _ rfl 24 _ (0, 0) _ (by assumption) Try.underlying24 rfl Try.infoWa ?_)
  refine (add_wd a b _).mono ?_
  rintro e w1 ⟨rfl, b1⟩
  replace f3 := Below.stays b1 f3
  replace f4 := Below.stays b1 f4
  replace f5 := Below.stays b1 f5
  replace f6 := Below.stays b1 f6
  replace bW := bW.trans (b1.mono bW.size)
  replace sW := Nat.le_trans sW b1.size
  clear b1
  go_upto_region 2 with fail
  replace f3 := blk_alloc (o' := .cells (wa (a + b)) 24) f3
  replace f4 := blk_alloc (o' := .cells (wa (a + b)) 24) f4
  replace f5 := blk_alloc (o' := .cells (wa (a + b)) 24) f5
  replace f6 := blk_alloc (o' := .cells (wa (a + b)) 24) f6
  have f7 : (w1.alloc (.cells (wa (a + b)) 24)).heap[w1.heap.size]? = some (.cells (wa (a + b)) 24) := heap_alloc_new _ _
  replace bW : Below w.heap.size w (w1.alloc (.cells (wa (a + b)) 24)) := bW.alloc (by omega) _
  have sb7 : w1.heap.size + 1 ≤ (w1.alloc (.cells (wa (a + b)) 24)).heap.size := by simp
  generalize (w1.alloc (.cells (wa (a + b)) 24)) = w2 at *
  generalize w1.heap.size = b7 at *
  have lb7 := sW
  replace sW := Nat.le_trans (Nat.le_succ_of_le sW) sb7
  go_upto_region 3 with fail
  have ub7 : b7 + 1 ≤ w2.heap.size := (Array.getElem?_eq_some_iff.1 f7).1
  replace f3 := blk_alloc (o' := .cells (wa 0) 24) f3
  replace f4 := blk_alloc (o' := .cells (wa 0) 24) f4
  replace f5 := blk_alloc (o' := .cells (wa 0) 24) f5
  replace f6 := blk_alloc (o' := .cells (wa 0) 24) f6
  replace f7 := blk_alloc (o' := .cells (wa 0) 24) f7
  have f8 : (w2.alloc (.cells (wa 0) 24)).heap[w2.heap.size]? = some (.cells (wa 0) 24) := heap_alloc_new _ _
  replace bW : Below w.heap.size w (w2.alloc (.cells (wa 0) 24)) := bW.alloc (by omega) _
  have sb8 : w2.heap.size + 1 ≤ (w2.alloc (.cells (wa 0) 24)).heap.size := by simp
  generalize (w2.alloc (.cells (wa 0) 24)) = w3 at *
  generalize w2.heap.size = b8 at *
  have lb8 := sW
  replace sW := Nat.le_trans (Nat.le_succ_of_le sW) sb8
  clear hz hs hsz
  go_wp2_with (refine wpList_load_row rfl 24 _ rfl _ rfl 24 _ (0, 0) _ (by assumption) Try.underlying24 rfl Try.infoWa ?_)
  refine (H1.out _).mono ?_
  rintro e w4 ⟨rfl, b1⟩
  replace f3 := Below.stays b1 f3
  replace f4 := Below.stays b1 f4
  replace f5 := Below.stays b1 f5
  replace f6 := Below.stays b1 f6
  replace f7 := Below.stays b1 f7
  replace f8 := Below.stays b1 f8
  replace bW := bW.trans (b1.mono bW.size)
  replace sW := Nat.le_trans sW b1.size
  clear b1
  go_upto_if 15 with fail
  go_cut [] (fun wx => wx.heap[w.heap.size + 1 + 1]? = some (.cells (wa m) 24) ∧ wx.heap[w.heap.size + 1 + 1 + 1]? = some (.cells (wa 0) 24) ∧ wx.heap[b7]? = some (.cells (wa (a + b)) 24) ∧ wx.heap[b8]? = some (.cells (wa hi) 24) ∧ Below w.heap.size w wx)
  case first =>
    by_cases hc : c < 0
    · obtain rfl := h1.out hc
      go_wp2_with fail
      refine (of_wd 1 _ (by decide)).mono ?_
      rintro e w5 ⟨rfl, b1⟩
      replace f5 := Below.stays b1 f5
      replace f6 := Below.stays b1 f6
      replace f7 := Below.stays b1 f7
      replace f8 := Below.stays b1 f8
      replace bW := bW.trans (b1.mono bW.size)
      go_wp2_with (refine wpList_store_row rfl 24 (.tmp 8) _ rfl _ _ (wa 1) rfl rfl f8 Try.infoWa rfl wa_one ?_)
      simp only [Act.put]
      go_wp2_with fail
      go_meet
      exact ⟨blk_row_other f5 (by omega), blk_row_other f6 (by omega), blk_row_other f7 (by omega), blk_row f8, below_setRow bW (by omega) _⟩
    · obtain rfl := h0.out (by omega)
      go_wp2_with fail
      go_meet
      exact ⟨f5, f6, f7, f8, bW⟩
  case rest =>
    obtain ⟨f5, f6, f7, f8, bW⟩ := hcut
    go_wp2_with (refine wpList_load_row rfl 24 _ rfl _ rfl 24 _ (0, 0) _ (by assumption) Try.underlying24 rfl Try.infoWa ?_)
    refine (H2.out _).mono ?_
    rintro e w5 ⟨rfl, b1⟩
    replace f6 := Below.stays b1 f6
    replace bW := bW.trans (b1.mono bW.size)
    go_wp2_with (refine wpList_store_row rfl 24 (.tmp 6) _ rfl _ _ (wa r) rfl rfl f6 Try.infoWa rfl wa_one ?_)
    have e6 := word_cells (blk_row (c' := wa r) f6)
    exact bodyPost_ret (v := wd r) (by simp [results, Try.results20, go_sem, e6, fold_wa]) rfl ⟨rfl, below_setRow bW (by omega) _⟩
end Go.Proofs.Ytapkadmpfoeljaa
