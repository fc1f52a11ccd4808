/- What the functions Div, left, AddMod, MulMod and Product of package wide do, in numbers; all older memory is as it was. -/
import Derived.Test.YtlobchkbkdjccaaDivN
import Derived.Deep.DeepCutAuto
namespace Go.Proofs.Ytlobchkbkdjccaa
open Go.RowKit SmWord
set_option maxRecDepth 100000

theorem setRow_alloc {w : World} {g : Nat} (h : g < w.heap.size) (c : Array Value) (o : Obj) : (w.alloc o).setRow g c = (w.setRow g c).alloc o := by
  unfold World.setRow World.alloc
  simp only [World.mk.injEq, and_true]
  apply Array.ext_getElem?
  intro i
  simp only [Array.getElem?_modify, Array.getElem?_push, Array.size_modify]
  by_cases hi : i = w.heap.size
  · subst hi
    rw [if_neg (by omega), if_pos rfl, if_pos rfl]
  · by_cases hg : g = i
    · subst hg
      simp [hi]
    · simp [hi, hg]
/-- Two new variables, filled one behind the other. -/
theorem store_pair1 (w : World) (a : Nat) : (storeCells ⟨w.heap.size, 0, none⟩ (wa a).toList 0).run Try.prog ((w.alloc (.cells (wa 0) 24)).alloc (.cells (wa 0) 24)) = .ok () ((w.alloc (.cells (wa a) 24)).alloc (.cells (wa 0) 24)) := by
  rw [store_old (n := 0) (blk_alloc (blk_new _ rfl)), setRow_alloc (by simp), World.setRow_alloc_new]
theorem store_pair2 (w : World) (a b : Nat) : (storeCells ⟨w.heap.size + 1, 0, none⟩ (wa b).toList 0).run Try.prog ((w.alloc (.cells (wa a) 24)).alloc (.cells (wa 0) 24)) = .ok () ((w.alloc (.cells (wa a) 24)).alloc (.cells (wa b) 24)) := by
  have := store_new0 (w.alloc (.cells (wa a) 24)) b
  rw [World.size_alloc] at this
  exact this

set_option maxHeartbeats 1000000 in
theorem div_walk (a b q r : Nat) (w : World) (H : Hid (∀ w : World, Calls Try.prog 45 #[wd 0, wd a, wd b] w fun e w' => e = .returned (.tuple #[wd q, wd r]) ∧ Below w.heap.size w w')) :
    Calls Try.prog 29 #[wd a, wd b] w fun e w' => e = .returned (.tuple #[wd q, wd r]) ∧ Below w.heap.size w w' := by
  have hz := z4_wa
  have hsz := wa_size
  go_enter Try.func29, Try.ntmps29
  go_upto_region 1 with fail
  have f2 : ((((w.alloc (.cells (wa a) 24)).alloc (.cells (wa b) 24)).alloc (.cells (wa 0) 24)).alloc (.cells (wa 0) 24)).heap[w.heap.size]? = some (.cells (wa a) 24) := blk_alloc (blk_alloc (blk_alloc (blk_new _ rfl)))
  have f3 : ((((w.alloc (.cells (wa a) 24)).alloc (.cells (wa b) 24)).alloc (.cells (wa 0) 24)).alloc (.cells (wa 0) 24)).heap[w.heap.size + 1]? = some (.cells (wa b) 24) := blk_alloc (blk_alloc (blk_new _ (by simp)))
  have f4 : ((((w.alloc (.cells (wa a) 24)).alloc (.cells (wa b) 24)).alloc (.cells (wa 0) 24)).alloc (.cells (wa 0) 24)).heap[w.heap.size + 1 + 1]? = some (.cells (wa 0) 24) := blk_alloc (blk_new _ (by simp))
  have f5 : ((((w.alloc (.cells (wa a) 24)).alloc (.cells (wa b) 24)).alloc (.cells (wa 0) 24)).alloc (.cells (wa 0) 24)).heap[w.heap.size + 1 + 1 + 1]? = some (.cells (wa 0) 24) := blk_new _ (by simp)
  have bW : Below w.heap.size w ((((w.alloc (.cells (wa a) 24)).alloc (.cells (wa b) 24)).alloc (.cells (wa 0) 24)).alloc (.cells (wa 0) 24)) := (((((Below.refl _ _).alloc (Nat.le_refl _) _).alloc (by simp <;> omega) _).alloc (by simp <;> omega) _).alloc (by simp <;> omega) _)
  have sW : w.heap.size + 4 ≤ ((((w.alloc (.cells (wa a) 24)).alloc (.cells (wa b) 24)).alloc (.cells (wa 0) 24)).alloc (.cells (wa 0) 24)).heap.size := by simp
  generalize ((((w.alloc (.cells (wa a) 24)).alloc (.cells (wa b) 24)).alloc (.cells (wa 0) 24)).alloc (.cells (wa 0) 24)) = W at *
  go_wp2_with (refine wpList_load_row rfl 24 _ rfl _ rfl 24 _ (0, 0) _ (by assumption) Try.underlying24 rfl Try.infoWa ?_)
  refine (H.out _).mono ?_
  rintro e w1 ⟨rfl, b1⟩
  replace f2 := Below.stays b1 f2
  replace f3 := Below.stays b1 f3
  replace f4 := Below.stays b1 f4
  replace f5 := Below.stays b1 f5
  replace bW := bW.trans (b1.mono bW.size)
  replace sW := Nat.le_trans sW b1.size
  clear b1
  go_wp2_with (first | (refine wpList_store_row rfl 24 (.tmp 4) _ rfl _ _ (wa q) rfl rfl f4 Try.infoWa rfl wa_one ?_) | (refine wpList_store_row rfl 24 (.tmp 5) _ rfl _ _ (wa r) rfl rfl (blk_row_other f5 (by omega)) Try.infoWa rfl wa_one ?_))
  have e4 := word_cells (blk_row_other (b := w.heap.size + 1 + 1 + 1) (c' := wa r) (blk_row (c' := wa q) f4) (by omega))
  have e5 := word_cells (blk_row (c' := wa r) (blk_row_other (b := w.heap.size + 1 + 1) (c' := wa q) f5 (by omega)))
  exact bodyPost_ret (v := .tuple #[wd q, wd r]) (by simp [results, Try.results29, go_sem, e4, e5, fold_wa]) rfl ⟨rfl, below_setRow (below_setRow bW (by omega) _) (by omega) _⟩
theorem div_wd (a b : Nat) (w : World) : Calls Try.prog 29 #[wd a, wd b] w fun e w' => e = .returned (.tuple #[wd (a % M / (b % M)), wd (rs (a % M) (b % M))]) ∧ Below w.heap.size w w' :=
  div_walk a b _ _ w (Lib.hid fun w => by
    have := divide_wd 0 a b (by rw [Nat.zero_mod]; omega) w
    rw [Nat.zero_mod, Nat.zero_mul, Nat.zero_add] at this
    exact this)

theorem rs_lt {x m : Nat} (hm : m < M) : rs x m < M := by
  unfold rs
  split
  · decide
  · have := Nat.mod_lt x (show 0 < m by omega); omega
end Go.Proofs.Ytlobchkbkdjccaa
