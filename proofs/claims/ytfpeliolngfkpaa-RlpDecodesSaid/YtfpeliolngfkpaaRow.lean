/- Arrays of integers as functions of their index, and the model's operations on whole arrays, by law. -/
import Derived.Test.YtfpeliolngfkpaaArr
import Derived.Test.YtfpeliolngfkpaaMk
import Derived.LoopN
import Derived.Lib.Hide
namespace Go.Proofs.Ytfpeliolngfkpaa
open Go.RowKit
set_option maxRecDepth 100000

/-- n integers: f 0, f 1, .. -/
def arr (k : IntKind) (n : Nat) (f : Nat → Int) : Array Value := ((List.range n).map fun i => Value.int k (f i)).toArray
theorem arr_size (k : IntKind) (n : Nat) (f : Nat → Int) : (arr k n f).size = n := by simp [arr]
theorem arr_get (k : IntKind) {n : Nat} (f : Nat → Int) {i : Nat} (h : i < n) : (arr k n f)[i]? = some (.int k (f i)) := by simp [arr, h]
theorem arr_congr {k : IntKind} {n : Nat} {f g : Nat → Int} (h : ∀ i, i < n → f i = g i) : arr k n f = arr k n g := by
  unfold arr
  congr 1
  exact List.map_congr_left fun i hi => by rw [h i (List.mem_range.1 hi)]
theorem arr_inj {k : IntKind} {n : Nat} {f g : Nat → Int} (h : arr k n f = arr k n g) {i : Nat} (hi : i < n) : f i = g i := by
  have h1 := arr_get k f hi
  rw [h, arr_get k g hi] at h1
  simp at h1
  exact h1.symm
theorem arr_set (k : IntKind) {n : Nat} (f : Nat → Int) {i : Nat} (v : Int) (h : i < n) : (arr k n f).setIfInBounds i (.int k v) = arr k n (fun j => if j = i then v else f j) := by
  apply Array.ext_getElem?
  intro j
  by_cases hj : j < n
  · rw [arr_get k _ hj]
    by_cases e : j = i
    · subst e; rw [Array.getElem?_setIfInBounds_self_of_lt (by rw [arr_size]; exact hj)]; simp
    · rw [Array.getElem?_setIfInBounds_ne (fun h => e h.symm), arr_get k f hj, if_neg e]
  · rw [Array.getElem?_eq_none (by simp [arr_size]; omega), Array.getElem?_eq_none (by simp [arr_size]; omega)]
theorem arr_one (k : IntKind) (n : Nat) (f : Nat → Int) : (arr k n f).all (·.oneCell') = true := by
  unfold arr
  rw [Array.all_eq_true_iff_forall_mem]
  intro v hv
  simp at hv
  obtain ⟨i, _, rfl⟩ := hv
  rfl

section
variable {P : Program} {ops : Array Oper} {Q : Exit → Act → World → Prop} {a : Act} {w : World} {rest : List Oper} {o : Oper}

theorem blk_cell {w : World} {b j : Nat} {c : Array Value} {t : TypeId} {v : Value} (hb : w.heap[b]? = some (.cells c t)) (hv : c[j]? = some v) : w.cell? ⟨b, j, none⟩ = some v := by
  rw [cell_of_row w b j c t (0, 0) hb, hv]
theorem blk_frozen {w : World} {b j : Nat} {c : Array Value} {t : TypeId} (hb : w.heap[b]? = some (.cells c t)) : w.frozen? ⟨b, j, none⟩ = false := by
  simp [World.frozen?, hb]
theorem blk_set {w : World} {b j : Nat} {c : Array Value} {t : TypeId} (hb : w.heap[b]? = some (.cells c t)) (v : Value) : (w.setCell ⟨b, j, none⟩ v).heap[b]? = some (.cells (c.setIfInBounds j v) t) := by
  simp only [World.setCell]
  rw [Array.getElem?_modify, if_pos rfl, hb]
  rfl
theorem blk_other {w : World} {b b' j : Nat} {o : Obj} (hb : w.heap[b']? = some o) (h : b' ≠ b) (v : Value) : (w.setCell ⟨b, j, none⟩ v).heap[b']? = some o := by
  rw [Below.heap_setCell _ _ _ _ h, hb]
theorem blk_alloc {w : World} {b : Nat} {o o' : Obj} (hb : w.heap[b]? = some o) : (w.alloc o').heap[b]? = some o := by
  rw [Below.heap_alloc _ _ _ (Array.getElem?_eq_some_iff.1 hb).1, hb]
theorem blk_row {w : World} {b : Nat} {c c' : Array Value} {t : TypeId} (hb : w.heap[b]? = some (.cells c t)) : (w.setRow b c').heap[b]? = some (.cells c' t) := setRow_heap _ _ _ _ _ _ hb
theorem blk_row_other {w : World} {b b' : Nat} {o : Obj} {c' : Array Value} (hb : w.heap[b']? = some o) (h : b' ≠ b) : (w.setRow b c').heap[b']? = some o := by rw [setRow_other _ _ _ _ h, hb]

/-- A new variable that is an array. -/
theorem wpList_alloc_row (hg : o.guard = none) (t : TypeId) (ho : o.op = .alloc t) (z : Array Value) (hz : ∀ w : World, (zeroValue t).run P w = .ok (.agg z) w)
    (h : wpList P ops Q rest (a.put o.dst (.pointer (some ⟨w.heap.size, 0, none⟩))) (w.alloc (.cells z t))) : wpList P ops Q (o :: rest) a w :=
  wpList_plain hg fun _ hK => by
    unfold Oper.wp
    rw [run_alloc_row ho hz]
    exact hK _ _ h
/-- An array that is stored whole. -/
theorem wpList_store_row (hg : o.guard = none) (t : TypeId) (p x : Operand) (ho : o.op = .store t p x) (b : Nat) (z c : Array Value) (hp : a.eval p = .pointer (some ⟨b, 0, none⟩)) (hx : a.eval x = .agg c) (hb : w.heap[b]? = some (.cells z t))
    (hi : (P.info? t).map (·.size) = some c.size) (hs : z.size = c.size) (h1 : c.all (·.oneCell') = true)
    (h : wpList P ops Q rest (a.put o.dst undef) (w.setRow b c)) : wpList P ops Q (o :: rest) a w :=
  wpList_plain hg fun _ hK => by
    unfold Oper.wp
    rw [run_store_row ho hi hs h1 a.eval b w hp hx hb]
    exact hK _ _ h
theorem run_build_zero {o : Oper} {t : TypeId} {z : Array Value} (ho : o.op = .build t #[]) {n k : Nat} {e : TypeId} (hu : P.underlying t = some (.array n e)) (he : ∀ w : World, (sizeOf e).run P w = .ok k w) (hz : ∀ w : World, (zeroValue t).run P w = .ok (.agg z) w) (ρ : Operand → Value) (w : World) : (execOp ρ o).run P w = .ok (.value (.agg z)) w := by
  obtain ⟨dst, op, type, pos, after, guard⟩ := o
  simp only at ho
  subst ho
  simp [execOp, go_sem, hz, run_underlying hu, he]
theorem wpList_build_zero (hg : o.guard = none) (t : TypeId) (ho : o.op = .build t #[]) {n k : Nat} {e : TypeId} (hu : P.underlying t = some (.array n e)) (he : ∀ w : World, (sizeOf e).run P w = .ok k w) (z : Array Value) (hz : ∀ w : World, (zeroValue t).run P w = .ok (.agg z) w)
    (h : wpList P ops Q rest (a.put o.dst (.agg z)) w) : wpList P ops Q (o :: rest) a w :=
  wpList_plain hg fun _ hK => by
    unfold Oper.wp
    rw [run_build_zero ho hu he hz]
    exact hK _ _ h
/-- A whole array, loaded, in a region that draws its order. -/
theorem quiet_load_row {C : World → Prop} {K : Act → Prop} (t : TypeId) (x : Operand) (ho : o.op = .load t x) (b : Nat) (c : Array Value) {e : TypeId} {n : Nat} (hx : a.eval x = .pointer (some ⟨b, 0, none⟩))
    (hb : ∀ w, C w → w.heap[b]? = some (.cells c t)) (hu : P.underlying t = some (.array n e)) (hi : (P.info? t).map (·.size) = some c.size)
    (hk : K (a.put o.dst (.agg c))) : o.quiet P a C K := by
  refine ⟨.agg c, fun w hw => ?_, hk⟩
  unfold Oper.quietAt
  have h2 : (execOp a.eval o).run P w = .ok (.value (.agg c)) w := by
    unfold execOp
    simp only [ho, hx, Instr.loadAt, Instr.sureAddr, Sem.run_bind, Sem.run_pure, Result.andThen_ok, run_loadVar_row w b t t c (0, 0) _ (hb w hw) hu rfl hi]
  rw [h2]
  exact ⟨rfl, rfl⟩
end
end Go.Proofs.Ytfpeliolngfkpaa
