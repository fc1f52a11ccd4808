/- What the function Shift of the document's digits does: the digits of the number whose bits stand so many places up, or down. -/
import Derived.Test.YtfpeliolngfkpaaBits
namespace Go.Proofs.Ytfpeliolngfkpaa
open Go.RowKit SmWord
set_option maxRecDepth 100000

theorem stay {w w' : World} (h : Below w.heap.size w w') {b : Nat} {o : Obj} (hb : w.heap[b]? = some o) : w'.heap[b]? = some o := Ext.block ⟨w', h⟩ hb
theorem fillB_step (f : Nat → Int) (k : Nat) (hk : k < 256) (v : Int) (hv : v = f k) :
    (arr .i64 256 (fun j => if j < k then f j else 0)).setIfInBounds k (.int .i64 v) = arr .i64 256 (fun j => if j < k + 1 then f j else 0) := by
  rw [arr_set _ _ _ hk]
  refine arr_congr fun i _ => ?_
  by_cases h1 : i = k
  · subst h1; simp [hv]
  · by_cases h2 : i < k
    · simp [h1, h2, show i < k + 1 by omega]
    · simp [h1, h2, show ¬ i < k + 1 by omega]
theorem fillB_start (f : Nat → Int) : arr .i64 256 (fun j => if j < 0 then f j else 0) = zB := arr_congr fun i _ => by simp
theorem fillB_end (f : Nat → Int) : arr .i64 256 (fun j => if j < 256 then f j else 0) = arr .i64 256 f := arr_congr fun i hi => by simp [hi]
end Go.Proofs.Ytfpeliolngfkpaa
