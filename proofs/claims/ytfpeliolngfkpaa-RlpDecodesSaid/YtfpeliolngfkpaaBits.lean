/- What the function Bits of the document's digits does: the digits of the number whose bits these are. -/
import Derived.Test.YtfpeliolngfkpaaBit
namespace Go.Proofs.Ytfpeliolngfkpaa
open Go.RowKit SmWord
set_option maxRecDepth 100000

/-- The bits of n. -/
def ba (n : Nat) : Array Value := arr .i64 256 (fun i => ((bitN n i : Nat) : Int))
def zB : Array Value := arr .i64 256 (fun _ => 0)
theorem ba_congr {m n : Nat} (h : m % M = n % M) : ba m = ba n := arr_congr fun _ hi => by rw [bit_congr h hi]
theorem accB_start (m : Nat) : arr .i64 32 (fun q => ((accB m 256 q : Nat) : Int)) = zD := arr_congr fun q hq => by rw [accB_end m q hq]; rfl
theorem accB_last (m : Nat) : arr .i64 32 (fun q => ((accB m 0 q : Nat) : Int)) = da m := arr_congr fun q _ => by rw [accB_zero]
theorem accB_val (m j : Nat) : ((accB m (j + 1) (j / 8) : Nat) : Int) * 2 + ((bitN m j : Nat) : Int) = ((accB m j (j / 8) : Nat) : Int) := by
  obtain ⟨h1, _⟩ := accB_step m j
  omega
theorem accB_put (m j : Nat) (hj : j / 8 < 32) : (arr .i64 32 (fun q => ((accB m (j + 1) q : Nat) : Int))).setIfInBounds (j / 8) (.int .i64 ((accB m j (j / 8) : Nat) : Int)) = arr .i64 32 (fun q => ((accB m j q : Nat) : Int)) := by
  rw [arr_set _ _ _ hj]
  refine arr_congr fun q _ => ?_
  by_cases h : q = j / 8
  · subst h; simp
  · rw [if_neg h, accB_other m j q (fun e => h e.symm)]
end Go.Proofs.Ytfpeliolngfkpaa
