/- What the method Word of the document's digits does: the word of digits. -/
import Derived.Test.YtfpeliolngfkpaaRefA
namespace Go.Proofs.Ytfpeliolngfkpaa
open Go.RowKit SmWord
set_option maxRecDepth 100000
theorem acc_start (m : Nat) : arr .u64 4 (fun q => ((acc m 32 q : Nat) : Int)) = #[Value.int .u64 0, .int .u64 0, .int .u64 0, .int .u64 0] := by
  have : arr .u64 4 (fun _ => 0) = #[Value.int .u64 0, .int .u64 0, .int .u64 0, .int .u64 0] := rfl
  rw [← this]
  exact arr_congr fun q hq => by rw [acc_end m q hq]; rfl
theorem acc_last (m : Nat) : arr .u64 4 (fun q => ((acc m 0 q : Nat) : Int)) = wa m := by
  apply Array.ext_getElem?
  intro i
  by_cases hi : i < 4
  · rw [arr_get _ _ hi, wa_lb m i hi, acc_zero]
  · rw [Array.getElem?_eq_none (by simp [arr_size]; omega), Array.getElem?_eq_none (by rw [wa_size]; omega)]
theorem acc_val (m j : Nat) : IntKind.u64.wrap (IntKind.u64.wrap (((acc m (j + 1) (j / 8) : Nat) : Int) * 256) + IntKind.u64.wrap ((dig m j : Nat) : Int)) = ((acc m j (j / 8) : Nat) : Int) := by
  obtain ⟨h1, h2⟩ := acc_step m j
  have h3 := dig_lt m j
  rw [IntKind.wrap_u64, IntKind.wrap_u64, IntKind.wrap_u64]
  generalize acc m (j + 1) (j / 8) = x at *
  generalize acc m j (j / 8) = y at *
  generalize dig m j = d at *
  simp only [B] at h2
  omega
theorem acc_put (m j : Nat) (hj : j / 8 < 4) : (arr .u64 4 (fun q => ((acc m (j + 1) q : Nat) : Int))).setIfInBounds (j / 8) (.int .u64 ((acc m j (j / 8) : Nat) : Int)) = arr .u64 4 (fun q => ((acc m j q : Nat) : Int)) := by
  rw [arr_set _ _ _ hj]
  refine arr_congr fun q _ => ?_
  by_cases h : q = j / 8
  · subst h; simp
  · rw [if_neg h, acc_other m j q (fun e => h e.symm)]
theorem Try.infoWa {n : Nat} : (Try.prog.info? 39).map (·.size) = some (wa n).size := by rw [wa_size]; kernel_rfl
theorem wa_one {n : Nat} : (wa n).all (·.oneCell') = true := by simp [wa, Value.oneCell']
end Go.Proofs.Ytfpeliolngfkpaa
