/- What the functions Of, Word, Add, Neg and Sub of the document's own answers do, for every number: its digits, the word of digits, sums and differences of digits, going round; all older memory is as it was. -/
import Derived.Test.YtnnodibjocilmaaDoorRow
import Derived.Test.YtnnodibjocilmaaDoorDig
import Derived.Deep.LoopGhost
namespace Go.Proofs.YtnnodibjocilmaaDoor
open Go.RowKit SmWord
set_option maxRecDepth 100000

/-- The digits of n. -/
def da (n : Nat) : Array Value := arr .i64 32 (fun i => ((dig n i : Nat) : Int))
def zD : Array Value := arr .i64 32 (fun _ => 0)
theorem da_congr {m n : Nat} (h : m % M = n % M) : da m = da n := arr_congr fun _ hi => by rw [dig_congr h hi]
theorem wa_lb (n i : Nat) (hi : i < 4) : (wa n)[i]? = some (.int .u64 ((lb n i : Nat) : Int)) := by
  have : i = 0 ∨ i = 1 ∨ i = 2 ∨ i = 3 := by omega
  unfold lb
  rcases this with rfl | rfl | rfl | rfl
  · simp [wa, l0]
  · simp [wa, l1]
  · simp [wa, l2, Nat.div_div_eq_div_mul, Nat.pow_succ]
  · simp [wa, l3, Nat.div_div_eq_div_mul, Nat.pow_succ, Nat.mul_assoc]
theorem dig_of (m k : Nat) : wrap64 ((((lb m (k / 8) : Nat) : Int) / 2 ^ (8 * (k % 8))).tmod 256) = ((dig m k : Nat) : Int) := by
  have e : ((lb m (k / 8) : Nat) : Int) / 2 ^ (8 * (k % 8)) = ((lb m (k / 8) / 2 ^ (8 * (k % 8)) : Nat) : Int) := by
    rw [Int.natCast_ediv, Int.natCast_pow]; rfl
  have h := lb_dig m k
  have h2 := dig_lt m k
  rw [e, Int.tmod_eq_emod_of_nonneg (Int.natCast_nonneg _)]
  have e2 : ((lb m (k / 8) / 2 ^ (8 * (k % 8)) : Nat) : Int) % 256 = ((dig m k : Nat) : Int) := by rw [← h]; rfl
  rw [e2]
  exact IntWalk.wrap64_in _ ⟨by omega, by omega⟩
theorem fill_step (f : Nat → Int) (k : Nat) (hk : k < 32) (v : Int) (hv : v = f k) :
    (arr .i64 32 (fun j => if j < k then f j else 0)).setIfInBounds k (.int .i64 v) = arr .i64 32 (fun j => if j < k + 1 then f j else 0) := by
  rw [arr_set _ _ _ hk]
  refine arr_congr fun i _ => ?_
  by_cases h1 : i = k
  · subst h1; simp [hv]
  · by_cases h2 : i < k
    · simp [h1, h2, show i < k + 1 by omega]
    · simp [h1, h2, show ¬ i < k + 1 by omega]
theorem fill_start (f : Nat → Int) : arr .i64 32 (fun j => if j < 0 then f j else 0) = zD := arr_congr fun i _ => by simp
theorem fill_end (f : Nat → Int) : arr .i64 32 (fun j => if j < 32 then f j else 0) = arr .i64 32 f := arr_congr fun i hi => by simp [hi]

end Go.Proofs.YtnnodibjocilmaaDoor
