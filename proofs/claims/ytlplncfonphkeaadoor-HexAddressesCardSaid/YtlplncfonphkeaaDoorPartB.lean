/- What the methods Len and Bytes and the function Compare of the document's digits do: how many bits, the bytes with the highest first, and -1, 0 or 1 as the first is less, the same or more. -/
import Derived.Test.YtlplncfonphkeaaDoorPartA
import Derived.Test.YtlplncfonphkeaaDoorShiftR
import Derived.Deep.LoopGhost
namespace Go.Proofs.YtlplncfonphkeaaDoor
open Go.RowKit SmWord
set_option maxRecDepth 100000

theorem cmp_low (m n k : Nat) : m % 256 ^ (k + 1) = m % 256 ^ k + 256 ^ k * dig m k ∧ n % 256 ^ (k + 1) = n % 256 ^ k + 256 ^ k * dig n k := by
  constructor <;> (rw [Nat.pow_succ, Nat.mod_mul]; rfl)
/-- From the highest digit down: as long as they are the same, what is below decides. -/
theorem cmp_step (m n k : Nat) : (dig m k < dig n k → cmpN (m % 256 ^ (k + 1)) (n % 256 ^ (k + 1)) = -1) ∧ (dig n k < dig m k → cmpN (m % 256 ^ (k + 1)) (n % 256 ^ (k + 1)) = 1) ∧
    (dig m k = dig n k → cmpN (m % 256 ^ (k + 1)) (n % 256 ^ (k + 1)) = cmpN (m % 256 ^ k) (n % 256 ^ k)) := by
  obtain ⟨e1, e2⟩ := cmp_low m n k
  rw [e1, e2]
  have hp : 0 < 256 ^ k := Nat.pow_pos (by decide)
  have h1 : m % 256 ^ k < 256 ^ k := Nat.mod_lt _ hp
  have h2 : n % 256 ^ k < 256 ^ k := Nat.mod_lt _ hp
  generalize m % 256 ^ k = x at *
  generalize n % 256 ^ k = y at *
  generalize 256 ^ k = p at *
  generalize dig m k = a at *
  generalize dig n k = b at *
  have key : ∀ {a b x y : Nat}, x < p → a < b → x + p * a < y + p * b := fun {a b x y} hx hab => by
    have := Nat.mul_le_mul_left p (show a + 1 ≤ b from hab)
    rw [Nat.mul_add] at this
    omega
  unfold cmpN
  refine ⟨fun h => ?_, fun h => ?_, fun h => ?_⟩
  · rw [if_pos (key h1 h)]
  · have := key (y := x) h2 h
    rw [if_neg (by omega), if_pos this]
  · subst h
    (repeat' split) <;> omega

/-- The bytes of n, the highest first. -/
def ya (n : Nat) : Array Value := arr .u8 32 (fun i => ((dig n (31 - i) : Nat) : Int))
def zY : Array Value := arr .u8 32 (fun _ => 0)
theorem Tryd.infoY : (Tryd.prog.info? 56).map (fun i => (i.zero, i.size)) = some (some (.agg zY), 32) := by kernel_rfl
theorem zY_run (w : World) : (zeroValue 56).run Tryd.prog w = .ok (.agg zY) w := (zero_of_info Tryd.infoY).1 w
theorem infoArrY (f : Nat → Int) : (Tryd.prog.info? 56).map (·.size) = some (arr .u8 32 f).size := by rw [arr_size]; exact (zero_of_info Tryd.infoY).2
theorem ya_congr {m n : Nat} (h : m % M = n % M) : ya m = ya n := arr_congr fun _ hi => by rw [dig_congr h (by omega)]
theorem fillH_step (f : Nat → Int) (k : Nat) (hk : k < 32) (v : Int) (hv : v = f (31 - k)) :
    (arr .u8 32 (fun j => if 32 - k ≤ j then f j else 0)).setIfInBounds (31 - k) (.int .u8 v) = arr .u8 32 (fun j => if 32 - (k + 1) ≤ j then f j else 0) := by
  rw [arr_set _ _ _ (by omega)]
  refine arr_congr fun i _ => ?_
  by_cases h1 : i = 31 - k
  · subst h1; rw [if_pos rfl, if_pos (by omega), hv]
  · rw [if_neg h1]
    by_cases h2 : 32 - k ≤ i
    · rw [if_pos h2, if_pos (by omega)]
    · rw [if_neg h2, if_neg (by omega)]
theorem fillH_start (f : Nat → Int) : arr .u8 32 (fun j => if 32 - 0 ≤ j then f j else 0) = zY := arr_congr fun i hi => by rw [if_neg (by omega)]
theorem fillH_end (f : Nat → Int) : arr .u8 32 (fun j => if 32 - 32 ≤ j then f j else 0) = arr .u8 32 f := arr_congr fun i hi => by rw [if_pos (by omega)]
end Go.Proofs.YtlplncfonphkeaaDoor
