/- What the function Div of the document's numbers of any length does: a quotient, and what is left; 0 and 0, where the divisor is 0; all older memory is as it was. -/
import Derived.Test.YtlobchkbkdjccaaNumT
import Derived.Test.YtlobchkbkdjccaaKn
namespace Go.Proofs.Ytlobchkbkdjccaa
open Go.RowKit SmWord
set_option maxRecDepth 100000

namespace SmWord
theorem dig_cons0 {L d : Nat} (hd : d < 256) : dig (256 * L + d) 0 = d := by unfold dig; rw [Nat.pow_zero, Nat.div_one]; omega
theorem dig_cons {L d : Nat} (hd : d < 256) (i : Nat) : dig (256 * L + d) (i + 1) = dig L i := by
  unfold dig
  rw [Nat.pow_succ', ← Nat.div_div_eq_div_mul, show (256 * L + d) / 256 = L by omega]
/-- One digit more of a quotient. -/
theorem quo_digit {X Y j : Nat} (hY : 0 < Y) : (256 * (X / 256 ^ (j + 1) % Y) + dig X j) / Y = dig (X / Y) j ∧ (256 * (X / 256 ^ (j + 1) % Y) + dig X j) % Y = X / 256 ^ j % Y ∧ 256 * (X / 256 ^ (j + 1) % Y) + dig X j < 256 * Y := by
  have h := dig_up X j
  have e := Nat.div_add_mod (X / 256 ^ (j + 1)) Y
  have hd := dig_lt X j
  have hl := Nat.mod_lt (X / 256 ^ (j + 1)) hY
  have key : X / 256 ^ j = 256 * (X / 256 ^ (j + 1) % Y) + dig X j + Y * (256 * (X / 256 ^ (j + 1) / Y)) := by
    rw [h, Nat.mul_left_comm Y]
    generalize Y * (X / 256 ^ (j + 1) / Y) = z at *
    omega
  have hlt : 256 * (X / 256 ^ (j + 1) % Y) + dig X j < 256 * Y := by omega
  refine ⟨?_, ?_, hlt⟩
  · have e2 : dig (X / Y) j = X / 256 ^ j / Y % 256 := by
      unfold dig; rw [Nat.div_div_eq_div_mul, Nat.div_div_eq_div_mul, Nat.mul_comm]
    rw [e2]
    generalize X / 256 ^ (j + 1) % Y = L at *
    rw [key, Nat.add_mul_div_left _ _ hY, Nat.add_mul_mod_self_left, Nat.mod_eq_of_lt]
    rw [Nat.div_lt_iff_lt_mul hY]; exact hlt
  · generalize X / 256 ^ (j + 1) % Y = L at *
    rw [key, Nat.add_mul_mod_self_left]
theorem top_zero {L n : Nat} (h : L < 256 ^ (n + 1)) (hz : dig L n = 0) : L < 256 ^ n := by
  have := low_succ L n
  rw [Nat.mod_eq_of_lt h, hz, Nat.mul_zero, Nat.add_zero] at this
  rw [this]; exact Nat.mod_lt _ (Nat.pow_pos (by decide))
theorem top_some {L Y n m : Nat} (hz : dig L n ≠ 0) (hL : L < Y) (hY : Y < 256 ^ m) : n + 1 ≤ m := by
  apply Classical.byContradiction
  intro hn
  apply hz
  have h1 : 256 ^ m ≤ 256 ^ n := Nat.pow_le_pow_right (by decide) (by omega)
  unfold dig
  rw [Nat.div_eq_of_lt (by omega)]
end SmWord

theorem dg_cons {L d n : Nat} (hd : d < 256) : [Value.int .i64 ((d : Nat) : Int)] ++ dg L n = dg (256 * L + d) (1 + n) := by
  apply List.ext_getElem?
  intro i
  cases i with
  | zero => rw [dg_get (by omega), dig_cons0 hd]; rfl
  | succ i =>
    rw [List.getElem?_append_right (by simp), show i + 1 - [Value.int .i64 ((d : Nat) : Int)].length = i by simp]
    by_cases hi : i < n
    · rw [dg_get hi, dg_get (by omega), dig_cons hd]
    · rw [List.getElem?_eq_none (by rw [dg_length]; omega), List.getElem?_eq_none (by rw [dg_length]; omega)]
theorem own_single (w : World) (x : Value) {base : Nat} (hb : base ≤ w.heap.size) : (w.alloc (.cells #[x] 3)).ownsRow base 3 1 (.slice (some ⟨w.heap.size, 0, none⟩) 1 1) 1 [x] :=
  ⟨rfl, .inr ⟨w.heap.size, 1, #[x], rfl, hb, heap_alloc_new _ _, Nat.le_refl _, by unfold maxLen; omega, rfl, rfl⟩⟩
/-- The quotient's digits: those below j are still 0, digit j is t. -/
def qarr (n Q j t : Nat) : Array Value := arr .i64 n (fun i => if i < j then 0 else if i = j then ((t : Nat) : Int) else ((dig Q i : Nat) : Int))
def qall (n Q k : Nat) : Array Value := arr .i64 n (fun i => if i < k then 0 else ((dig Q i : Nat) : Int))
theorem qarr_zero (n Q j : Nat) : qall n Q (j + 1) = qarr n Q j 0 := arr_congr fun i _ => by
  by_cases h1 : i < j
  · simp [h1, show i < j + 1 by omega]
  · by_cases h2 : i = j
    · subst h2; simp
    · simp [h1, h2, show ¬ i < j + 1 by omega]
theorem qarr_end (n Q j : Nat) : qarr n Q j (dig Q j) = qall n Q j := arr_congr fun i _ => by
  by_cases h1 : i < j
  · simp [h1]
  · by_cases h2 : i = j
    · subst h2; simp
    · simp [h1, h2]
theorem qarr_step (n Q j t : Nat) (hj : j < n) : (qarr n Q j t).setIfInBounds j (.int .i64 ((t : Int) + 1)) = qarr n Q j (t + 1) := by
  unfold qarr
  rw [arr_set _ _ _ hj]
  refine arr_congr fun i _ => ?_
  by_cases h2 : i = j
  · subst h2; simp
  · simp [h2]
theorem qarr_get (n Q j t : Nat) (hj : j < n) : (qarr n Q j t)[j]? = some (.int .i64 (t : Int)) := by
  unfold qarr; rw [arr_get .i64 _ hj]; simp
theorem qall_full {n Q : Nat} : qall n Q 0 = dL n Q := arr_congr fun i _ => by simp
theorem qall_none {n Q : Nat} : arr .i64 n (fun _ => 0) = qall n Q n := arr_congr fun i hi => by simp [hi]

/-- What returns a quotient of n digits, and what is left. -/
def RetD (n Q R : Nat) (w : World) (e : Ending) (w' : World) : Prop := ∃ v u k, e = .returned (.tuple #[v, u]) ∧ NumS w' v n Q ∧ NumS w' u k R ∧ Below w.heap.size w w'

set_option maxHeartbeats 1000000 in
theorem rdiv_zero (v u : Value) (n m X : Nat) (w : World) (h : NumS w v n X) (g : NumS w u m 0) : Calls Try.prog 31 #[v, u] w (RetD n 0 0 w) := by
  obtain ⟨i0, hi, hz0, hz1, hz2⟩ := info_parts Try.info3
  have HB := Lib.hid g
  obtain ⟨⟨A, c, rfl, hnc, _⟩, hl, hm⟩ := h
  clear g hl
  go_enter Try.func31, Try.ntmps31
  go_upto_region 2 with (at_make; refine wpList_make_full _ rfl _ _ 45 rfl w.heap.size 3 i0 (.int .i64 0) 1 Try.underlying45 hi hz0 hz1 _ _ _ _ n rfl rfl rfl rfl ?b2 ?b3 ?b4 ?_)
  case b2 => rw [hz2]; omega
  case b3 => unfold maxLen; omega
  case b4 => exact Nat.le_refl _
  intro w1 hown hgrow
  have f6 := made_row hown
  have bW : Below w.heap.size w w1 := (Below.refl _ _).grown hgrow (Nat.le_refl _) (fun k hk => by cases hk)
  clear hown hgrow
  go_wp2_with fail
  have e0 := own_empty w1 (base := 0) (Nat.zero_le _)
  replace f6 := blk_alloc (o' := .cells #[] 3) f6
  replace bW : Below w.heap.size w (w1.alloc (.cells #[] 3)) := bW.alloc bW.size _
  generalize w1.alloc (.cells #[] 3) = w2 at *
  refine (zero_ref u m 0 _ (HB.out.stays bW)).mono ?_
  rintro e w3 ⟨rfl, rfl⟩
  go_wp2_with fail
  go_ret2
  exact ⟨_, _, 0, rfl, dL_num (by rw [show dL n 0 = arr .i64 n (fun _ => 0) from arr_congr fun j _ => by simp [dig]]; exact f6) (Nat.pow_pos (by decide)) (by omega), NumS.of_owns e0 (by decide) (by omega), bW⟩
end Go.Proofs.Ytlobchkbkdjccaa
