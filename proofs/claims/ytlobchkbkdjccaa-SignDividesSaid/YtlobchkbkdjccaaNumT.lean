/- What the function Times of the document's numbers of any length does: the whole product; all older memory is as it was. -/
import Derived.Test.YtlobchkbkdjccaaNumC
import Derived.OwnWalk
import Derived.IntWalk
import Derived.Laws.OwnMore
namespace Go.Proofs.Ytlobchkbkdjccaa
open Go.RowKit SmWord
set_option maxRecDepth 100000

namespace SmWord
theorem row_full {m n i k : Nat} (hk : n < 256 ^ k) : rowT m n i k = m % 256 ^ (i + 1) * n := by
  unfold rowT
  rw [Nat.mod_eq_of_lt hk, low_succ, Nat.add_mul, Nat.mul_comm (dig m i)]
theorem row_over {m n i k l : Nat} (hn : n < 256 ^ l) (hk : l + 1 ≤ k) : rowC m n i k = 0 := by
  have h1 : n < 256 ^ k := Nat.lt_of_lt_of_le hn (Nat.pow_le_pow_right (by decide) (by omega))
  have h2 : rowT m n i k < 256 ^ (i + k) := by
    rw [row_full h1]
    have a1 : m % 256 ^ (i + 1) < 256 ^ (i + 1) := Nat.mod_lt _ (Nat.pow_pos (by decide))
    have a2 : m % 256 ^ (i + 1) * n ≤ 256 ^ (i + 1) * n := Nat.mul_le_mul_right _ (Nat.le_of_lt a1)
    have a3 : 256 ^ (i + 1) * n < 256 ^ (i + 1) * 256 ^ l := Nat.mul_lt_mul_of_pos_left hn (Nat.pow_pos (by decide))
    rw [← Nat.pow_add] at a3
    have a4 : 256 ^ (i + 1 + l) ≤ 256 ^ (i + k) := Nat.pow_le_pow_right (by decide) (by omega)
    omega
  unfold rowC
  rw [Nat.div_eq_of_lt h2, Nat.zero_sub]
end SmWord

/-- The digits while row i is under way, in L places: k of its steps are done. -/
def rowL (L m n i k : Nat) : Array Value := arr .i64 L (fun j => if j < i + k then ((dig (rowT m n i k) j : Nat) : Int) else ((dig (m % 256 ^ i * n) j : Nat) : Int))
def dL (L x : Nat) : Array Value := arr .i64 L (fun j => ((dig x j : Nat) : Int))
theorem rowL_start (L m n i : Nat) : rowL L m n i 0 = dL L (m % 256 ^ i * n) := arr_congr fun j _ => by rw [rowT_zero]; simp
theorem rowL_step (L m n i k : Nat) (hk : i + k < L) : (rowL L m n i k).setIfInBounds (i + k) (.int .i64 ((dig (rowT m n i (k + 1)) (i + k) : Nat) : Int)) = rowL L m n i (k + 1) := by
  unfold rowL
  rw [arr_set _ _ _ hk]
  refine arr_congr fun j _ => ?_
  by_cases h1 : j = i + k
  · subst h1; simp [show i + k < i + (k + 1) by omega]
  · by_cases h2 : j < i + k
    · simp [h1, h2, show j < i + (k + 1) by omega, row_low m n i k h2]
    · simp [h1, h2, show ¬ j < i + (k + 1) by omega]
theorem rowL_end (L m n i k : Nat) (hk : n < 256 ^ k) (hc : rowC m n i k = 0) : rowL L m n i k = dL L (m % 256 ^ (i + 1) * n) := arr_congr fun j _ => by
  have e := rowC_eq m n i k
  rw [hc, Nat.add_zero] at e
  by_cases h : j < i + k
  · rw [if_pos h, row_full hk]
  · rw [if_neg h, ← row_full hk]
    unfold dig
    have ep : 256 ^ j = 256 ^ (i + k) * 256 ^ (j - (i + k)) := by rw [← Nat.pow_add]; congr 1; omega
    rw [ep, ← Nat.div_div_eq_div_mul, ← Nat.div_div_eq_div_mul, e]
theorem dL_none (L n m : Nat) : dL L (m % 256 ^ 0 * n) = arr .i64 L (fun _ => 0) := arr_congr fun j _ => by simp [dig, Nat.mod_one]
theorem dL_num {w : World} {b L X : Nat} (h : w.heap[b]? = some (.cells (dL L X) 3)) (hX : X < 256 ^ L) (hL : L ≤ 1000) : NumS w (.slice (some ⟨b, 0, none⟩) L L) L X :=
  ⟨⟨_, _, rfl, Nat.le_refl _, fun _ => ⟨b, 0, rfl, (Array.getElem?_eq_some_iff.1 h).1, fun i hi => by rw [Nat.zero_add]; exact blk_cell h (arr_get .i64 _ hi)⟩⟩, hX, hL⟩
theorem made_row {w : World} {base g n : Nat} (h : w.ownsRow base 3 1 (.slice (some ⟨g, 0, none⟩) n n) n (madeCells #[.int .i64 0] n).toList) : w.heap[g]? = some (.cells (arr .i64 n (fun _ => 0)) 3) := by
  obtain ⟨_, h⟩ := h
  rcases h with ⟨h, _⟩ | ⟨g', cap, cur, h1, _, h3, _, _, h6, h7⟩
  · cases h
  · cases h1
    have e : cur = arr .i64 n (fun _ => 0) := by
      apply Array.ext'
      rw [List.take_of_length_le (by simp [h6])] at h7
      rw [h7]
      rw [toList_madeCells_one]
      unfold arr
      simp [List.map_const']
    rw [← e]; exact h3

end Go.Proofs.Ytlobchkbkdjccaa
