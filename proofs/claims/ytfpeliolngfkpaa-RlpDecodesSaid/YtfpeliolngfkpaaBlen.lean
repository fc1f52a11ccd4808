/- Plain arithmetic: how many bits a number has. -/
import Derived.Test.YtfpeliolngfkpaaBitM
import Derived.Lib.ItoaNum
namespace Go.Proofs.Ytfpeliolngfkpaa.SmWord

/-- How many bits a number has. -/
def bl (x : Nat) : Nat := if x = 0 then 0 else x.log2 + 1
theorem bl_zero : bl 0 = 0 := rfl
theorem bl_eq {x k : Nat} (h1 : 2 ^ k ≤ x) (h2 : x < 2 ^ (k + 1)) : bl x = k + 1 := by
  have hx : x ≠ 0 := by have := Nat.two_pow_pos k; omega
  unfold bl
  rw [if_neg hx, (Nat.log2_eq_iff hx).2 ⟨h1, h2⟩]
theorem bl_spec {x : Nat} (hx : x ≠ 0) : ∃ k, bl x = k + 1 ∧ 2 ^ k ≤ x ∧ x < 2 ^ (k + 1) := by
  obtain ⟨h1, h2⟩ := (Nat.log2_eq_iff hx).1 rfl
  exact ⟨x.log2, by unfold bl; rw [if_neg hx], h1, h2⟩
theorem bl_lib {x : Nat} (h : x < B) : Lib.bitLen x = bl x := by
  by_cases hx : x = 0
  · subst hx; rfl
  · obtain ⟨a, b, c⟩ := Lib.bitLenAux_bounds 64 x (by simp only [B] at h; omega) hx
    have e : Lib.bitLen x = Lib.bitLenAux 64 x := rfl
    rw [← e] at a b c
    generalize Lib.bitLen x = L at *
    obtain ⟨k, rfl⟩ : ∃ k, L = k + 1 := ⟨L - 1, by omega⟩
    exact (bl_eq (by simpa using b) c).symm
theorem bl_up {r y s : Nat} (hr : r < 2 ^ s) (hy : y ≠ 0) : bl (r + 2 ^ s * y) = s + bl y := by
  obtain ⟨k, e, h1, h2⟩ := bl_spec hy
  rw [e, ← Nat.add_assoc]
  have e1 : 2 ^ (s + k) = 2 ^ s * 2 ^ k := Nat.pow_add _ _ _
  have e2 : 2 ^ (s + k + 1) = 2 ^ s * 2 ^ (k + 1) := by rw [Nat.add_assoc, Nat.pow_add]
  refine bl_eq ?_ ?_
  · rw [e1]; exact Nat.le_trans (Nat.mul_le_mul_left _ h1) (Nat.le_add_left _ _)
  · rw [e2]
    have := Nat.mul_le_mul_left (2 ^ s) (show y + 1 ≤ 2 ^ (k + 1) from h2)
    rw [Nat.mul_add] at this
    omega
theorem bl_le {x s : Nat} (h : x < 2 ^ s) : bl x ≤ s := by
  by_cases hx : x = 0
  · subst hx; exact Nat.zero_le _
  · obtain ⟨k, e, h1, _⟩ := bl_spec hx
    have : k < s := (Nat.pow_lt_pow_iff_right (by decide)).1 (Nat.lt_of_le_of_lt h1 h)
    omega
theorem bl_step (m k : Nat) : bl (m % 2 ^ (k + 1)) = if bitN m k = 1 then k + 1 else bl (m % 2 ^ k) := by
  have e : m % 2 ^ (k + 1) = m % 2 ^ k + 2 ^ k * bitN m k := by rw [Nat.pow_succ, Nat.mod_mul]; rfl
  have h := bitN_lt m k
  have hlt : m % 2 ^ k < 2 ^ k := Nat.mod_lt _ (Nat.two_pow_pos k)
  by_cases hb : bitN m k = 1
  · rw [if_pos hb, e, hb, Nat.mul_one]
    exact bl_eq (Nat.le_add_left _ _) (by rw [Nat.pow_succ]; omega)
  · rw [if_neg hb, e, show bitN m k = 0 by omega, Nat.mul_zero, Nat.add_zero]
theorem bl_num {a b c d : Nat} (ha : a < B) (hb : b < B) (hc : c < B) :
    (d ≠ 0 → bl (num a b c d) = 192 + bl d) ∧ (d = 0 → c ≠ 0 → bl (num a b c d) = 128 + bl c) ∧ (d = 0 → c = 0 → b ≠ 0 → bl (num a b c d) = 64 + bl b) ∧
    (d = 0 → c = 0 → b = 0 → bl (num a b c d) = bl a) := by
  refine ⟨fun h => ?_, fun h1 h => ?_, fun h1 h2 h => ?_, fun h1 h2 h3 => ?_⟩
  · rw [← bl_up (r := num a b c 0) (s := 192) (by unfold num; simp only [B] at *; omega) h]
    congr 1
    unfold num; simp only [B]; omega
  · subst h1
    rw [← bl_up (r := num a b 0 0) (s := 128) (by unfold num; simp only [B] at *; omega) h]
    congr 1
    unfold num; simp only [B]; omega
  · subst h1 h2
    rw [← bl_up (r := num a 0 0 0) (s := 64) (by unfold num; simp only [B] at *; omega) h]
    congr 1
  · subst h1 h2 h3
    congr 1
end Go.Proofs.Ytfpeliolngfkpaa.SmWord
