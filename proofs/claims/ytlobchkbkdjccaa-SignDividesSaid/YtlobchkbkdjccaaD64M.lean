/- Plain arithmetic on a division of two parts by one (math/bits.Div64, a divisor whose highest bit is 1): no program is named here. -/
import Derived.Test.YtlobchkbkdjccaaMath
namespace Go.Proofs.Ytlobchkbkdjccaa.SmWord

/-- One half of the division: x * 2^32 + l divided by y = y1 * 2^32 + y0 is Q. -/
structure Half (x l y y1 y0 Q : Int) : Prop where
  hy : y = y1 * 4294967296 + y0
  hy0 : 0 ≤ y0
  hy0' : y0 < 4294967296
  hy1 : 2147483648 ≤ y1
  hy1' : y1 < 4294967296
  hl : 0 ≤ l
  hl' : l < 4294967296
  hx : 0 ≤ x
  hx' : x < y
  hQ : Q * y ≤ x * 4294967296 + l
  hQ' : x * 4294967296 + l < Q * y + y
  hQ0 : 0 ≤ Q
structure DInv (x y1 Q q r : Int) : Prop where
  he : q * y1 + r = x
  hr : 0 ≤ r
  hr' : r < 4294967296
  hq : Q ≤ q
  hq' : q ≤ 4294967297

variable {x l y y1 y0 Q q r : Int}

theorem Half.Qb (h : Half x l y y1 y0 Q) : Q < 4294967296 := by
  refine Int.lt_of_mul_lt_mul_right (a := y) ?_ (by have := h.hx; have := h.hx'; omega)
  have := h.hQ; have := h.hx'; have := h.hl'
  omega
theorem half_mul (h : Half x l y y1 y0 Q) (i : DInv x y1 Q q r) : q * y = x * 4294967296 - r * 4294967296 + q * y0 := by
  have e := i.he
  have : q * y = q * y1 * 4294967296 + q * y0 := by rw [h.hy, Int.mul_add, Int.mul_assoc]
  rw [this, ← e]; generalize q * y1 = z; omega
theorem half_test (h : Half x l y y1 y0 Q) (i : DInv x y1 Q q r) (hq : Q < q) : 4294967296 * r + l < q * y0 := by
  have e := half_mul h i
  have hy : 0 ≤ y := by have := h.hx; have := h.hx'; omega
  have h1 : (Q + 1) * y ≤ q * y := Int.mul_le_mul_of_nonneg_right (by omega) hy
  rw [Int.add_mul, Int.one_mul] at h1
  have := h.hQ'
  omega
theorem half_stop (h : Half x l y y1 y0 Q) (i : DInv x y1 Q Q r) : Q * y0 ≤ 4294967296 * r + l := by
  have e := half_mul h i
  have := h.hQ
  omega
theorem half_q0 (h : Half x l y y1 y0 Q) (i : DInv x y1 Q q r) (hq : q < 4294967296) : 0 ≤ q * y0 ∧ q * y0 < 18446744073709551616 := by
  have h1 := h.hQ0
  have h2 := i.hq
  refine ⟨Int.mul_nonneg (by omega) h.hy0, ?_⟩
  have h3 : q * y0 ≤ 4294967295 * 4294967295 := Int.mul_le_mul (by omega) (by have := h.hy0'; omega) h.hy0 (by omega)
  omega
theorem half_break (h : Half x l y y1 y0 Q) (i : DInv x y1 Q q r) (hq : Q < q) (hr : 4294967296 ≤ r + y1) : q - 1 = Q := by
  have i' : (q - 1) * y1 + (r + y1) = x := by rw [Int.sub_mul]; have := i.he; omega
  have e : (q - 1) * y = x * 4294967296 - (r + y1) * 4294967296 + (q - 1) * y0 := by
    have : (q - 1) * y = (q - 1) * y1 * 4294967296 + (q - 1) * y0 := by rw [h.hy, Int.mul_add, Int.mul_assoc]
    rw [this, ← i']; generalize (q - 1) * y1 = z; omega
  have h1 := h.hQ0
  have h2 := i.hq'
  have h3 : (q - 1) * y0 ≤ 4294967296 * 4294967295 := Int.mul_le_mul (by omega) (by have := h.hy0'; omega) h.hy0 (by omega)
  have h4 : (q - 1) * y < (Q + 1) * y := by
    rw [Int.add_mul, Int.one_mul]
    have := h.hQ'; have := h.hl
    omega
  have h5 := Int.lt_of_mul_lt_mul_right h4 (by have := h.hx; have := h.hx'; omega)
  omega
theorem half_next (i : DInv x y1 Q q r) (y1p : 0 ≤ y1) (hq : Q < q) (hr : r + y1 < 4294967296) : DInv x y1 Q (q - 1) (r + y1) :=
  ⟨by rw [Int.sub_mul]; have := i.he; omega, by have := i.hr; omega, hr, by omega, by have := i.hq'; omega⟩
theorem half_start (h : Half x l y y1 y0 Q) : DInv x y1 Q (x / y1) (x - x / y1 * y1) := by
  have p : 0 < y1 := by have := h.hy1; omega
  have e := Int.mul_ediv_add_emod x y1
  have m0 := Int.emod_nonneg x (show y1 ≠ 0 by omega)
  have m1 := Int.emod_lt_of_pos x p
  rw [Int.mul_comm] at e
  have hr : x - x / y1 * y1 = x % y1 := by omega
  rw [hr]
  refine ⟨e, m0, by have := h.hy1'; omega, ?_, ?_⟩
  · rw [Int.le_ediv_iff_mul_le p]
    have h1 : Q * y1 * 4294967296 ≤ Q * y := by
      rw [h.hy, Int.mul_add, Int.mul_assoc]
      have := Int.mul_nonneg h.hQ0 h.hy0
      omega
    have := h.hQ; have := h.hl'
    omega
  · have h1 : x / y1 * y1 < 4294967298 * y1 := by
      have := h.hx'; have := h.hy; have := h.hy0'; have := h.hy1
      omega
    have := Int.lt_of_mul_lt_mul_right h1 (by omega)
    omega
theorem half_div (h : Half x l y y1 y0 Q) : 0 ≤ x / y1 ∧ x / y1 ≤ 4294967297 ∧ 0 ≤ x / y1 * y1 ∧ x / y1 * y1 ≤ x := by
  have s := half_start h
  have h1 := s.hq
  have h2 := h.hQ0
  have h3 := s.hr
  refine ⟨by omega, s.hq', Int.mul_nonneg (by omega) (by have := h.hy1; omega), by omega⟩
/-- What is left of the half. -/
theorem half_left (h : Half x l y y1 y0 Q) (hy : y < 18446744073709551616) :
    (((x * 4294967296) % 18446744073709551616 + l) % 18446744073709551616 - (Q * y) % 18446744073709551616) % 18446744073709551616 = x * 4294967296 + l - Q * y := by
  have h1 := h.hQ
  have h2 := h.hQ'
  generalize Q * y = z at *
  omega
theorem div_of {a m q : Nat} (h1 : q * m ≤ a) (h2 : a < q * m + m) : a / m = q := by
  have hm : 0 < m := by omega
  refine Nat.div_eq_of_lt_le h1 ?_
  rw [Nat.succ_mul]; exact h2
end Go.Proofs.Ytlobchkbkdjccaa.SmWord
