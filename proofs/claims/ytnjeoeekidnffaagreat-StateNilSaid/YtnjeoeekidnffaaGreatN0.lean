/- Plain arithmetic on the four parts of a word: no program is named here. -/
import Derived.Laws.BitsAllLaws
import Derived.Test.YtnjeoeekidnffaaGreatRows
import Derived.Test.YtnjeoeekidnffaaGreatShelf
import Derived.WalkKit
import Derived.WalkSpells
import Derived.WalkLawsBesides
import Derived.BigQuiet
import Derived.LoopN
import Derived.DeepKeys
import Derived.Deep.WholeRow
namespace Go.Proofs.YtnjeoeekidnffaaGreat.SmWord

/-- 2^64 -/
abbrev B : Nat := 18446744073709551616
/-- 2^256 -/
def M : Nat := 115792089237316195423570985008687907853269984665640564039457584007913129639936

theorem M_eq : M = B * B * B * B := by decide

def l0 (n : Nat) : Nat := n % B
def l1 (n : Nat) : Nat := n / B % B
def l2 (n : Nat) : Nat := n / B / B % B
def l3 (n : Nat) : Nat := n / B / B / B % B

theorem l_lt (n : Nat) : l0 n < B ∧ l1 n < B ∧ l2 n < B ∧ l3 n < B := by
  unfold l0 l1 l2 l3
  exact ⟨Nat.mod_lt _ (by decide), Nat.mod_lt _ (by decide), Nat.mod_lt _ (by decide), Nat.mod_lt _ (by decide)⟩

/-- A number out of its four parts. -/
def num (a b c d : Nat) : Nat := a + B * (b + B * (c + B * d))

theorem parts_num {a b c d : Nat} (ha : a < B) (hb : b < B) (hc : c < B) (hd : d < B) :
    l0 (num a b c d) = a ∧ l1 (num a b c d) = b ∧ l2 (num a b c d) = c ∧ l3 (num a b c d) = d := by
  unfold l0 l1 l2 l3 num
  have h1 : (a + B * (b + B * (c + B * d))) / B = b + B * (c + B * d) := by
    rw [Nat.add_mul_div_left _ _ (by decide), Nat.div_eq_of_lt ha, Nat.zero_add]
  have h2 : (b + B * (c + B * d)) / B = c + B * d := by
    rw [Nat.add_mul_div_left _ _ (by decide), Nat.div_eq_of_lt hb, Nat.zero_add]
  have h3 : (c + B * d) / B = d := by
    rw [Nat.add_mul_div_left _ _ (by decide), Nat.div_eq_of_lt hc, Nat.zero_add]
  rw [h1, h2, h3]
  refine ⟨?_, ?_, ?_, Nat.mod_eq_of_lt hd⟩
  · rw [Nat.add_mul_mod_self_left]; exact Nat.mod_eq_of_lt ha
  · rw [Nat.add_mul_mod_self_left]; exact Nat.mod_eq_of_lt hb
  · rw [Nat.add_mul_mod_self_left]; exact Nat.mod_eq_of_lt hc

theorem num_parts (n : Nat) : num (l0 n) (l1 n) (l2 n) (l3 n) = n % M := by
  have hM : M = B * (B * (B * B)) := by decide
  unfold num l0 l1 l2 l3
  rw [hM, Nat.mod_mul, Nat.mod_mul, Nat.mod_mul]

theorem num_lt {a b c d : Nat} (ha : a < B) (hb : b < B) (hc : c < B) (hd : d < B) : num a b c d < M := by
  have h := parts_num ha hb hc hd
  have h2 := num_parts (num a b c d)
  rw [h.1, h.2.1, h.2.2.1, h.2.2.2] at h2
  rw [h2]; exact Nat.mod_lt _ (by decide)

theorem parts_congr {m n : Nat} (h : m % M = n % M) : l0 m = l0 n ∧ l1 m = l1 n ∧ l2 m = l2 n ∧ l3 m = l3 n := by
  have k : ∀ x : Nat, l0 (x % M) = l0 x ∧ l1 (x % M) = l1 x ∧ l2 (x % M) = l2 x ∧ l3 (x % M) = l3 x := fun x => by
    rw [← num_parts x]
    have := l_lt x
    exact parts_num this.1 this.2.1 this.2.2.1 this.2.2.2
  have hm := k m
  have hn := k n
  rw [h] at hm
  exact ⟨hm.1.symm.trans hn.1, hm.2.1.symm.trans hn.2.1, hm.2.2.1.symm.trans hn.2.2.1, hm.2.2.2.symm.trans hn.2.2.2⟩

theorem congr_parts {m n : Nat} (h0 : l0 m = l0 n) (h1 : l1 m = l1 n) (h2 : l2 m = l2 n) (h3 : l3 m = l3 n) : m % M = n % M := by
  rw [← num_parts m, ← num_parts n, h0, h1, h2, h3]

theorem mod_cancel {x k n m : Nat} (h : (x + n % M) % M = m % M) (hk : (k + n) % M = m % M) : x % M = k % M := by
  have a : ∀ y : Nat, y % M = ((y + n % M) % M + (M - n % M)) % M := fun y => by
    have : n % M < M := Nat.mod_lt _ (by decide)
    rw [Nat.mod_add_mod, show y + n % M + (M - n % M) = y + M by omega, Nat.add_mod_right]
  rw [a x, a k, h, ← hk, Nat.add_mod_mod]

/-! Sums -/
def lo (x y c : Nat) : Nat := (x + y + c) % B
def hi (x y c : Nat) : Nat := (x + y + c) / B
theorem hi_le {x y c : Nat} (hx : x < B) (hy : y < B) (hc : c ≤ 1) : hi x y c ≤ 1 := by
  unfold hi; simp only [B] at *; omega
theorem lo_lt (x y c : Nat) : lo x y c < B := Nat.mod_lt _ (by decide)
theorem lo_hi (x y c : Nat) : lo x y c + B * hi x y c = x + y + c := Nat.mod_add_div _ _

theorem add_num (a0 a1 a2 a3 b0 b1 b2 b3 : Nat) :
    num (lo a0 b0 0) (lo a1 b1 (hi a0 b0 0)) (lo a2 b2 (hi a1 b1 (hi a0 b0 0))) (lo a3 b3 (hi a2 b2 (hi a1 b1 (hi a0 b0 0)))) % M = (num a0 a1 a2 a3 + num b0 b1 b2 b3) % M := by
  have e0 := lo_hi a0 b0 0
  generalize lo a0 b0 0 = r0 at *
  generalize hi a0 b0 0 = c0 at *
  have e1 := lo_hi a1 b1 c0
  generalize lo a1 b1 c0 = r1 at *
  generalize hi a1 b1 c0 = c1 at *
  have e2 := lo_hi a2 b2 c1
  generalize lo a2 b2 c1 = r2 at *
  generalize hi a2 b2 c1 = c2 at *
  have e3 := lo_hi a3 b3 c2
  generalize lo a3 b3 c2 = r3 at *
  generalize hi a3 b3 c2 = c3 at *
  have hM : M = B * (B * (B * B)) := by decide
  have : num a0 a1 a2 a3 + num b0 b1 b2 b3 = num r0 r1 r2 r3 + M * c3 := by
    unfold num
    rw [hM]
    simp only [B] at *
    omega
  rw [this, Nat.add_mul_mod_self_left]

/-! Differences -/
def dlo (x y c : Nat) : Nat := (x + B - y - c) % B
def dhi (x y c : Nat) : Nat := if x < y + c then 1 else 0
theorem dhi_le (x y c : Nat) : dhi x y c ≤ 1 := by unfold dhi; split <;> omega
theorem dlo_lt (x y c : Nat) : dlo x y c < B := Nat.mod_lt _ (by decide)
theorem dlo_dhi {x y c : Nat} (hx : x < B) (hy : y < B) (hc : c ≤ 1) : dlo x y c + y + c = x + B * dhi x y c := by
  unfold dlo dhi
  simp only [B] at *
  split <;> omega

theorem sub_num {a0 a1 a2 a3 b0 b1 b2 b3 : Nat} (ha0 : a0 < B) (ha1 : a1 < B) (ha2 : a2 < B) (ha3 : a3 < B) (hb0 : b0 < B) (hb1 : b1 < B) (hb2 : b2 < B) (hb3 : b3 < B) :
    (num (dlo a0 b0 0) (dlo a1 b1 (dhi a0 b0 0)) (dlo a2 b2 (dhi a1 b1 (dhi a0 b0 0))) (dlo a3 b3 (dhi a2 b2 (dhi a1 b1 (dhi a0 b0 0)))) + num b0 b1 b2 b3) % M = num a0 a1 a2 a3 % M := by
  have e0 := dlo_dhi ha0 hb0 (c := 0) (by omega)
  have f0 := dhi_le a0 b0 0
  generalize dlo a0 b0 0 = r0 at *
  generalize dhi a0 b0 0 = c0 at *
  have e1 := dlo_dhi ha1 hb1 f0
  have f1 := dhi_le a1 b1 c0
  generalize dlo a1 b1 c0 = r1 at *
  generalize dhi a1 b1 c0 = c1 at *
  have e2 := dlo_dhi ha2 hb2 f1
  have f2 := dhi_le a2 b2 c1
  generalize dlo a2 b2 c1 = r2 at *
  generalize dhi a2 b2 c1 = c2 at *
  have e3 := dlo_dhi ha3 hb3 f2
  generalize dlo a3 b3 c2 = r3 at *
  generalize dhi a3 b3 c2 = c3 at *
  have hM : M = B * (B * (B * B)) := by decide
  have : num r0 r1 r2 r3 + num b0 b1 b2 b3 = num a0 a1 a2 a3 + M * c3 := by
    unfold num
    rw [hM]
    simp only [B] at *
    omega
  rw [this, Nat.add_mul_mod_self_left]
/-! Products -/
theorem mul_expand (B a0 a1 a2 a3 b0 b1 b2 b3 : Nat) : (a0 + B * (a1 + B * (a2 + B * a3))) * (b0 + B * (b1 + B * (b2 + B * b3))) =
    a0 * b0 + B * (a0 * b1 + a1 * b0) + B * B * (a0 * b2 + a1 * b1 + a2 * b0) + B * B * B * (a0 * b3 + a1 * b2 + a2 * b1 + a3 * b0) + B * B * B * B * (a1 * b3 + a2 * b2 + a3 * b1 + B * (a2 * b3 + a3 * b2 + B * (a3 * b3))) := by grind

def mh (x y m n : Nat) : Nat := (x * y + m + n) / B
def ml (x y m n : Nat) : Nat := (x * y + m + n) % B
theorem ml_mh (x y m n : Nat) : ml x y m n + B * mh x y m n = x * y + m + n := Nat.mod_add_div _ _
theorem ml_lt (x y m n : Nat) : ml x y m n < B := Nat.mod_lt _ (by decide)
theorem mh_lt {x y m n : Nat} (hx : x < B) (hy : y < B) (hm : m < B) (hn : n < B) : mh x y m n < B := by
  unfold mh
  rw [Nat.div_lt_iff_lt_mul (by decide)]
  have h1 : x * y ≤ (B - 1) * (B - 1) := Nat.mul_le_mul (by omega) (by omega)
  have h2 : (B - 1) * (B - 1) + (B - 1) + (B - 1) < B * B := by decide
  omega

theorem mul_num {a0 a1 a2 a3 b0 b1 b2 b3 p00 p01 p02 p03 p10 p11 p12 p20 p21 p30 c00 c01 c02 c03 c10 c11 c12 c20 c21 c30 : Nat}
    (e00 : p00 + B * c00 = a0 * b0 + 0 + 0) (e01 : p01 + B * c01 = a0 * b1 + 0 + c00) (e02 : p02 + B * c02 = a0 * b2 + 0 + c01) (e03 : p03 + B * c03 = a0 * b3 + 0 + c02)
    (e10 : p10 + B * c10 = a1 * b0 + p01 + 0) (e11 : p11 + B * c11 = a1 * b1 + p02 + c10) (e12 : p12 + B * c12 = a1 * b2 + p03 + c11)
    (e20 : p20 + B * c20 = a2 * b0 + p11 + 0) (e21 : p21 + B * c21 = a2 * b1 + p12 + c20)
    (e30 : p30 + B * c30 = a3 * b0 + p21 + 0) :
    num p00 p10 p20 p30 % M = (num a0 a1 a2 a3 * num b0 b1 b2 b3) % M := by
  have hM : M = B * B * B * B := by decide
  have : num a0 a1 a2 a3 * num b0 b1 b2 b3 = num p00 p10 p20 p30 + M * (c03 + c12 + c21 + c30 + (a1 * b3 + a2 * b2 + a3 * b1 + B * (a2 * b3 + a3 * b2 + B * (a3 * b3)))) := by
    unfold num
    rw [mul_expand, hM]
    generalize a1 * b3 + a2 * b2 + a3 * b1 + B * (a2 * b3 + a3 * b2 + B * (a3 * b3)) = R
    generalize a0 * b0 = x00 at *
    generalize a0 * b1 = x01 at *
    generalize a0 * b2 = x02 at *
    generalize a0 * b3 = x03 at *
    generalize a1 * b0 = x10 at *
    generalize a1 * b1 = x11 at *
    generalize a1 * b2 = x12 at *
    generalize a2 * b0 = x20 at *
    generalize a2 * b1 = x21 at *
    generalize a3 * b0 = x30 at *
    simp only [B] at *
    omega
  rw [this, Nat.add_mul_mod_self_left]

theorem mulAdd_num {x y m n : Nat} :
    lo (lo (x * y % B) m 0) n 0 = ml x y m n ∧ x * y / B + hi (x * y % B) m 0 + hi (lo (x * y % B) m 0) n 0 = mh x y m n := by
  unfold lo hi ml mh
  generalize x * y = q
  simp only [B]
  omega

theorem not_num {a b c d n : Nat} (ha : a < B) (hb : b < B) (hc : c < B) (hd : d < B) (h : num a b c d = n % M) : M - 1 - n % M = num (B - 1 - a) (B - 1 - b) (B - 1 - c) (B - 1 - d) := by
  rw [← h]
  unfold num
  have hM : M = B * (B * (B * B)) := by decide
  rw [hM]
  simp only [B] at *
  omega
/-! Shifts -/
theorem B_split {r : Nat} (hr : r ≤ 64) : 2 ^ (64 - r) * 2 ^ r = B := by
  rw [← Nat.pow_add, show 64 - r + r = 64 by omega]
def slo (a r : Nat) : Nat := a * 2 ^ r % B
def shi (a r : Nat) : Nat := a / 2 ^ (64 - r)
theorem slo_shi (a : Nat) {r : Nat} (hr : r ≤ 64) : slo a r + B * shi a r = a * 2 ^ r := by
  have h : shi a r = a * 2 ^ r / B := by
    rw [← B_split hr, Nat.mul_div_mul_right _ _ (Nat.two_pow_pos r)]; rfl
  rw [h]; exact Nat.mod_add_div _ _
theorem shi_lt {a r : Nat} (ha : a < B) (hr : r ≤ 64) : shi a r < 2 ^ r := by
  unfold shi
  rw [Nat.div_lt_iff_lt_mul (Nat.two_pow_pos _), Nat.mul_comm, B_split hr]; exact ha
theorem slo_mod {a r : Nat} (hr : r ≤ 64) : slo a r % 2 ^ r = 0 := by
  unfold slo
  rw [← B_split hr, Nat.mul_mod_mul_right]; exact Nat.mul_mod_left _ _
theorem slo_lt (a r : Nat) : slo a r < B := Nat.mod_lt _ (by decide)
theorem shl_or {a b r : Nat} (hb : b < B) (hr : r ≤ 64) : slo a r ||| shi b r = slo a r + shi b r ∧ slo a r + shi b r < B := by
  have h := Go.nat_join r (slo a r) (shi b r) (slo_mod hr) (shi_lt hb hr)
  refine ⟨h, ?_⟩
  rw [← h]
  exact Nat.or_lt_two_pow (n := 64) (slo_lt a r) (Nat.lt_of_lt_of_le (shi_lt hb hr) (Nat.pow_le_pow_right (by decide) hr))

theorem shl_num (a0 a1 a2 a3 : Nat) {r : Nat} (hr : r ≤ 64) :
    num (slo a0 r) (slo a1 r + shi a0 r) (slo a2 r + shi a1 r) (slo a3 r + shi a2 r) % M = (num a0 a1 a2 a3 * 2 ^ r) % M := by
  have hM : M = B * (B * (B * B)) := by decide
  have e0 := slo_shi a0 hr
  have e1 := slo_shi a1 hr
  have e2 := slo_shi a2 hr
  have e3 := slo_shi a3 hr
  have : num a0 a1 a2 a3 * 2 ^ r = num (slo a0 r) (slo a1 r + shi a0 r) (slo a2 r + shi a1 r) (slo a3 r + shi a2 r) + M * shi a3 r := by
    have ex : num a0 a1 a2 a3 * 2 ^ r = num (a0 * 2 ^ r) (a1 * 2 ^ r) (a2 * 2 ^ r) (a3 * 2 ^ r) := by
      unfold num; generalize 2 ^ r = p; generalize B = b; grind
    rw [ex, ← e0, ← e1, ← e2, ← e3, hM]
    unfold num
    simp only [B]
    omega
  rw [this, Nat.add_mul_mod_self_left]

theorem num_up (x0 x1 x2 x3 : Nat) : num 0 x0 x1 x2 % M = (num x0 x1 x2 x3 * B) % M := by
  have hM : M = B * (B * (B * B)) := by decide
  have : num x0 x1 x2 x3 * B = num 0 x0 x1 x2 + M * x3 := by
    rw [hM]; unfold num; simp only [B]; omega
  rw [this, Nat.add_mul_mod_self_left]

theorem num_up' {x0 x1 x2 x3 z : Nat} (h : num x0 x1 x2 x3 % M = z % M) : num 0 x0 x1 x2 % M = (z * B) % M := by
  rw [num_up x0 x1 x2 x3, Nat.mul_mod, h, ← Nat.mul_mod]

/-! down -/
def down (a b r : Nat) : Nat := a / 2 ^ r + b % 2 ^ r * 2 ^ (64 - r)
theorem down_or {a b r : Nat} (ha : a < B) (hr : r ≤ 64) : a / 2 ^ r ||| b * 2 ^ (64 - r) % B = down a b r ∧ down a b r < B := by
  have e : b * 2 ^ (64 - r) % B = b % 2 ^ r * 2 ^ (64 - r) := by
    rw [← B_split hr, Nat.mul_comm (2 ^ (64 - r)) (2 ^ r), Nat.mul_mod_mul_right]
  have hl : a / 2 ^ r < 2 ^ (64 - r) := by
    rw [Nat.div_lt_iff_lt_mul (Nat.two_pow_pos _), B_split hr]; exact ha
  have h := Go.nat_join (64 - r) (b % 2 ^ r * 2 ^ (64 - r)) (a / 2 ^ r) (Nat.mul_mod_left _ _) hl
  have h2 : a / 2 ^ r ||| b * 2 ^ (64 - r) % B = down a b r := by
    rw [e, Nat.or_comm, h, Nat.add_comm]; rfl
  refine ⟨h2, ?_⟩
  rw [← h2]
  exact Nat.or_lt_two_pow (n := 64) (Nat.lt_of_lt_of_le hl (Nat.pow_le_pow_right (by decide) (by omega))) (Nat.mod_lt _ (by decide))

theorem shr_num (a0 a1 a2 a3 : Nat) {r : Nat} (hr : r ≤ 64) :
    num (down a0 a1 r) (down a1 a2 r) (down a2 a3 r) (down a3 0 r) = num a0 a1 a2 a3 / 2 ^ r := by
  have hB := B_split hr
  have hp := Nat.two_pow_pos r
  have d0 := Nat.div_add_mod a0 (2 ^ r)
  have d1 := Nat.div_add_mod a1 (2 ^ r)
  have d2 := Nat.div_add_mod a2 (2 ^ r)
  have d3 := Nat.div_add_mod a3 (2 ^ r)
  have l0 : a0 % 2 ^ r < 2 ^ r := Nat.mod_lt _ hp
  have key : 2 ^ r * num (down a0 a1 r) (down a1 a2 r) (down a2 a3 r) (down a3 0 r) + a0 % 2 ^ r = num a0 a1 a2 a3 := by
    unfold down num
    rw [Nat.zero_mod, Nat.zero_mul]
    generalize a0 / 2 ^ r = x0 at *
    generalize a1 / 2 ^ r = x1 at *
    generalize a2 / 2 ^ r = x2 at *
    generalize a3 / 2 ^ r = x3 at *
    generalize a0 % 2 ^ r = y0 at *
    generalize a1 % 2 ^ r = y1 at *
    generalize a2 % 2 ^ r = y2 at *
    generalize a3 % 2 ^ r = y3 at *
    generalize 2 ^ (64 - r) = s at *
    generalize 2 ^ r = p at *
    generalize B = b at *
    subst hB
    rw [← d0, ← d1, ← d2, ← d3]
    grind
  rw [← key, Nat.mul_add_div hp, Nat.div_eq_of_lt l0, Nat.add_zero]
theorem num_down {a0 a1 a2 a3 : Nat} (h0 : a0 < B) : num a0 a1 a2 a3 / B = num a1 a2 a3 0 := by
  unfold num
  rw [Nat.add_mul_div_left _ _ (by decide), Nat.div_eq_of_lt h0]
  simp only [B]; omega
end Go.Proofs.YtnjeoeekidnffaaGreat.SmWord
/- What the functions Of, Not, And, Or, Xor, Add, Sub and mulAdd of package word do, for every word: each returns the word it should, and leaves all older memory as it was. -/
namespace Go.Proofs.YtnjeoeekidnffaaGreat
open Go.RowKit SmWord
set_option maxRecDepth 100000

/-- The parts of the word n (of n its rest by 2^256). -/
def wa (n : Nat) : Array Value := #[.int .u64 ((l0 n : Nat) : Int), .int .u64 ((l1 n : Nat) : Int), .int .u64 ((l2 n : Nat) : Int), .int .u64 ((l3 n : Nat) : Int)]
/-- The word n. -/
abbrev wd (n : Nat) : Value := .agg (wa n)

theorem wa_congr {m n : Nat} (h : m % M = n % M) : wa m = wa n := by
  obtain ⟨h0, h1, h2, h3⟩ := parts_congr h
  unfold wa; rw [h0, h1, h2, h3]
theorem wa_inj {m n : Nat} (h : wa m = wa n) : m % M = n % M := by
  unfold wa at h
  simp only [Array.mk.injEq, List.cons.injEq, Value.int.injEq, true_and, and_true] at h
  obtain ⟨h0, h1, h2, h3⟩ := h
  exact congr_parts (by omega) (by omega) (by omega) (by omega)
theorem wd_congr {m n : Nat} (h : m % M = n % M) : wd m = wd n := congrArg Value.agg (wa_congr h)
theorem wd_num {a b c d : Nat} (ha : a < B) (hb : b < B) (hc : c < B) (hd : d < B) :
    wd (num a b c d) = .agg #[.int .u64 (a : Int), .int .u64 (b : Int), .int .u64 (c : Int), .int .u64 (d : Int)] := by
  obtain ⟨h0, h1, h2, h3⟩ := parts_num ha hb hc hd
  unfold wd wa; rw [h0, h1, h2, h3]
theorem wd_inj {m n : Nat} (h : wd m = wd n) : m % M = n % M := wa_inj (Value.agg.inj h)

def sub64Entry : Array Value → Sem Value := fun args => do
  let (x, y, b) ← Extern.MathBitsCarry.three "Sub64" args
  pure (Extern.MathBitsCarry.pair ((x + Extern.MathBitsCarry.m64 - y - b) % Extern.MathBitsCarry.m64) (if x < y + b then 1 else 0))
end Go.Proofs.YtnjeoeekidnffaaGreat
/- Laws of the model that this seat's proofs lean on: arrays of integers by value (equality, whole loads), and regions whose operations read, and call functions that only make new memory. -/
namespace Go.Proofs.YtnjeoeekidnffaaGreat
open Go.RowKit SmWord
set_option maxRecDepth 100000

/-- A world in which all that lay in w lies as it lay. -/
structure Ext (w : World) where
  on : World
  below : Below w.heap.size w on

instance (w : World) : Nonempty (Ext w) := ⟨⟨w, Below.refl _ _⟩⟩

theorem region_ext {P : Program} {id : Nat} {Q : Exit → Act → World → Prop} {a : Act} {w : World} {l : List Oper} (hm : P.follows .mixedOrders = true) (hB : Region.lexB .any l.toArray = true)
    (h : wpQuiet P l.toArray (fun w' => ∃ g : Ext w, w' = g.on) (fun a' => ∀ w', (∃ g : Ext w, w' = g.on) → Q .normal a' w') l a) : (Code.region id l.toArray true).wp P Q a w :=
  wp_region_quiet (C := fun w' => ∃ g : Ext w, w' = g.on) hm hB ⟨⟨w.drew, (Below.refl _ _).drew⟩, rfl⟩ (by simpa using h)

theorem calls_ext {P : Program} {f : FuncId} {args : Array Value} {w : World} {g : Ext w} {v : Value}
    (h : Calls P f args g.on fun e w' => e = .returned v ∧ Below g.on.heap.size g.on w') : Calls P f args g.on fun e w'' => e = .returned v ∧ ∃ g' : Ext w, w'' = g'.on :=
  h.mono fun _ w'' ⟨he, hb⟩ => ⟨he, ⟨w'', g.below.trans (hb.mono g.below.size)⟩, rfl⟩

theorem Ext.block {w : World} (g : Ext w) {b : Nat} {o : Obj} (hb : w.heap[b]? = some o) : g.on.heap[b]? = some o := by
  rw [g.below.block b (Array.getElem?_eq_some_iff.1 hb).1, hb]

theorem load_row {P : Program} (w : World) (b : Nat) (t : TypeId) (c : Array Value) (fr : Nat × Nat) (n : Nat) (hn : c.size = n) (hb : w.heap[b]? = some (.cells c t fr)) :
    (loadCellsFrom ⟨b, 0, none⟩ 0 n #[]).run P w = .ok c w := by
  subst hn
  have := run_loadCells_list (P := P) w ⟨b, 0, none⟩ c.toList (fun j v hv => by
    have hadd : (⟨b, 0, none⟩ : Addr).add j = ⟨b, j, none⟩ := by unfold Addr.add; split <;> simp_all
    rw [hadd, cell_of_row _ _ j c t fr hb]
    simpa using hv)
  simpa [loadCells] using this

/-- Arrays of integers, compared. -/
theorem eqItems_ints {P : Program} {e : TypeId} {k k' : IntKind} (he : P.underlying e = some (.int k')) (d : Nat) (xs ys : Array Value) (w : World) : ∀ is : List Nat,
    (∀ i ∈ is, ∃ a b : Int, xs[i]? = some (.int k a) ∧ ys[i]? = some (.int k b)) →
    ∃ r : Bool, (Op.eqItems (d + 1) e 1 xs ys is).run P w = .ok r w ∧ (r = true ↔ ∀ i ∈ is, xs[i]? = ys[i]?)
  | [], _ => ⟨true, by simp [Op.eqItems], by simp⟩
  | i :: is, h => by
    obtain ⟨a, b, ha, hb⟩ := h i (by simp)
    obtain ⟨r, hr, hiff⟩ := eqItems_ints he d xs ys w is (fun j hj => h j (by simp [hj]))
    have hp : P.plainKey e = true := by unfold Program.plainKey; simp [he]
    have p1 : (part e xs (i * 1)).run P w = .ok (.int k a) w := run_part_plain w hp (by simpa using ha)
    have p2 : (part e ys (i * 1)).run P w = .ok (.int k b) w := run_part_plain w hp (by simpa using hb)
    simp only [Op.eqItems, Sem.run_bind, p1, p2, Result.andThen_ok, run_equalIn_int w d e k k' a b he]
    by_cases hab : a = b
    · subst hab
      refine ⟨r, by simpa using hr, ?_⟩
      rw [hiff]
      simp [ha, hb]
    · refine ⟨false, by simp [hab], ?_⟩
      simp [ha, hb, hab]

theorem equal_ints {P : Program} {t e : TypeId} {n : Nat} {k k' : IntKind} (hu : P.underlying t = some (.array n e)) (he : P.underlying e = some (.int k')) (hc : P.cellsOf e = 1)
    (xs ys : Array Value) (hx : xs.size = n) (hy : ys.size = n) (h : ∀ i, i < n → ∃ a b : Int, xs[i]? = some (.int k a) ∧ ys[i]? = some (.int k b)) (w : World) :
    ∃ r : Bool, (Op.equalIn 10000 t (.agg xs) (.agg ys)).run P w = .ok r w ∧ (r = true ↔ xs = ys) := by
  obtain ⟨i, hi⟩ := info_of_underlying he
  obtain ⟨r, hr, hiff⟩ := eqItems_ints he 9998 xs ys w (List.range n) (fun j hj => h j (List.mem_range.1 hj))
  refine ⟨r, by rw [show (10000 : Nat) = 9999 + 1 from rfl, run_equalIn_array w 9999 xs ys hu hi, hc]; exact hr, hiff.trans ⟨fun H => ?_, fun H => by simp [H]⟩⟩
  apply Array.ext_getElem?
  intro j
  by_cases hj : j < n
  · exact H j (List.mem_range.2 hj)
  · rw [Array.getElem?_eq_none (by omega), Array.getElem?_eq_none (by omega)]

theorem Tryz.cells42 : Tryz.prog.cellsOf 42 = 1 := by kernel_rfl
theorem wa_size (n : Nat) : (wa n).size = 4 := rfl
theorem wa_get (n : Nat) (i : Nat) (hi : i < 4) : ∃ a : Int, (wa n)[i]? = some (.int .u64 a) := by
  have : i = 0 ∨ i = 1 ∨ i = 2 ∨ i = 3 := by omega
  rcases this with rfl | rfl | rfl | rfl
  · exact ⟨_, rfl⟩
  · exact ⟨_, rfl⟩
  · exact ⟨_, rfl⟩
  · exact ⟨_, rfl⟩
theorem equal_wa (m n : Nat) (w : World) : (Op.equalIn 10000 44 (.agg (wa m)) (.agg (wa n))).run Tryz.prog w = .ok (decide (m % M = n % M)) w := by
  obtain ⟨r, hr, hiff⟩ := equal_ints (k := .u64) Tryz.underlying44 Tryz.underlying42 Tryz.cells42 (wa m) (wa n) (wa_size m) (wa_size n) (fun i hi => by
    obtain ⟨a, ha⟩ := wa_get m i hi
    obtain ⟨b, hb⟩ := wa_get n i hi
    exact ⟨a, b, ha, hb⟩) w
  rw [hr]
  congr 1
  rw [Bool.eq_iff_iff, hiff, decide_eq_true_iff]
  exact ⟨wa_inj, wa_congr⟩
end Go.Proofs.YtnjeoeekidnffaaGreat
/- A law of the model: a region that draws its order, whose first operations read, or call functions that only make new memory, and whose others make new variables and fill them: whatever the order, it comes to one frame, but for where the new variables lie. -/
namespace Go.Proofs.YtnjeoeekidnffaaGreat
open Go.RowKit
set_option maxRecDepth 100000

section
variable {P : Program} {ops : Array Oper} {Q : Exit → Act → World → Prop}

theorem mem_ready' {md : Region.Mode} {listed : Array Bool} {i : Nat} (h : i ∈ Region.ready md ops listed) :
    listed.getD i true = false ∧ ∃ o, ops[i]? = some o ∧ ∀ e ∈ o.after, Region.binds md e = true → listed.getD e.on false = true := mem_ready.1 h

/-- What holds at the start and is handed on by each operation that may come up holds at the end. -/
theorem wpAny_inv {md : Region.Mode} {J : Array Bool → Act → World → Prop} (hend : ∀ listed a w, J listed a w → (∀ i, i < ops.size → listed.getD i false = true) → Q .normal a w)
    (hsz : ∀ listed a w, J listed a w → listed.size = ops.size)
    (hall : ∀ listed a w, J listed a w → Region.ready md ops listed = [] → ∀ i, i < ops.size → listed.getD i false = true)
    (hstep : ∀ listed a w i o, J listed a w → i ∈ Region.ready md ops listed → ops[i]? = some o → wpOp P ops Q i (J (listed.setIfInBounds i true)) a w) :
    ∀ (fuel : Nat) (listed : Array Bool) (a : Act) (w : World), listed.toList.count false ≤ fuel → J listed a w → wpAny P md ops Q fuel listed a w := by
  intro fuel
  induction fuel with
  | zero =>
    intro listed a w hc hJ
    have hr : Region.ready md ops listed = [] := by
      apply List.eq_nil_iff_forall_not_mem.2
      intro i hi
      obtain ⟨h1, o, ho, _⟩ := mem_ready' hi
      have hlt : i < listed.size := by rw [hsz _ _ _ hJ]; exact (Array.getElem?_eq_some_iff.1 ho).1
      have : false ∈ listed.toList := by
        simp [hlt] at h1
        rw [← h1]
        exact Array.getElem_mem_toList hlt
      have := List.count_pos_iff.2 this
      omega
    exact ⟨hr, hend _ _ _ hJ (hall _ _ _ hJ hr)⟩
  | succ fuel ih =>
    intro listed a w hc hJ
    refine ⟨fun hr => hend _ _ _ hJ (hall _ _ _ hJ hr), fun i hi => ?_⟩
    obtain ⟨h1, o, ho, _⟩ := mem_ready' hi
    have hlt : i < listed.size := by rw [hsz _ _ _ hJ]; exact (Array.getElem?_eq_some_iff.1 ho).1
    have hl : listed[i] = false := by simpa [hlt] using h1
    refine wpOp_mono (fun a' w' hJ' => ih _ a' w' ?_ hJ') (hstep _ _ _ i o hJ hi ho)
    have hcnt : (listed.setIfInBounds i true).toList.count false + 1 = listed.toList.count false := by
      rw [Array.toList_setIfInBounds]
      have hl' : listed.toList[i] = false := by simpa using hl
      have hlt' : i < listed.toList.length := by simpa using hlt
      have hp : 0 < List.count false listed.toList := List.count_pos_iff.2 (by rw [← hl']; exact List.getElem_mem hlt')
      rw [List.count_set hlt', hl', if_pos (by rfl), if_neg (by decide)]
      omega
    omega

/-- The frame a is a0 but for what the operations in L have written: V. -/
structure Fr (ops : Array Oper) (a0 : Act) (L : Nat → Prop) (V : Nat → Value) (a : Act) : Prop where
  defers : a.defers = a0.defers
  size : a.tmps.size = a0.tmps.size
  done : ∀ j o s, ops[j]? = some o → o.dst = some s → L j → s < a0.tmps.size → a.tmps[s]? = some (V j)
  rest : ∀ s, (∀ j o, ops[j]? = some o → L j → o.dst ≠ some s) → a.tmps[s]? = a0.tmps[s]?

/-- No two operations write one slot. -/
def Once (ops : Array Oper) : Prop := ∀ (i j : Nat) (oi oj : Oper) (s : Tmp), ops[i]? = some oi → ops[j]? = some oj → oi.dst = some s → oj.dst = some s → i = j

theorem Fr.start (a0 : Act) (V : Nat → Value) : Fr ops a0 (fun _ => False) V a0 := ⟨rfl, rfl, fun _ _ _ _ _ h => h.elim, fun _ _ => rfl⟩
theorem Fr.congr {a0 a : Act} {L L' : Nat → Prop} {V V' : Nat → Value} (h : Fr ops a0 L V a) (hL : ∀ j, j < ops.size → (L j ↔ L' j)) (hV : ∀ j, L j → V j = V' j) : Fr ops a0 L' V' a :=
  ⟨h.defers, h.size, fun j o s hj hs hl hlt => by
      have hjs := (Array.getElem?_eq_some_iff.1 hj).1
      rw [← hV j ((hL j hjs).2 hl)]; exact h.done j o s hj hs ((hL j hjs).2 hl) hlt,
    fun s hs => h.rest s fun j o hj hl => hs j o hj ((hL j (Array.getElem?_eq_some_iff.1 hj).1).1 hl)⟩
theorem Fr.put (hO : Once ops) {a0 a : Act} {L : Nat → Prop} {V : Nat → Value} (h : Fr ops a0 L V a) {i : Nat} {o : Oper} (hi : ops[i]? = some o) :
    Fr ops a0 (fun j => L j ∨ j = i) V (a.put o.dst (V i)) := by
  cases hd : o.dst with
  | none =>
    refine ⟨h.defers, h.size, fun j oj s hj hs hl hlt => ?_, fun s hs => h.rest s fun j oj hj hl => hs j oj hj (Or.inl hl)⟩
    rcases hl with hl | rfl
    · exact h.done j oj s hj hs hl hlt
    · rw [hi] at hj; cases hj; rw [hd] at hs; cases hs
  | some d =>
    refine ⟨h.defers, by simp [Act.put, h.size], fun j oj s hj hs hl hlt => ?_, fun s hs => ?_⟩
    · by_cases hji : j = i
      · subst hji
        rw [hi] at hj; cases hj
        rw [hd] at hs; cases hs
        simp only [Act.put]
        rw [Array.getElem?_setIfInBounds_self_of_lt (by rw [h.size]; exact hlt)]
      · have hne : d ≠ s := fun e => hji (hO j i oj o s hj hi hs (e ▸ hd))
        simp only [Act.put]
        rw [Array.getElem?_setIfInBounds_ne hne]
        exact h.done j oj s hj hs (hl.resolve_right hji) hlt
    · have hne : d ≠ s := fun e => hs i o hi (Or.inr rfl) (e ▸ hd)
      simp only [Act.put]
      rw [Array.getElem?_setIfInBounds_ne hne]
      exact h.rest s fun j oj hj hl => hs j oj hj (Or.inl hl)
theorem Fr.agree {a0 a a' : Act} {L L' : Nat → Prop} {V : Nat → Value} (h : Fr ops a0 L V a) (h' : Fr ops a0 L' V a') {s : Nat} (hs : ∀ j o, ops[j]? = some o → o.dst = some s → (L j ↔ L' j)) : a.tmps[s]? = a'.tmps[s]? := by
  by_cases hex : ∃ j o, ops[j]? = some o ∧ o.dst = some s ∧ L j
  · obtain ⟨j, o, hj, hd, hl⟩ := hex
    by_cases hlt : s < a0.tmps.size
    · rw [h.done j o s hj hd hl hlt, h'.done j o s hj hd ((hs j o hj hd).1 hl) hlt]
    · rw [Array.getElem?_eq_none (by rw [h.size]; omega), Array.getElem?_eq_none (by rw [h'.size]; omega)]
  · rw [h.rest s fun j o hj hl hd => hex ⟨j, o, hj, hd, hl⟩, h'.rest s fun j o hj hl hd => hex ⟨j, o, hj, hd, (hs j o hj hd).2 hl⟩]
theorem Fr.ext {a0 a a' : Act} {L : Nat → Prop} {V : Nat → Value} (h : Fr ops a0 L V a) (h' : Fr ops a0 L V a') : a = a' := by
  obtain ⟨t, d⟩ := a
  obtain ⟨t', d'⟩ := a'
  have e1 : d = d' := h.defers.trans h'.defers.symm
  have e2 : t = t' := Array.ext_getElem? fun s => h.agree h' fun _ _ _ _ => Iff.rfl
  rw [e1, e2]
end
end Go.Proofs.YtnjeoeekidnffaaGreat
