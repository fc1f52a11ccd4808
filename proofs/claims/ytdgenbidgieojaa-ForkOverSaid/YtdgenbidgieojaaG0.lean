/- Plain arithmetic on the four parts of a word: no program is named here. -/
import Derived.Laws.BitsAllLaws
namespace Go.Proofs.Ytdgenbidgieojaa.SmWord

/-- 2^64 -/
abbrev B : Nat := 18446744073709551616
/-- 2^256 -/
def M : Nat := 115792089237316195423570985008687907853269984665640564039457584007913129639936

theorem M_eq : M = B * B * B * B := by decide

def l0 (n : Nat) : Nat := n % B
def l1 (n : Nat) : Nat := n / B % B
def l2 (n : Nat) : Nat := n / B / B % B
def l3 (n : Nat) : Nat := n / B / B / B % B

theorem l_lt (n : Nat) : l0 n < B ∧ l1 n < B ∧ l2 n < B ∧ l3 n < B := by
  unfold l0 l1 l2 l3
  exact ⟨Nat.mod_lt _ (by decide), Nat.mod_lt _ (by decide), Nat.mod_lt _ (by decide), Nat.mod_lt _ (by decide)⟩

/-- A number out of its four parts. -/
def num (a b c d : Nat) : Nat := a + B * (b + B * (c + B * d))

theorem parts_num {a b c d : Nat} (ha : a < B) (hb : b < B) (hc : c < B) (hd : d < B) :
    l0 (num a b c d) = a ∧ l1 (num a b c d) = b ∧ l2 (num a b c d) = c ∧ l3 (num a b c d) = d := by
  unfold l0 l1 l2 l3 num
  have h1 : (a + B * (b + B * (c + B * d))) / B = b + B * (c + B * d) := by
    rw [Nat.add_mul_div_left _ _ (by decide), Nat.div_eq_of_lt ha, Nat.zero_add]
  have h2 : (b + B * (c + B * d)) / B = c + B * d := by
    rw [Nat.add_mul_div_left _ _ (by decide), Nat.div_eq_of_lt hb, Nat.zero_add]
  have h3 : (c + B * d) / B = d := by
    rw [Nat.add_mul_div_left _ _ (by decide), Nat.div_eq_of_lt hc, Nat.zero_add]
  rw [h1, h2, h3]
  refine ⟨?_, ?_, ?_, Nat.mod_eq_of_lt hd⟩
  · rw [Nat.add_mul_mod_self_left]; exact Nat.mod_eq_of_lt ha
  · rw [Nat.add_mul_mod_self_left]; exact Nat.mod_eq_of_lt hb
  · rw [Nat.add_mul_mod_self_left]; exact Nat.mod_eq_of_lt hc

theorem num_parts (n : Nat) : num (l0 n) (l1 n) (l2 n) (l3 n) = n % M := by
  have hM : M = B * (B * (B * B)) := by decide
  unfold num l0 l1 l2 l3
  rw [hM, Nat.mod_mul, Nat.mod_mul, Nat.mod_mul]

theorem num_lt {a b c d : Nat} (ha : a < B) (hb : b < B) (hc : c < B) (hd : d < B) : num a b c d < M := by
  have h := parts_num ha hb hc hd
  have h2 := num_parts (num a b c d)
  rw [h.1, h.2.1, h.2.2.1, h.2.2.2] at h2
  rw [h2]; exact Nat.mod_lt _ (by decide)

theorem parts_congr {m n : Nat} (h : m % M = n % M) : l0 m = l0 n ∧ l1 m = l1 n ∧ l2 m = l2 n ∧ l3 m = l3 n := by
  have k : ∀ x : Nat, l0 (x % M) = l0 x ∧ l1 (x % M) = l1 x ∧ l2 (x % M) = l2 x ∧ l3 (x % M) = l3 x := fun x => by
    rw [← num_parts x]
    have := l_lt x
    exact parts_num this.1 this.2.1 this.2.2.1 this.2.2.2
  have hm := k m
  have hn := k n
  rw [h] at hm
  exact ⟨hm.1.symm.trans hn.1, hm.2.1.symm.trans hn.2.1, hm.2.2.1.symm.trans hn.2.2.1, hm.2.2.2.symm.trans hn.2.2.2⟩

theorem congr_parts {m n : Nat} (h0 : l0 m = l0 n) (h1 : l1 m = l1 n) (h2 : l2 m = l2 n) (h3 : l3 m = l3 n) : m % M = n % M := by
  rw [← num_parts m, ← num_parts n, h0, h1, h2, h3]

theorem mod_cancel {x k n m : Nat} (h : (x + n % M) % M = m % M) (hk : (k + n) % M = m % M) : x % M = k % M := by
  have a : ∀ y : Nat, y % M = ((y + n % M) % M + (M - n % M)) % M := fun y => by
    have : n % M < M := Nat.mod_lt _ (by decide)
    rw [Nat.mod_add_mod, show y + n % M + (M - n % M) = y + M by omega, Nat.add_mod_right]
  rw [a x, a k, h, ← hk, Nat.add_mod_mod]

/-! Sums -/
def lo (x y c : Nat) : Nat := (x + y + c) % B
def hi (x y c : Nat) : Nat := (x + y + c) / B
theorem hi_le {x y c : Nat} (hx : x < B) (hy : y < B) (hc : c ≤ 1) : hi x y c ≤ 1 := by
  unfold hi; simp only [B] at *; omega
theorem lo_lt (x y c : Nat) : lo x y c < B := Nat.mod_lt _ (by decide)
theorem lo_hi (x y c : Nat) : lo x y c + B * hi x y c = x + y + c := Nat.mod_add_div _ _

theorem add_num (a0 a1 a2 a3 b0 b1 b2 b3 : Nat) :
    num (lo a0 b0 0) (lo a1 b1 (hi a0 b0 0)) (lo a2 b2 (hi a1 b1 (hi a0 b0 0))) (lo a3 b3 (hi a2 b2 (hi a1 b1 (hi a0 b0 0)))) % M = (num a0 a1 a2 a3 + num b0 b1 b2 b3) % M := by
  have e0 := lo_hi a0 b0 0
  generalize lo a0 b0 0 = r0 at *
  generalize hi a0 b0 0 = c0 at *
  have e1 := lo_hi a1 b1 c0
  generalize lo a1 b1 c0 = r1 at *
  generalize hi a1 b1 c0 = c1 at *
  have e2 := lo_hi a2 b2 c1
  generalize lo a2 b2 c1 = r2 at *
  generalize hi a2 b2 c1 = c2 at *
  have e3 := lo_hi a3 b3 c2
  generalize lo a3 b3 c2 = r3 at *
  generalize hi a3 b3 c2 = c3 at *
  have hM : M = B * (B * (B * B)) := by decide
  have : num a0 a1 a2 a3 + num b0 b1 b2 b3 = num r0 r1 r2 r3 + M * c3 := by
    unfold num
    rw [hM]
    simp only [B] at *
    omega
  rw [this, Nat.add_mul_mod_self_left]

/-! Differences -/
def dlo (x y c : Nat) : Nat := (x + B - y - c) % B
def dhi (x y c : Nat) : Nat := if x < y + c then 1 else 0
theorem dhi_le (x y c : Nat) : dhi x y c ≤ 1 := by unfold dhi; split <;> omega
theorem dlo_lt (x y c : Nat) : dlo x y c < B := Nat.mod_lt _ (by decide)
theorem dlo_dhi {x y c : Nat} (hx : x < B) (hy : y < B) (hc : c ≤ 1) : dlo x y c + y + c = x + B * dhi x y c := by
  unfold dlo dhi
  simp only [B] at *
  split <;> omega

theorem sub_num {a0 a1 a2 a3 b0 b1 b2 b3 : Nat} (ha0 : a0 < B) (ha1 : a1 < B) (ha2 : a2 < B) (ha3 : a3 < B) (hb0 : b0 < B) (hb1 : b1 < B) (hb2 : b2 < B) (hb3 : b3 < B) :
    (num (dlo a0 b0 0) (dlo a1 b1 (dhi a0 b0 0)) (dlo a2 b2 (dhi a1 b1 (dhi a0 b0 0))) (dlo a3 b3 (dhi a2 b2 (dhi a1 b1 (dhi a0 b0 0)))) + num b0 b1 b2 b3) % M = num a0 a1 a2 a3 % M := by
  have e0 := dlo_dhi ha0 hb0 (c := 0) (by omega)
  have f0 := dhi_le a0 b0 0
  generalize dlo a0 b0 0 = r0 at *
  generalize dhi a0 b0 0 = c0 at *
  have e1 := dlo_dhi ha1 hb1 f0
  have f1 := dhi_le a1 b1 c0
  generalize dlo a1 b1 c0 = r1 at *
  generalize dhi a1 b1 c0 = c1 at *
  have e2 := dlo_dhi ha2 hb2 f1
  have f2 := dhi_le a2 b2 c1
  generalize dlo a2 b2 c1 = r2 at *
  generalize dhi a2 b2 c1 = c2 at *
  have e3 := dlo_dhi ha3 hb3 f2
  generalize dlo a3 b3 c2 = r3 at *
  generalize dhi a3 b3 c2 = c3 at *
  have hM : M = B * (B * (B * B)) := by decide
  have : num r0 r1 r2 r3 + num b0 b1 b2 b3 = num a0 a1 a2 a3 + M * c3 := by
    unfold num
    rw [hM]
    simp only [B] at *
    omega
  rw [this, Nat.add_mul_mod_self_left]
/-! Products -/
theorem mul_expand (B a0 a1 a2 a3 b0 b1 b2 b3 : Nat) : (a0 + B * (a1 + B * (a2 + B * a3))) * (b0 + B * (b1 + B * (b2 + B * b3))) =
    a0 * b0 + B * (a0 * b1 + a1 * b0) + B * B * (a0 * b2 + a1 * b1 + a2 * b0) + B * B * B * (a0 * b3 + a1 * b2 + a2 * b1 + a3 * b0) + B * B * B * B * (a1 * b3 + a2 * b2 + a3 * b1 + B * (a2 * b3 + a3 * b2 + B * (a3 * b3))) := by grind

def mh (x y m n : Nat) : Nat := (x * y + m + n) / B
def ml (x y m n : Nat) : Nat := (x * y + m + n) % B
theorem ml_mh (x y m n : Nat) : ml x y m n + B * mh x y m n = x * y + m + n := Nat.mod_add_div _ _
theorem ml_lt (x y m n : Nat) : ml x y m n < B := Nat.mod_lt _ (by decide)
theorem mh_lt {x y m n : Nat} (hx : x < B) (hy : y < B) (hm : m < B) (hn : n < B) : mh x y m n < B := by
  unfold mh
  rw [Nat.div_lt_iff_lt_mul (by decide)]
  have h1 : x * y ≤ (B - 1) * (B - 1) := Nat.mul_le_mul (by omega) (by omega)
  have h2 : (B - 1) * (B - 1) + (B - 1) + (B - 1) < B * B := by decide
  omega

theorem mul_num {a0 a1 a2 a3 b0 b1 b2 b3 p00 p01 p02 p03 p10 p11 p12 p20 p21 p30 c00 c01 c02 c03 c10 c11 c12 c20 c21 c30 : Nat}
    (e00 : p00 + B * c00 = a0 * b0 + 0 + 0) (e01 : p01 + B * c01 = a0 * b1 + 0 + c00) (e02 : p02 + B * c02 = a0 * b2 + 0 + c01) (e03 : p03 + B * c03 = a0 * b3 + 0 + c02)
    (e10 : p10 + B * c10 = a1 * b0 + p01 + 0) (e11 : p11 + B * c11 = a1 * b1 + p02 + c10) (e12 : p12 + B * c12 = a1 * b2 + p03 + c11)
    (e20 : p20 + B * c20 = a2 * b0 + p11 + 0) (e21 : p21 + B * c21 = a2 * b1 + p12 + c20)
    (e30 : p30 + B * c30 = a3 * b0 + p21 + 0) :
    num p00 p10 p20 p30 % M = (num a0 a1 a2 a3 * num b0 b1 b2 b3) % M := by
  have hM : M = B * B * B * B := by decide
  have : num a0 a1 a2 a3 * num b0 b1 b2 b3 = num p00 p10 p20 p30 + M * (c03 + c12 + c21 + c30 + (a1 * b3 + a2 * b2 + a3 * b1 + B * (a2 * b3 + a3 * b2 + B * (a3 * b3)))) := by
    unfold num
    rw [mul_expand, hM]
    generalize a1 * b3 + a2 * b2 + a3 * b1 + B * (a2 * b3 + a3 * b2 + B * (a3 * b3)) = R
    generalize a0 * b0 = x00 at *
    generalize a0 * b1 = x01 at *
    generalize a0 * b2 = x02 at *
    generalize a0 * b3 = x03 at *
    generalize a1 * b0 = x10 at *
    generalize a1 * b1 = x11 at *
    generalize a1 * b2 = x12 at *
    generalize a2 * b0 = x20 at *
    generalize a2 * b1 = x21 at *
    generalize a3 * b0 = x30 at *
    simp only [B] at *
    omega
  rw [this, Nat.add_mul_mod_self_left]

theorem mulAdd_num {x y m n : Nat} :
    lo (lo (x * y % B) m 0) n 0 = ml x y m n ∧ x * y / B + hi (x * y % B) m 0 + hi (lo (x * y % B) m 0) n 0 = mh x y m n := by
  unfold lo hi ml mh
  generalize x * y = q
  simp only [B]
  omega

theorem not_num {a b c d n : Nat} (ha : a < B) (hb : b < B) (hc : c < B) (hd : d < B) (h : num a b c d = n % M) : M - 1 - n % M = num (B - 1 - a) (B - 1 - b) (B - 1 - c) (B - 1 - d) := by
  rw [← h]
  unfold num
  have hM : M = B * (B * (B * B)) := by decide
  rw [hM]
  simp only [B] at *
  omega
/-! Shifts -/
theorem B_split {r : Nat} (hr : r ≤ 64) : 2 ^ (64 - r) * 2 ^ r = B := by
  rw [← Nat.pow_add, show 64 - r + r = 64 by omega]
def slo (a r : Nat) : Nat := a * 2 ^ r % B
def shi (a r : Nat) : Nat := a / 2 ^ (64 - r)
theorem slo_shi (a : Nat) {r : Nat} (hr : r ≤ 64) : slo a r + B * shi a r = a * 2 ^ r := by
  have h : shi a r = a * 2 ^ r / B := by
    rw [← B_split hr, Nat.mul_div_mul_right _ _ (Nat.two_pow_pos r)]; rfl
  rw [h]; exact Nat.mod_add_div _ _
theorem shi_lt {a r : Nat} (ha : a < B) (hr : r ≤ 64) : shi a r < 2 ^ r := by
  unfold shi
  rw [Nat.div_lt_iff_lt_mul (Nat.two_pow_pos _), Nat.mul_comm, B_split hr]; exact ha
theorem slo_mod {a r : Nat} (hr : r ≤ 64) : slo a r % 2 ^ r = 0 := by
  unfold slo
  rw [← B_split hr, Nat.mul_mod_mul_right]; exact Nat.mul_mod_left _ _
theorem slo_lt (a r : Nat) : slo a r < B := Nat.mod_lt _ (by decide)
theorem shl_or {a b r : Nat} (hb : b < B) (hr : r ≤ 64) : slo a r ||| shi b r = slo a r + shi b r ∧ slo a r + shi b r < B := by
  have h := Go.nat_join r (slo a r) (shi b r) (slo_mod hr) (shi_lt hb hr)
  refine ⟨h, ?_⟩
  rw [← h]
  exact Nat.or_lt_two_pow (n := 64) (slo_lt a r) (Nat.lt_of_lt_of_le (shi_lt hb hr) (Nat.pow_le_pow_right (by decide) hr))

theorem shl_num (a0 a1 a2 a3 : Nat) {r : Nat} (hr : r ≤ 64) :
    num (slo a0 r) (slo a1 r + shi a0 r) (slo a2 r + shi a1 r) (slo a3 r + shi a2 r) % M = (num a0 a1 a2 a3 * 2 ^ r) % M := by
  have hM : M = B * (B * (B * B)) := by decide
  have e0 := slo_shi a0 hr
  have e1 := slo_shi a1 hr
  have e2 := slo_shi a2 hr
  have e3 := slo_shi a3 hr
  have : num a0 a1 a2 a3 * 2 ^ r = num (slo a0 r) (slo a1 r + shi a0 r) (slo a2 r + shi a1 r) (slo a3 r + shi a2 r) + M * shi a3 r := by
    have ex : num a0 a1 a2 a3 * 2 ^ r = num (a0 * 2 ^ r) (a1 * 2 ^ r) (a2 * 2 ^ r) (a3 * 2 ^ r) := by
      unfold num; generalize 2 ^ r = p; generalize B = b; grind
    rw [ex, ← e0, ← e1, ← e2, ← e3, hM]
    unfold num
    simp only [B]
    omega
  rw [this, Nat.add_mul_mod_self_left]

theorem num_up (x0 x1 x2 x3 : Nat) : num 0 x0 x1 x2 % M = (num x0 x1 x2 x3 * B) % M := by
  have hM : M = B * (B * (B * B)) := by decide
  have : num x0 x1 x2 x3 * B = num 0 x0 x1 x2 + M * x3 := by
    rw [hM]; unfold num; simp only [B]; omega
  rw [this, Nat.add_mul_mod_self_left]

theorem num_up' {x0 x1 x2 x3 z : Nat} (h : num x0 x1 x2 x3 % M = z % M) : num 0 x0 x1 x2 % M = (z * B) % M := by
  rw [num_up x0 x1 x2 x3, Nat.mul_mod, h, ← Nat.mul_mod]

/-! down -/
def down (a b r : Nat) : Nat := a / 2 ^ r + b % 2 ^ r * 2 ^ (64 - r)
theorem down_or {a b r : Nat} (ha : a < B) (hr : r ≤ 64) : a / 2 ^ r ||| b * 2 ^ (64 - r) % B = down a b r ∧ down a b r < B := by
  have e : b * 2 ^ (64 - r) % B = b % 2 ^ r * 2 ^ (64 - r) := by
    rw [← B_split hr, Nat.mul_comm (2 ^ (64 - r)) (2 ^ r), Nat.mul_mod_mul_right]
  have hl : a / 2 ^ r < 2 ^ (64 - r) := by
    rw [Nat.div_lt_iff_lt_mul (Nat.two_pow_pos _), B_split hr]; exact ha
  have h := Go.nat_join (64 - r) (b % 2 ^ r * 2 ^ (64 - r)) (a / 2 ^ r) (Nat.mul_mod_left _ _) hl
  have h2 : a / 2 ^ r ||| b * 2 ^ (64 - r) % B = down a b r := by
    rw [e, Nat.or_comm, h, Nat.add_comm]; rfl
  refine ⟨h2, ?_⟩
  rw [← h2]
  exact Nat.or_lt_two_pow (n := 64) (Nat.lt_of_lt_of_le hl (Nat.pow_le_pow_right (by decide) (by omega))) (Nat.mod_lt _ (by decide))

theorem shr_num (a0 a1 a2 a3 : Nat) {r : Nat} (hr : r ≤ 64) :
    num (down a0 a1 r) (down a1 a2 r) (down a2 a3 r) (down a3 0 r) = num a0 a1 a2 a3 / 2 ^ r := by
  have hB := B_split hr
  have hp := Nat.two_pow_pos r
  have d0 := Nat.div_add_mod a0 (2 ^ r)
  have d1 := Nat.div_add_mod a1 (2 ^ r)
  have d2 := Nat.div_add_mod a2 (2 ^ r)
  have d3 := Nat.div_add_mod a3 (2 ^ r)
  have l0 : a0 % 2 ^ r < 2 ^ r := Nat.mod_lt _ hp
  have key : 2 ^ r * num (down a0 a1 r) (down a1 a2 r) (down a2 a3 r) (down a3 0 r) + a0 % 2 ^ r = num a0 a1 a2 a3 := by
    unfold down num
    rw [Nat.zero_mod, Nat.zero_mul]
    generalize a0 / 2 ^ r = x0 at *
    generalize a1 / 2 ^ r = x1 at *
    generalize a2 / 2 ^ r = x2 at *
    generalize a3 / 2 ^ r = x3 at *
    generalize a0 % 2 ^ r = y0 at *
    generalize a1 % 2 ^ r = y1 at *
    generalize a2 % 2 ^ r = y2 at *
    generalize a3 % 2 ^ r = y3 at *
    generalize 2 ^ (64 - r) = s at *
    generalize 2 ^ r = p at *
    generalize B = b at *
    subst hB
    rw [← d0, ← d1, ← d2, ← d3]
    grind
  rw [← key, Nat.mul_add_div hp, Nat.div_eq_of_lt l0, Nat.add_zero]
theorem num_down {a0 a1 a2 a3 : Nat} (h0 : a0 < B) : num a0 a1 a2 a3 / B = num a1 a2 a3 0 := by
  unfold num
  rw [Nat.add_mul_div_left _ _ (by decide), Nat.div_eq_of_lt h0]
  simp only [B]; omega
end Go.Proofs.Ytdgenbidgieojaa.SmWord
/- Plain arithmetic on digits to the base 256. -/
namespace Go.Proofs.Ytdgenbidgieojaa.SmWord

def dig (n i : Nat) : Nat := n / 256 ^ i % 256
def lb (n i : Nat) : Nat := n / B ^ i % B
theorem dig_lt (n i : Nat) : dig n i < 256 := Nat.mod_lt _ (by decide)
theorem B_256 : B = 256 ^ 8 := by decide
theorem M_256 : M = 256 ^ 32 := by decide
theorem lb_dig (m k : Nat) : lb m (k / 8) / 2 ^ (8 * (k % 8)) % 256 = dig m k := by
  unfold lb dig
  have h8 : k % 8 < 8 := Nat.mod_lt _ (by decide)
  have e1 : (2 : Nat) ^ (8 * (k % 8)) = 256 ^ (k % 8) := by rw [Nat.pow_mul]
  have e2 : B = 256 ^ (k % 8) * 256 ^ (8 - k % 8) := by rw [← Nat.pow_add, B_256]; congr 1; omega
  have e3 : (256 : Nat) ^ (8 - k % 8) = 256 * 256 ^ (7 - k % 8) := by rw [← Nat.pow_succ']; congr 1; omega
  have e4 : B ^ (k / 8) * 256 ^ (k % 8) = 256 ^ k := by rw [B_256, ← Nat.pow_mul, ← Nat.pow_add]; congr 1; omega
  rw [e1]
  conv => lhs; arg 1; arg 1; arg 2; rw [e2]
  rw [Nat.mod_mul_right_div_self, e3, Nat.mod_mul_right_mod, Nat.div_div_eq_div_mul, e4]

/-! Digits and their number. -/
theorem dig_congr {m n : Nat} (h : m % M = n % M) {i : Nat} (hi : i < 32) : dig m i = dig n i := by
  have k : ∀ x : Nat, dig (x % M) i = dig x i := fun x => by
    unfold dig
    have e : M = 256 ^ i * (256 * 256 ^ (31 - i)) := by rw [← Nat.pow_succ', ← Nat.pow_add, M_256]; congr 1; omega
    rw [e, Nat.mod_mul_right_div_self, Nat.mod_mul_right_mod]
  rw [← k m, ← k n, h]

/-! Sums. -/
def carry (m n k : Nat) : Nat := (m + n) / 256 ^ k - m / 256 ^ k - n / 256 ^ k
theorem carry_eq (m n k : Nat) : (m + n) / 256 ^ k = m / 256 ^ k + n / 256 ^ k + carry m n k ∧ carry m n k ≤ 1 := by
  have hp : 0 < 256 ^ k := Nat.pow_pos (by decide)
  have h := Nat.add_div (a := m) (b := n) hp
  unfold carry
  split at h <;> omega
theorem carry_zero (m n : Nat) : carry m n 0 = 0 := by simp [carry]
theorem carry_step (m n k : Nat) : (dig m k + dig n k + carry m n k) % 256 = dig (m + n) k ∧ (dig m k + dig n k + carry m n k) / 256 = carry m n (k + 1) := by
  obtain ⟨h1, _⟩ := carry_eq m n k
  obtain ⟨h2, _⟩ := carry_eq m n (k + 1)
  unfold dig
  rw [Nat.pow_succ, ← Nat.div_div_eq_div_mul, ← Nat.div_div_eq_div_mul, ← Nat.div_div_eq_div_mul] at h2
  rw [h1] at h2 ⊢
  generalize m / 256 ^ k = x at *
  generalize n / 256 ^ k = y at *
  generalize carry m n k = c at *
  generalize carry m n (k + 1) = d at *
  omega

/-! A word out of its digits, from the highest on: what part q is behind the digits from k on. -/
def acc (m k q : Nat) : Nat := if k ≤ 8 * q then lb m q else if 8 * q + 8 ≤ k then 0 else m / 256 ^ k % 256 ^ (8 * q + 8 - k)
theorem acc_zero (m q : Nat) : acc m 0 q = lb m q := by simp [acc]
theorem acc_end (m q : Nat) (hq : q < 4) : acc m 32 q = 0 := by
  unfold acc; rw [if_neg (by omega), if_pos (by omega)]
theorem acc_other (m k q : Nat) (h : k / 8 ≠ q) : acc m (k + 1) q = acc m k q := by
  unfold acc
  by_cases h1 : k + 1 ≤ 8 * q
  · rw [if_pos h1, if_pos (by omega)]
  · rw [if_neg h1]
    by_cases h2 : k ≤ 8 * q
    · omega
    · rw [if_neg h2, if_pos (by omega), if_pos (by omega)]
theorem acc_step (m k : Nat) : acc m (k + 1) (k / 8) * 256 + dig m k = acc m k (k / 8) ∧ acc m k (k / 8) < B := by
  have hB : 256 ^ 8 = B := B_256.symm
  have key : ∀ x N : Nat, x / 256 % N * 256 + x % 256 = x % (256 * N) := fun x N => by
    rw [Nat.mod_mul]; omega
  have e0 : acc m k (k / 8) = m / 256 ^ k % 256 ^ (8 * (k / 8) + 8 - k) := by
    unfold acc
    by_cases h : k ≤ 8 * (k / 8)
    · have hk : k = 8 * (k / 8) := by omega
      rw [if_pos h]
      unfold lb
      have e1 : B ^ (k / 8) = 256 ^ k := by rw [B_256, ← Nat.pow_mul, ← hk]
      rw [e1, show 8 * (k / 8) + 8 - k = 8 by omega, hB]
    · rw [if_neg h, if_neg (by omega)]
  have e1 : acc m (k + 1) (k / 8) = m / 256 ^ (k + 1) % 256 ^ (8 * (k / 8) + 8 - (k + 1)) := by
    unfold acc
    rw [if_neg (by omega)]
    by_cases h : 8 * (k / 8) + 8 ≤ k + 1
    · rw [if_pos h, show 8 * (k / 8) + 8 - (k + 1) = 0 by omega, Nat.pow_zero, Nat.mod_one]
    · rw [if_neg h]
  refine ⟨?_, ?_⟩
  · rw [e0, e1, Nat.pow_succ, ← Nat.div_div_eq_div_mul]
    unfold dig
    rw [key, ← Nat.pow_succ']
    congr 2
    omega
  · rw [e0]
    refine Nat.lt_of_lt_of_le (Nat.mod_lt _ (Nat.pow_pos (by decide))) ?_
    rw [← hB]
    exact Nat.pow_le_pow_right (by decide) (by omega)

/-! Products, row by row. -/
def rowT (m n i k : Nat) : Nat := m % 256 ^ i * n + dig m i * 256 ^ i * (n % 256 ^ k)
def rowC (m n i k : Nat) : Nat := rowT m n i k / 256 ^ (i + k) - m % 256 ^ i * n / 256 ^ (i + k)
theorem rowC_eq (m n i k : Nat) : rowT m n i k / 256 ^ (i + k) = m % 256 ^ i * n / 256 ^ (i + k) + rowC m n i k := by
  have : m % 256 ^ i * n / 256 ^ (i + k) ≤ rowT m n i k / 256 ^ (i + k) := Nat.div_le_div_right (Nat.le_add_right _ _)
  unfold rowC; omega
theorem rowT_zero (m n i : Nat) : rowT m n i 0 = m % 256 ^ i * n := by simp [rowT, Nat.mod_one]
theorem rowC_zero (m n i : Nat) : rowC m n i 0 = 0 := by unfold rowC; rw [rowT_zero]; simp
theorem rowT_succ (m n i k : Nat) : rowT m n i (k + 1) = rowT m n i k + dig m i * dig n k * 256 ^ (i + k) := by
  have e : n % 256 ^ (k + 1) = n % 256 ^ k + 256 ^ k * dig n k := by rw [Nat.pow_succ, Nat.mod_mul]; rfl
  unfold rowT
  rw [e, Nat.pow_add]
  generalize 256 ^ i = p
  generalize 256 ^ k = q
  grind
theorem row_low (m n i k : Nat) {j : Nat} (hj : j < i + k) : dig (rowT m n i (k + 1)) j = dig (rowT m n i k) j := by
  rw [rowT_succ]
  unfold dig
  have e : 256 ^ (i + k) = 256 ^ j * (256 * 256 ^ (i + k - j - 1)) := by rw [← Nat.pow_succ', ← Nat.pow_add]; congr 1; omega
  rw [e, ← Nat.mul_assoc, Nat.mul_comm _ (256 ^ j), Nat.mul_assoc, Nat.add_mul_div_left _ _ (Nat.pow_pos (by decide)), ← Nat.mul_assoc, Nat.mul_comm _ 256, Nat.mul_assoc, Nat.add_mul_mod_self_left]
theorem row_step (m n i k : Nat) : (dig (m % 256 ^ i * n) (i + k) + dig m i * dig n k + rowC m n i k) % 256 = dig (rowT m n i (k + 1)) (i + k) ∧
    (dig (m % 256 ^ i * n) (i + k) + dig m i * dig n k + rowC m n i k) / 256 = rowC m n i (k + 1) := by
  have h1 := rowC_eq m n i k
  have h2 := rowC_eq m n i (k + 1)
  have hp : 0 < 256 ^ (i + k) := Nat.pow_pos (by decide)
  have e1 : rowT m n i (k + 1) / 256 ^ (i + k) = rowT m n i k / 256 ^ (i + k) + dig m i * dig n k := by
    rw [rowT_succ, Nat.add_mul_div_right _ _ hp]
  rw [show i + (k + 1) = i + k + 1 by omega, Nat.pow_succ, ← Nat.div_div_eq_div_mul, ← Nat.div_div_eq_div_mul, e1, h1] at h2
  rw [h1] at e1
  have e3 : dig (rowT m n i (k + 1)) (i + k) = (m % 256 ^ i * n / 256 ^ (i + k) + rowC m n i k + dig m i * dig n k) % 256 := by
    show rowT m n i (k + 1) / 256 ^ (i + k) % 256 = _
    rw [e1]
  have e4 : dig (m % 256 ^ i * n) (i + k) = m % 256 ^ i * n / 256 ^ (i + k) % 256 := rfl
  rw [e3, e4]
  generalize m % 256 ^ i * n / 256 ^ (i + k) = X at *
  generalize dig m i * dig n k = Y at *
  generalize rowC m n i k = c at *
  generalize rowC m n i (k + 1) = d at *
  omega
theorem rowC_le (m n i k : Nat) : rowC m n i k ≤ 256 := by
  have : rowT m n i k / 256 ^ (i + k) ≤ m % 256 ^ i * n / 256 ^ (i + k) + 256 := by
    have hd : dig m i * 256 ^ i * (n % 256 ^ k) ≤ 256 ^ (i + k) * 256 := by
      have h1 := dig_lt m i
      have h2 : n % 256 ^ k < 256 ^ k := Nat.mod_lt _ (Nat.pow_pos (by decide))
      rw [Nat.pow_add]
      calc dig m i * 256 ^ i * (n % 256 ^ k) ≤ 256 * 256 ^ i * 256 ^ k := Nat.mul_le_mul (Nat.mul_le_mul (by omega) (Nat.le_refl _)) (by omega)
        _ = 256 ^ i * 256 ^ k * 256 := by rw [Nat.mul_comm 256, Nat.mul_assoc, Nat.mul_comm 256, Nat.mul_assoc]
    have hp : 0 < 256 ^ (i + k) := Nat.pow_pos (by decide)
    have := Nat.div_le_div_right (c := 256 ^ (i + k)) (Nat.add_le_add_left hd (m % 256 ^ i * n))
    rw [Nat.add_mul_div_left _ _ hp] at this
    exact this
  unfold rowC; omega
theorem row_end (m n i : Nat) (hi : i < 32) {j : Nat} (hj : j < 32) : dig (rowT m n i (32 - i)) j = dig (m % 256 ^ (i + 1) * n) j := by
  apply dig_congr _ hj
  have e1 : m % 256 ^ (i + 1) = m % 256 ^ i + 256 ^ i * dig m i := by rw [Nat.pow_succ, Nat.mod_mul]; rfl
  have e2 : n = n % 256 ^ (32 - i) + 256 ^ (32 - i) * (n / 256 ^ (32 - i)) := (Nat.mod_add_div _ _).symm
  have e3 : M = 256 ^ i * 256 ^ (32 - i) := by rw [← Nat.pow_add, M_256]; congr 1; omega
  have e4 : m % 256 ^ (i + 1) * n = rowT m n i (32 - i) + M * (dig m i * (n / 256 ^ (32 - i))) := by
    unfold rowT
    rw [e1, e3]
    conv => lhs; rw [Nat.add_mul]; arg 2; rw [e2]
    generalize n / 256 ^ (32 - i) = x
    generalize n % 256 ^ (32 - i) = y
    generalize 256 ^ (32 - i) = q
    generalize 256 ^ i = p
    generalize m % p * n = z
    grind
  rw [e4, Nat.add_mul_mod_self_left]
theorem row_last (m n : Nat) {j : Nat} (hj : j < 32) : dig (m % 256 ^ 32 * n) j = dig (m * n) j := by
  apply dig_congr _ hj
  rw [← M_256, Nat.mod_mul_mod]
end Go.Proofs.Ytdgenbidgieojaa.SmWord
/- Plain arithmetic on the bits of digits. -/
namespace Go.Proofs.Ytdgenbidgieojaa.SmWord

def bitN (n i : Nat) : Nat := n / 2 ^ i % 2
theorem bitN_lt (n i : Nat) : bitN n i < 2 := Nat.mod_lt _ (by decide)
theorem dig_bit (n k : Nat) : dig n (k / 8) / 2 ^ (k % 8) % 2 = bitN n k := by
  unfold dig bitN
  have h8 : k % 8 < 8 := Nat.mod_lt _ (by decide)
  have e2 : 256 = 2 ^ (k % 8) * 2 ^ (8 - k % 8) := by rw [← Nat.pow_add, show k % 8 + (8 - k % 8) = 8 by omega]
  have e3 : (2 : Nat) ^ (8 - k % 8) = 2 * 2 ^ (7 - k % 8) := by rw [← Nat.pow_succ']; congr 1; omega
  have e4 : 256 ^ (k / 8) * 2 ^ (k % 8) = 2 ^ k := by rw [show (256 : Nat) = 2 ^ 8 from rfl, ← Nat.pow_mul, ← Nat.pow_add]; congr 1; omega
  conv => lhs; arg 1; arg 1; arg 2; rw [e2]
  rw [Nat.mod_mul_right_div_self, e3, Nat.mod_mul_right_mod, Nat.div_div_eq_div_mul, e4]
theorem M_2 : M = 2 ^ 256 := by decide
theorem bit_congr {m n : Nat} (h : m % M = n % M) {i : Nat} (hi : i < 256) : bitN m i = bitN n i := by
  have k : ∀ x : Nat, bitN (x % M) i = bitN x i := fun x => by
    unfold bitN
    have e : M = 2 ^ i * (2 * 2 ^ (255 - i)) := by rw [← Nat.pow_succ', ← Nat.pow_add, M_2]; congr 1; omega
    rw [e, Nat.mod_mul_right_div_self, Nat.mod_mul_right_mod]
  rw [← k m, ← k n, h]
theorem bitN_high {n i : Nat} (h : n < M) (hi : 256 ≤ i) : bitN n i = 0 := by
  unfold bitN
  rw [Nat.div_eq_of_lt (Nat.lt_of_lt_of_le h (by rw [M_2]; exact Nat.pow_le_pow_right (by decide) hi))]
theorem bitN_test (n i : Nat) : (bitN n i = 1) = (n.testBit i = true) := by
  unfold bitN
  rw [Nat.testBit_eq_decide_div_mod_eq]; simp
theorem bit_up (x s i : Nat) (h : s ≤ i) : bitN (x * 2 ^ s) i = bitN x (i - s) := by
  unfold bitN
  have e : 2 ^ i = 2 ^ (i - s) * 2 ^ s := by rw [← Nat.pow_add]; congr 1; omega
  rw [e, Nat.mul_div_mul_right _ _ (Nat.two_pow_pos s)]
theorem bit_up_low (x s i : Nat) (h : i < s) : bitN (x * 2 ^ s) i = 0 := by
  unfold bitN
  have e : x * 2 ^ s = 2 ^ i * (2 * (x * 2 ^ (s - i - 1))) := by
    have : 2 ^ s = 2 ^ i * (2 * 2 ^ (s - i - 1)) := by rw [← Nat.pow_succ', ← Nat.pow_add]; congr 1; omega
    rw [this]; generalize 2 ^ i = p; generalize 2 ^ (s - i - 1) = q; grind
  rw [e, Nat.mul_div_cancel_left _ (Nat.two_pow_pos i), Nat.mul_mod_right]
theorem bit_down (x s i : Nat) : bitN (x / 2 ^ s) i = bitN x (i + s) := by
  unfold bitN
  rw [Nat.div_div_eq_div_mul, ← Nat.pow_add, Nat.add_comm s i]

/-! Digits out of bits, from the highest on. -/
def accB (m k q : Nat) : Nat := if k ≤ 8 * q then dig m q else if 8 * q + 8 ≤ k then 0 else m / 2 ^ k % 2 ^ (8 * q + 8 - k)
theorem accB_zero (m q : Nat) : accB m 0 q = dig m q := by simp [accB]
theorem accB_end (m q : Nat) (hq : q < 32) : accB m 256 q = 0 := by
  unfold accB; rw [if_neg (by omega), if_pos (by omega)]
theorem accB_other (m k q : Nat) (h : k / 8 ≠ q) : accB m (k + 1) q = accB m k q := by
  unfold accB
  by_cases h1 : k + 1 ≤ 8 * q
  · rw [if_pos h1, if_pos (by omega)]
  · rw [if_neg h1]
    by_cases h2 : k ≤ 8 * q
    · omega
    · rw [if_neg h2, if_pos (by omega), if_pos (by omega)]
theorem accB_step (m k : Nat) : accB m (k + 1) (k / 8) * 2 + bitN m k = accB m k (k / 8) ∧ accB m k (k / 8) < 256 := by
  have key : ∀ x N : Nat, x / 2 % N * 2 + x % 2 = x % (2 * N) := fun x N => by
    rw [Nat.mod_mul]; omega
  have e0 : accB m k (k / 8) = m / 2 ^ k % 2 ^ (8 * (k / 8) + 8 - k) := by
    unfold accB
    by_cases h : k ≤ 8 * (k / 8)
    · have hk : k = 8 * (k / 8) := by omega
      rw [if_pos h]
      unfold dig
      have e1 : 256 ^ (k / 8) = 2 ^ k := by rw [show (256 : Nat) = 2 ^ 8 from rfl, ← Nat.pow_mul, ← hk]
      rw [e1, show 8 * (k / 8) + 8 - k = 8 by omega]
    · rw [if_neg h, if_neg (by omega)]
  have e1 : accB m (k + 1) (k / 8) = m / 2 ^ (k + 1) % 2 ^ (8 * (k / 8) + 8 - (k + 1)) := by
    unfold accB
    rw [if_neg (by omega)]
    by_cases h : 8 * (k / 8) + 8 ≤ k + 1
    · rw [if_pos h, show 8 * (k / 8) + 8 - (k + 1) = 0 by omega, Nat.pow_zero, Nat.mod_one]
    · rw [if_neg h]
  refine ⟨?_, ?_⟩
  · rw [e0, e1, Nat.pow_succ, ← Nat.div_div_eq_div_mul]
    unfold bitN
    rw [key, ← Nat.pow_succ']
    congr 2
    omega
  · rw [e0]
    refine Nat.lt_of_lt_of_le (Nat.mod_lt _ (Nat.two_pow_pos _)) ?_
    rw [show (256 : Nat) = 2 ^ 8 from rfl]
    exact Nat.pow_le_pow_right (by decide) (by omega)
end Go.Proofs.Ytdgenbidgieojaa.SmWord
/- Plain arithmetic: the number whose digits to the base 256 these are. -/
namespace Go.Proofs.Ytdgenbidgieojaa.SmWord

/-- The number with the digits g 0 .. g (k-1). -/
def val (g : Nat → Nat) : Nat → Nat
  | 0 => 0
  | k + 1 => val g k + g k * 256 ^ k
theorem val_lt {g : Nat → Nat} : ∀ {k : Nat}, (∀ i, i < k → g i < 256) → val g k < 256 ^ k
  | 0, _ => by simp [val]
  | k + 1, h => by
    have h1 := val_lt (g := g) (k := k) fun i hi => h i (by omega)
    have h2 : (g k + 1) * 256 ^ k ≤ 256 * 256 ^ k := Nat.mul_le_mul_right _ (h k (by omega))
    rw [Nat.add_mul] at h2
    rw [Nat.pow_succ', val]
    omega
theorem val_congr {g h : Nat → Nat} : ∀ {k : Nat}, (∀ i, i < k → g i = h i) → val g k = val h k
  | 0, _ => rfl
  | k + 1, e => by rw [val, val, val_congr fun i hi => e i (by omega), e k (by omega)]
theorem val_dig (a : Nat) : ∀ k : Nat, val (dig a) k = a % 256 ^ k
  | 0 => by simp [val, Nat.mod_one]
  | k + 1 => by rw [val, val_dig a k, Nat.pow_succ, Nat.mod_mul, Nat.mul_comm (dig a k)]; rfl
theorem dig_val_high {g : Nat → Nat} {k i : Nat} (h : ∀ i, i < k → g i < 256) (hi : k ≤ i) : dig (val g k) i = 0 := by
  unfold dig
  rw [Nat.div_eq_of_lt (Nat.lt_of_lt_of_le (val_lt h) (Nat.pow_le_pow_right (by decide) hi))]
theorem dig_val {g : Nat → Nat} : ∀ {k i : Nat}, (∀ i, i < k → g i < 256) → i < k → dig (val g k) i = g i
  | 0, _, _, hi => by omega
  | k + 1, i, h, hi => by
    have hl := val_lt (g := g) (k := k) fun i hi => h i (by omega)
    by_cases e : i = k
    · subst e
      unfold dig
      rw [val, Nat.add_mul_div_right _ _ (Nat.pow_pos (by decide)), Nat.div_eq_of_lt hl, Nat.zero_add, Nat.mod_eq_of_lt (h i (by omega))]
    · rw [← dig_val (k := k) (fun i hi => h i (by omega)) (show i < k by omega)]
      unfold dig
      rw [val]
      have e1 : 256 ^ k = 256 ^ i * (256 * 256 ^ (k - i - 1)) := by rw [← Nat.pow_succ', ← Nat.pow_add]; congr 1; omega
      rw [e1, show g k * (256 ^ i * (256 * 256 ^ (k - i - 1))) = 256 ^ i * (256 * (g k * 256 ^ (k - i - 1))) by generalize 256 ^ i = p; generalize 256 ^ (k - i - 1) = q; grind, Nat.add_mul_div_left _ _ (Nat.pow_pos (by decide)), Nat.add_mul_mod_self_left]
theorem B_pow (q : Nat) : B ^ q = 256 ^ (8 * q) := by rw [B_256, Nat.pow_mul]
theorem lb_other {g : Nat → Nat} {k q : Nat} (h : ∀ i, i < k + 1 → g i < 256) (hq : q ≠ k / 8) : lb (val g (k + 1)) q = lb (val g k) q := by
  unfold lb
  rw [B_pow]
  by_cases h1 : q < k / 8
  · have e1 : 256 ^ k = 256 ^ (8 * q) * (B * 256 ^ (k - 8 * q - 8)) := by rw [B_256, ← Nat.pow_add, ← Nat.pow_add]; congr 1; omega
    rw [val, e1, show g k * (256 ^ (8 * q) * (B * 256 ^ (k - 8 * q - 8))) = 256 ^ (8 * q) * (B * (g k * 256 ^ (k - 8 * q - 8))) by generalize 256 ^ (8 * q) = p; generalize 256 ^ (k - 8 * q - 8) = r; grind, Nat.add_mul_div_left _ _ (Nat.pow_pos (by decide)), Nat.add_mul_mod_self_left]
  · have e1 : val g (k + 1) < 256 ^ (8 * q) := Nat.lt_of_lt_of_le (val_lt h) (Nat.pow_le_pow_right (by decide) (by omega))
    have e2 : val g k < 256 ^ (8 * q) := Nat.lt_of_lt_of_le (val_lt fun i hi => h i (by omega)) (Nat.pow_le_pow_right (by decide) (by omega))
    rw [Nat.div_eq_of_lt e1, Nat.div_eq_of_lt e2]
theorem lb_here {g : Nat → Nat} {k : Nat} (h : ∀ i, i < k + 1 → g i < 256) :
    lb (val g k) (k / 8) < 2 ^ (8 * (k % 8)) ∧ lb (val g (k + 1)) (k / 8) = lb (val g k) (k / 8) ||| g k * 2 ^ (8 * (k % 8)) ∧ g k * 2 ^ (8 * (k % 8)) < B := by
  have hk : val g k < 256 ^ k := val_lt fun i hi => h i (by omega)
  have e0 : (2 : Nat) ^ (8 * (k % 8)) = 256 ^ (k % 8) := by rw [Nat.pow_mul]
  have e1 : 256 ^ k = B ^ (k / 8) * 256 ^ (k % 8) := by rw [B_pow, ← Nat.pow_add]; congr 1; omega
  have hB : B = 256 ^ (k % 8) * (256 * 256 ^ (7 - k % 8)) := by rw [← Nat.pow_succ', ← Nat.pow_add, B_256]; congr 1; omega
  have hp : 0 < 256 ^ (7 - k % 8) := Nat.pow_pos (by decide)
  have hle : 256 ^ (k % 8) * 256 ≤ B := by rw [hB, ← Nat.mul_assoc]; exact Nat.le_mul_of_pos_right _ hp
  have hg := h k (by omega)
  have hpos : 0 < B ^ (k / 8) := Nat.pow_pos (by decide)
  have hx : val g k / B ^ (k / 8) < 256 ^ (k % 8) := Nat.div_lt_of_lt_mul (by rw [← e1]; exact hk)
  have hmul : (g k + 1) * 256 ^ (k % 8) ≤ 256 * 256 ^ (k % 8) := Nat.mul_le_mul_right _ hg
  rw [Nat.add_mul] at hmul
  have hq : val g (k + 1) / B ^ (k / 8) = val g k / B ^ (k / 8) + g k * 256 ^ (k % 8) := by
    rw [val, e1, show g k * (B ^ (k / 8) * 256 ^ (k % 8)) = B ^ (k / 8) * (g k * 256 ^ (k % 8)) by generalize B ^ (k / 8) = p; generalize 256 ^ (k % 8) = r; grind, Nat.add_mul_div_left _ _ hpos]
  unfold lb
  rw [hq, e0]
  generalize val g k / B ^ (k / 8) = x at *
  have hb1 : x % B = x := Nat.mod_eq_of_lt (by omega)
  have hb2 : (x + g k * 256 ^ (k % 8)) % B = x + g k * 256 ^ (k % 8) := Nat.mod_eq_of_lt (by omega)
  rw [hb1, hb2]
  refine ⟨hx, ?_, by omega⟩
  rw [← e0] at hx ⊢
  rw [Nat.or_comm, Nat.mul_comm, ← Nat.two_pow_add_eq_or_of_lt hx, Nat.add_comm]
end Go.Proofs.Ytdgenbidgieojaa.SmWord
/- Items in rows and in bytes, in plain words: no program is named here. Forests of items; their rows of nodes; their writing; how deep they are. -/
namespace Go.Proofs.Ytdgenbidgieojaa.SmWord
set_option maxRecDepth 100000

/-- A node: whether it is a list, its bytes, and its size. -/
structure Nd where
  ls : Bool
  by' : List Nat
  sz : Int
/-- Items, one behind the other: none; bytes, and what stands behind them; a list of items, and what stands behind it. -/
inductive Fo where
  | no
  | st (b : List Nat) (nx : Fo)
  | li (k : Fo) (nx : Fo)
/-- Their row. -/
def rows : Fo → List Nd
  | .no => []
  | .st b nx => ⟨false, b, 0⟩ :: rows nx
  | .li k nx => ⟨true, [], ((rows k).length : Int)⟩ :: (rows k ++ rows nx)
/-- One item. -/
def One : Fo → Prop
  | .no => False
  | .st _ nx => nx = .no
  | .li _ nx => nx = .no
theorem rows_inj : ∀ F G : Fo, rows F = rows G → F = G
  | .no, .no, _ => rfl
  | .no, .st _ _, h => by simp [rows] at h
  | .no, .li _ _, h => by simp [rows] at h
  | .st _ _, .no, h => by simp [rows] at h
  | .li _ _, .no, h => by simp [rows] at h
  | .st b nx, .st c mx, h => by
    simp [rows] at h
    rw [h.1, rows_inj nx mx h.2]
  | .st _ _, .li _ _, h => by simp [rows] at h
  | .li _ _, .st _ _, h => by simp [rows] at h
  | .li k nx, .li l mx, h => by
    simp only [rows, List.cons.injEq, Nd.mk.injEq, true_and] at h
    obtain ⟨h1, h2⟩ := h
    have h3 : (rows k).length = (rows l).length := by omega
    obtain ⟨h4, h5⟩ := List.append_inj h2 h3
    rw [rows_inj k l h4, rows_inj nx mx h5]
/-- Which rows are items' rows: node by node. -/
def IsF (X : List Nd) : Prop := ∃ F, rows F = X
theorem isF_nil : IsF [] := ⟨.no, rfl⟩
theorem isF_st (x : Nd) (X : List Nd) (h : x.ls = false) : IsF (x :: X) ↔ x.sz = 0 ∧ IsF X := by
  constructor
  · rintro ⟨F, hF⟩
    cases F with
    | no => simp [rows] at hF
    | st b nx =>
      simp only [rows, List.cons.injEq] at hF
      obtain ⟨rfl, h2⟩ := hF
      exact ⟨rfl, nx, h2⟩
    | li k nx =>
      simp only [rows, List.cons.injEq] at hF
      obtain ⟨rfl, _⟩ := hF
      cases h
  · rintro ⟨h1, F, rfl⟩
    refine ⟨.st x.by' F, ?_⟩
    cases x
    simp only at h h1
    subst h h1
    rfl
theorem isF_li (x : Nd) (X : List Nd) (h : x.ls = true) : IsF (x :: X) ↔ x.by' = [] ∧ ∃ n : Nat, x.sz = (n : Int) ∧ n ≤ X.length ∧ IsF (X.take n) ∧ IsF (X.drop n) := by
  constructor
  · rintro ⟨F, hF⟩
    cases F with
    | no => simp [rows] at hF
    | st b nx =>
      simp only [rows, List.cons.injEq] at hF
      obtain ⟨rfl, _⟩ := hF
      cases h
    | li k nx =>
      simp only [rows, List.cons.injEq] at hF
      obtain ⟨rfl, rfl⟩ := hF
      refine ⟨rfl, (rows k).length, rfl, by simp, ⟨k, ?_⟩, ⟨nx, ?_⟩⟩
      · simp
      · simp
  · rintro ⟨h1, n, h2, h3, ⟨k, hk⟩, ⟨nx, hn⟩⟩
    refine ⟨.li k nx, ?_⟩
    have e : (rows k).length = n := by rw [hk, List.length_take, Nat.min_eq_left h3]
    cases x
    simp only at h h1 h2
    subst h h1 h2
    simp only [rows]
    rw [e, hk, hn, List.take_append_drop]
theorem isF_app {X Y : List Nd} (h : IsF X) : IsF (X ++ Y) ↔ IsF Y := by
  obtain ⟨F, rfl⟩ := h
  induction F with
  | no => simp [rows]
  | st b nx ih =>
    simp only [rows, List.cons_append]
    rw [isF_st _ _ rfl, ih]
    simp
  | li k nx ihk ih =>
    simp only [rows, List.cons_append, List.append_assoc]
    rw [isF_li _ _ rfl]
    constructor
    · rintro ⟨_, n, h1, _, _, h4⟩
      have e : n = (rows k).length := by simp only at h1; omega
      subst e
      rw [List.drop_left'] at h4
      · exact ih.1 h4
      · rfl
    · intro hY
      refine ⟨rfl, (rows k).length, rfl, by simp, ⟨k, by simp⟩, ?_⟩
      rw [List.drop_left']
      · exact ih.2 hY
      · rfl
/-- How deep lists stand in lists. -/
def dps : Fo → Nat
  | .no => 0
  | .st _ nx => dps nx
  | .li k nx => max (dps k + 1) (dps nx)
/-- In how many lists the node at a place stands, itself counted. -/
def cn : List Nd → Nat → Nat
  | [], _ => 0
  | x :: X, i => (if x.ls = true ∧ (i : Int) ≤ x.sz then 1 else 0) + (match i with | 0 => 0 | i + 1 => cn X i)
theorem cn_zero (x : Nd) (X : List Nd) : cn (x :: X) 0 = if x.ls = true ∧ (0 : Int) ≤ x.sz then 1 else 0 := by simp [cn]
theorem cn_succ (x : Nd) (X : List Nd) (i : Nat) : cn (x :: X) (i + 1) = (if x.ls = true ∧ ((i + 1 : Nat) : Int) ≤ x.sz then 1 else 0) + cn X i := by rw [cn]
theorem cn_left : ∀ (K Y : List Nd) (i : Nat), i < K.length → cn (K ++ Y) i = cn K i
  | [], _, _, h => by simp at h
  | x :: K, Y, 0, _ => by rw [List.cons_append, cn_zero, cn_zero]
  | x :: K, Y, i + 1, h => by rw [List.cons_append, cn_succ, cn_succ, cn_left K Y i (by simpa using h)]
theorem cn_right (Y : List Nd) : ∀ (F : Fo) (i : Nat), cn (rows F ++ Y) ((rows F).length + i) = cn Y i
  | .no, i => by simp [rows]
  | .st b nx, i => by
    have := cn_right Y nx i
    simp only [rows, List.cons_append, List.length_cons]
    rw [show (rows nx).length + 1 + i = ((rows nx).length + i) + 1 by omega, cn_succ, this]
    simp
  | .li k nx, i => by
    have h1 := cn_right (rows nx ++ Y) k ((rows nx).length + i)
    have h2 := cn_right Y nx i
    simp only [rows, List.cons_append, List.append_assoc, List.length_cons, List.length_append]
    rw [show (rows k).length + (rows nx).length + 1 + i = ((rows k).length + ((rows nx).length + i)) + 1 by omega, cn_succ, h1, h2]
    simp
    omega
theorem cn_le : ∀ (F : Fo) (i : Nat), i < (rows F).length → cn (rows F) i ≤ dps F
  | .no, _, h => by simp [rows] at h
  | .st b nx, 0, _ => by simp [rows, cn_zero]
  | .st b nx, i + 1, h => by
    have := cn_le nx i (by simpa [rows] using h)
    simp only [rows]
    rw [cn_succ]
    simpa [dps] using this
  | .li k nx, 0, _ => by
    simp only [rows]
    rw [cn_zero]
    simp [dps]
    omega
  | .li k nx, i + 1, h => by
    simp only [rows, dps]
    rw [cn_succ]
    simp only [rows, List.length_cons, List.length_append] at h
    by_cases hl : i < (rows k).length
    · have := cn_le k i hl
      rw [cn_left _ _ _ hl]
      split <;> omega
    · obtain ⟨j, rfl⟩ : ∃ j, i = (rows k).length + j := ⟨i - (rows k).length, by omega⟩
      have := cn_le nx j (by omega)
      rw [cn_right]
      rw [if_neg (by simp; omega)]
      omega
theorem cn_most : ∀ F : Fo, dps F = 0 ∨ ∃ i, i < (rows F).length ∧ cn (rows F) i = dps F
  | .no => .inl rfl
  | .st b nx => by
    rcases cn_most nx with h | ⟨i, hi, h⟩
    · exact .inl h
    · exact .inr ⟨i + 1, by simpa [rows] using hi, by simp only [rows]; rw [cn_succ]; simpa [dps] using h⟩
  | .li k nx => by
    refine .inr ?_
    by_cases hm : dps nx ≤ dps k + 1
    · rcases cn_most k with h | ⟨i, hi, h⟩
      · refine ⟨0, by simp [rows], ?_⟩
        simp only [rows]
        rw [cn_zero]
        simp [dps]
        omega
      · refine ⟨i + 1, by simp [rows]; omega, ?_⟩
        simp only [rows, dps]
        rw [cn_succ, cn_left _ _ _ hi, h, if_pos (by simp; omega)]
        omega
    · rcases cn_most nx with h | ⟨i, hi, h⟩
      · omega
      · refine ⟨(rows k).length + i + 1, by simp [rows]; omega, ?_⟩
        simp only [rows, dps]
        rw [cn_succ, cn_right, h, if_neg (by simp; omega)]
        omega
/-- The greatest among the first m. -/
def dmu (X : List Nd) : Nat → Nat
  | 0 => 0
  | m + 1 => max (dmu X m) (cn X m)
theorem dmu_le {X : List Nd} {D : Nat} : ∀ m, (∀ i, i < m → cn X i ≤ D) → dmu X m ≤ D
  | 0, _ => Nat.zero_le _
  | m + 1, h => Nat.max_le.2 ⟨dmu_le m fun i hi => h i (by omega), h m (by omega)⟩
theorem le_dmu (X : List Nd) : ∀ m i, i < m → cn X i ≤ dmu X m
  | m + 1, i, h => by
    unfold dmu
    by_cases e : i = m
    · subst e; exact Nat.le_max_right _ _
    · exact Nat.le_trans (le_dmu X m i (by omega)) (Nat.le_max_left _ _)
theorem dmu_rows (F : Fo) : dmu (rows F) (rows F).length = dps F := by
  refine Nat.le_antisymm (dmu_le _ fun i hi => cn_le F i hi) ?_
  rcases cn_most F with h | ⟨i, hi, h⟩
  · omega
  · rw [← h]; exact le_dmu _ _ _ hi
end Go.Proofs.Ytdgenbidgieojaa.SmWord
/- Items in bytes, in plain words: no program is named here. Their writing, how it is read, and that what is written is read as it was. -/
namespace Go.Proofs.Ytdgenbidgieojaa.SmWord
set_option maxRecDepth 100000

theorem getD_left (l m : List Nat) {i : Nat} (h : i < l.length) : (l ++ m).getD i 0 = l.getD i 0 := by simp [List.getD, List.getElem?_append_left h]
theorem snoc_ind {P : List Nat → Prop} (h0 : P []) (h1 : ∀ l x, P l → P (l ++ [x])) (l : List Nat) : P l := by
  have h : ∀ m : List Nat, P m.reverse := fun m => by
    induction m with
    | nil => exact h0
    | cons x m ih => rw [List.reverse_cons]; exact h1 _ _ ih
  have := h l.reverse
  rwa [List.reverse_reverse] at this
/-- How many bytes a number has. -/
def nbl (n : Nat) : Nat := if n = 0 then 0 else n.log2 / 8 + 1
theorem nbl_lt (n : Nat) : n < 256 ^ nbl n := by
  unfold nbl
  split
  · rename_i h; simp [h]
  · rename_i h
    have h1 : n < 2 ^ (n.log2 + 1) := Nat.lt_log2_self
    have h2 : (2 : Nat) ^ (n.log2 + 1) ≤ 2 ^ (8 * (n.log2 / 8 + 1)) := Nat.pow_le_pow_right (by decide) (by omega)
    rw [Nat.pow_mul] at h2
    exact Nat.lt_of_lt_of_le h1 h2
theorem nbl_le {n : Nat} (h : n ≠ 0) : 256 ^ (nbl n - 1) ≤ n := by
  unfold nbl
  rw [if_neg h, Nat.add_sub_cancel, show (256 : Nat) = 2 ^ 8 from rfl, ← Nat.pow_mul]
  exact Nat.le_trans (Nat.pow_le_pow_right (by decide) (by omega)) (Nat.log2_self_le h)
theorem nbl_of {n k : Nat} (h1 : 256 ^ k ≤ n) (h2 : n < 256 ^ (k + 1)) : nbl n = k + 1 := by
  have hn : n ≠ 0 := by have := Nat.pow_pos (n := k) (show 0 < 256 by decide); omega
  have a := nbl_lt n
  have b := nbl_le hn
  have hp : nbl n ≠ 0 := by simp [nbl, hn]
  have c : k < nbl n := (Nat.pow_lt_pow_iff_right (by decide)).1 (Nat.lt_of_le_of_lt h1 a)
  have d : nbl n - 1 < k + 1 := (Nat.pow_lt_pow_iff_right (by decide)).1 (Nat.lt_of_le_of_lt b h2)
  omega
/-- The k lowest bytes of a number, the highest first. -/
def bdig : Nat → Nat → List Nat
  | 0, _ => []
  | k + 1, n => bdig k (n / 256) ++ [n % 256]
theorem bdig_length : ∀ k n, (bdig k n).length = k
  | 0, _ => rfl
  | k + 1, n => by simp [bdig, bdig_length k]
theorem bdig_lt : ∀ k n, ∀ x ∈ bdig k n, x < 256
  | 0, _, x, h => by simp [bdig] at h
  | k + 1, n, x, h => by
    simp only [bdig, List.mem_append, List.mem_singleton] at h
    rcases h with h | rfl
    · exact bdig_lt k _ x h
    · exact Nat.mod_lt _ (by decide)
theorem bdig_head : ∀ k n, (bdig (k + 1) n).getD 0 0 = n / 256 ^ k % 256
  | 0, n => by simp [bdig]
  | k + 1, n => by
    have h := bdig_head k (n / 256)
    rw [bdig, getD_left _ _ (by rw [bdig_length]; omega), h, Nat.div_div_eq_div_mul, Nat.pow_succ', Nat.mul_comm]
/-- The number that bytes say, the highest first. -/
def bval (l : List Nat) : Nat := l.foldl (fun n b => n * 256 + b) 0
theorem bval_snoc (l : List Nat) (x : Nat) : bval (l ++ [x]) = bval l * 256 + x := by simp [bval]
theorem bval_bdig : ∀ k n, n < 256 ^ k → bval (bdig k n) = n
  | 0, n, h => by simp at h; subst h; rfl
  | k + 1, n, h => by
    rw [bdig, bval_snoc, bval_bdig k (n / 256) (by rw [Nat.pow_succ] at h; omega)]
    omega
theorem bdig_bval : ∀ l : List Nat, (∀ x ∈ l, x < 256) → bdig l.length (bval l) = l := fun l => by
  refine snoc_ind (P := fun l => (∀ x ∈ l, x < 256) → bdig l.length (bval l) = l) (fun _ => rfl) (fun l x ih => ?_) l
  · intro h
    have hx := h x (by simp)
    rw [List.length_append, List.length_singleton, bdig, bval_snoc, show (bval l * 256 + x) / 256 = bval l by omega, show (bval l * 256 + x) % 256 = x by omega, ih fun y hy => h y (by simp [hy])]
theorem bval_lt : ∀ l : List Nat, (∀ x ∈ l, x < 256) → bval l < 256 ^ l.length := fun l => by
  refine snoc_ind (P := fun l => (∀ x ∈ l, x < 256) → bval l < 256 ^ l.length) (fun _ => by decide) (fun l x ih => ?_) l
  · intro h
    have hx := h x (by simp)
    have := ih fun y hy => h y (by simp [hy])
    rw [bval_snoc, List.length_append, List.length_singleton, Nat.pow_succ]
    omega
/-- The same, but never more than 10^9. -/
def cval (l : List Nat) : Nat := l.foldl (fun n b => min (n * 256 + b) 1000000000) 0
theorem cval_snoc (l : List Nat) (x : Nat) : cval (l ++ [x]) = min (cval l * 256 + x) 1000000000 := by simp [cval]
theorem cval_bval : ∀ l : List Nat, cval l = min (bval l) 1000000000 := fun l => by
  refine snoc_ind (P := fun l => cval l = min (bval l) 1000000000) rfl (fun l x ih => ?_) l
  rw [cval_snoc, bval_snoc, ih]
  omega
/-- What stands ahead of n bytes; m: 64 for a list. -/
def hea (n m : Nat) : List Nat := if n ≤ 55 then [128 + m + n] else (183 + m + nbl n) :: bdig (nbl n) n
/-- Bytes' writing. -/
def ws (b : List Nat) : List Nat := if b.length = 1 ∧ b.getD 0 0 < 128 then b else hea b.length 0 ++ b
/-- Items' writing. -/
def wrs : Fo → List Nat
  | .no => []
  | .st b nx => ws b ++ wrs nx
  | .li k nx => hea (wrs k).length 64 ++ wrs k ++ wrs nx
/-- What stands ahead, read: whether it is a list, how many bytes stand ahead, and how many it is; or an error. -/
inductive Hd where
  | bad (e : Nat)
  | got (ls : Bool) (u n : Nat)
def hdp (c : Nat) (R : List Nat) : Hd :=
  let ls := decide (192 ≤ c)
  let c' := if 192 ≤ c then c - 64 else c
  if c' ≤ 183 then .got ls 1 (c' - 128)
  else if R.length < c' - 183 then .bad 3
  else if R.getD 0 0 = 0 then .bad 2
  else if cval (R.take (c' - 183)) ≤ 55 then .bad 2
  else .got ls (1 + (c' - 183)) (cval (R.take (c' - 183)))
inductive Res where
  | err (e : Nat)
  | ok (l : List Nd) (u : Nat)
def lop (one : List Nat → Nat → Res) : Nat → List Nat → Nat → List Nd → Res
  | 0, _, _, _ => .err 99
  | f + 1, R, room, acc => if room = 0 then .ok acc 0 else match one R room with
    | .err e => .err e
    | .ok l u => lop one f (R.drop u) (room - u) (acc ++ l)
/-- An item read, of what is left and of the room that its list has, in lists of which d more may be. -/
def rdStep (sub : Option (List Nat → Nat → Res)) (R : List Nat) (room : Nat) : Res := match R with
  | [] => .err 3
  | c :: T => if c < 128 then .ok [⟨false, [c], 0⟩] 1 else match hdp c T with
    | .bad e => .err e
    | .got ls u n =>
      if (c :: T).length - u < n then .err 3
      else if room < u + n then .err 2
      else if ls = false then (if n = 1 ∧ (c :: T).getD u 0 < 128 then .err 2 else .ok [⟨false, ((c :: T).drop u).take n, 0⟩] (u + n))
      else match sub with
        | none => .err 4
        | some one => match lop one (n + 1) ((c :: T).drop u) n [] with
          | .err e => .err e
          | .ok l _ => .ok (⟨true, [], (l.length : Int)⟩ :: l) (u + n)
def rd : Nat → List Nat → Nat → Res
  | 0 => rdStep none
  | d + 1 => rdStep (some (rd d))

theorem nbl_le8 {n : Nat} (h : n ≤ 1048576) : nbl n ≤ 8 := by
  by_cases h0 : n = 0
  · simp [nbl, h0]
  · have a := nbl_le h0
    apply Classical.byContradiction
    intro h8
    have : (256 : Nat) ^ 8 ≤ 256 ^ (nbl n - 1) := Nat.pow_le_pow_right (by decide) (by omega)
    have : (256 : Nat) ^ 8 = 18446744073709551616 := by decide
    omega
theorem hea_long (n m : Nat) : 0 < (hea n m).length := by unfold hea; split <;> simp
theorem ws_long (b : List Nat) : 0 < (ws b).length := by
  unfold ws
  split
  · omega
  · have := hea_long b.length 0
    simp
    omega
theorem hea_read {n m : Nat} (hm : m = 0 ∨ m = 64) (hn : n ≤ 1048576) (X : List Nat) : ∃ c T, hea n m ++ X = c :: T ∧ 128 ≤ c ∧ hdp c T = .got (decide (m = 64)) (hea n m).length n := by
  by_cases h : n ≤ 55
  · refine ⟨128 + m + n, X, by simp [hea, h], by omega, ?_⟩
    rcases hm with rfl | rfl
    · simp [hdp, hea, h, show ¬ 192 ≤ 128 + n by omega, show 128 + n ≤ 183 by omega]
    · simp [hdp, hea, h, show 192 ≤ 128 + 64 + n by omega, show 128 + 64 + n - 64 ≤ 183 by omega]
      omega
  · have h0 : n ≠ 0 := by omega
    have h8 := nbl_le8 hn
    have hp : nbl n ≠ 0 := by simp [nbl, h0]
    have hv : cval (bdig (nbl n) n) = n := by rw [cval_bval, bval_bdig _ _ (nbl_lt n)]; omega
    obtain ⟨k, hk⟩ : ∃ k, nbl n = k + 1 := ⟨nbl n - 1, by omega⟩
    have hd : (bdig (nbl n) n).getD 0 0 ≠ 0 := by
      rw [hk, bdig_head]
      have a := nbl_le h0
      have b := nbl_lt n
      rw [hk] at a b
      rw [Nat.add_sub_cancel] at a
      have e1 : n / 256 ^ k < 256 := by rw [Nat.div_lt_iff_lt_mul (Nat.pow_pos (by decide)), Nat.mul_comm, ← Nat.pow_succ]; exact b
      have e2 : 0 < n / 256 ^ k := Nat.div_pos a (Nat.pow_pos (by decide))
      rw [Nat.mod_eq_of_lt e1]
      omega
    have hl : (bdig (nbl n) n).length = nbl n := bdig_length _ _
    refine ⟨183 + m + nbl n, bdig (nbl n) n ++ X, by simp [hea, h], by omega, ?_⟩
    have hg : (bdig (nbl n) n ++ X).getD 0 0 ≠ 0 := by rwa [getD_left _ _ (by omega)]
    have ht : (bdig (nbl n) n ++ X).take (nbl n) = bdig (nbl n) n := by rw [List.take_left' hl]
    have hx : nbl n ≤ (bdig (nbl n) n ++ X).length := by rw [List.length_append, hl]; omega
    have hc : ((if 192 ≤ 183 + m + nbl n then 183 + m + nbl n - 64 else 183 + m + nbl n) : Nat) = 183 + nbl n ∧ decide (192 ≤ 183 + m + nbl n) = decide (m = 64) := by
      rcases hm with rfl | rfl
      · rw [if_neg (by omega)]
        exact ⟨by omega, by simp; omega⟩
      · rw [if_pos (by omega)]
        exact ⟨by omega, by simp; omega⟩
    unfold hdp
    simp only
    rw [hc.1, hc.2, if_neg (by omega), Nat.add_sub_cancel_left, if_neg (by omega), if_neg hg, ht, hv, if_neg h]
    simp [hea, h, hl]
    omega
end Go.Proofs.Ytdgenbidgieojaa.SmWord
/- Items in bytes, there and back, in plain words: what is written is read as it was, and what is read is written as it stood. -/
namespace Go.Proofs.Ytdgenbidgieojaa.SmWord
set_option maxRecDepth 100000

theorem rd_str (sub : Option (List Nat → Nat → Res)) (b X : List Nat) (room : Nat) (hb : b.length ≤ 1048576) (hr : (ws b).length ≤ room) : rdStep sub (ws b ++ X) room = .ok [⟨false, b, 0⟩] (ws b).length := by
  by_cases h : b.length = 1 ∧ b.getD 0 0 < 128
  · obtain ⟨x, rfl⟩ : ∃ x, b = [x] := by
      cases b with
      | nil => simp at h
      | cons x b => cases b with
        | nil => exact ⟨x, rfl⟩
        | cons y b => simp at h
    have hx : x < 128 := by simpa using h.2
    have e : ws [x] = [x] := by rw [ws, if_pos h]
    rw [e]
    simp [rdStep, hx]
  · have e : ws b = hea b.length 0 ++ b := by rw [ws, if_neg h]
    obtain ⟨c, T, hcT, hc, hh⟩ := hea_read (.inl rfl) hb (b ++ X)
    have hl : (c :: T).length = (hea b.length 0).length + (b.length + X.length) := by rw [← hcT]; simp
    have hdr : (c :: T).drop (hea b.length 0).length = b ++ X := by rw [← hcT]; simp
    have hg : (c :: T).getD (hea b.length 0).length 0 = (b ++ X).getD 0 0 := by
      rw [← hcT, List.getD, List.getElem?_append_right (Nat.le_refl _), Nat.sub_self]
      rfl
    rw [e, List.append_assoc, hcT]
    rw [e, List.length_append] at hr
    unfold rdStep
    simp only [hh]
    rw [if_neg (by omega), if_neg (by omega), if_neg (by omega)]
    simp only [show decide ((0 : Nat) = 64) = false from rfl, if_true]
    rw [if_neg ?_, hdr, List.take_left' rfl, List.length_append]
    rintro ⟨h1, h2⟩
    rw [hg, getD_left _ _ (by omega)] at h2
    exact h ⟨h1, h2⟩
theorem rd_li (k : Fo) (d : Nat) (Y : List Nat) (room : Nat) (hl : (wrs k).length ≤ 1048576) (hr : (hea (wrs k).length 64).length + (wrs k).length ≤ room) (hk : lop (rd d) ((wrs k).length + 1) (wrs k ++ Y) (wrs k).length [] = .ok (rows k) 0) :
    rd (d + 1) (hea (wrs k).length 64 ++ (wrs k ++ Y)) room = .ok (⟨true, [], ((rows k).length : Int)⟩ :: rows k) ((hea (wrs k).length 64).length + (wrs k).length) := by
  obtain ⟨c, T, hcT, hc, hh⟩ := hea_read (.inr rfl) hl (wrs k ++ Y)
  have hll : (c :: T).length = (hea (wrs k).length 64).length + ((wrs k).length + Y.length) := by rw [← hcT]; simp
  have hdr : (c :: T).drop (hea (wrs k).length 64).length = wrs k ++ Y := by rw [← hcT]; simp
  rw [hcT, rd]
  unfold rdStep
  simp only [hh]
  rw [if_neg (by omega), if_neg (by omega), if_neg (by omega)]
  simp only [decide_true, Bool.true_eq_false, if_false]
  rw [hdr, hk]
theorem lop_rows : ∀ (F : Fo) (d : Nat) (X : List Nat) (acc : List Nd) (fuel : Nat), dps F ≤ d → (wrs F).length ≤ 1048576 → (wrs F).length < fuel → lop (rd d) fuel (wrs F ++ X) (wrs F).length acc = .ok (acc ++ rows F) 0
  | .no, d, X, acc, fuel + 1, _, _, _ => by simp [wrs, rows, lop]
  | .st b nx, d, X, acc, fuel + 1, hd, hl, hf => by
    have hw := ws_long b
    simp only [wrs, List.length_append] at hl hf
    have hb : b.length ≤ 1048576 := by
      have : b.length ≤ (ws b).length := by unfold ws; split <;> simp
      omega
    have h1 : rd d (ws b ++ (wrs nx ++ X)) ((ws b).length + (wrs nx).length) = .ok [⟨false, b, 0⟩] (ws b).length := by
      cases d with
      | zero => exact rd_str _ _ _ _ hb (by omega)
      | succ d => exact rd_str _ _ _ _ hb (by omega)
    have h2 := lop_rows nx d X (acc ++ [⟨false, b, 0⟩]) fuel (by simpa [dps] using hd) (by omega) (by omega)
    simp only [wrs, rows, List.length_append, List.append_assoc]
    rw [lop, if_neg (by omega), h1]
    simp only
    rw [List.drop_left' rfl, Nat.add_sub_cancel_left, h2, List.append_assoc]
    rfl
  | .li k nx, d, X, acc, fuel + 1, hd, hl, hf => by
    have hw := hea_long (wrs k).length 64
    simp only [wrs, List.length_append] at hl hf
    simp only [dps] at hd
    obtain ⟨d', rfl⟩ : ∃ d', d = d' + 1 := ⟨d - 1, by omega⟩
    have hk := lop_rows k d' (wrs nx ++ X) [] ((wrs k).length + 1) (by omega) (by omega) (by omega)
    have h1 := rd_li k d' (wrs nx ++ X) ((hea (wrs k).length 64).length + (wrs k).length + (wrs nx).length) (by omega) (by omega) hk
    have h2 := lop_rows nx (d' + 1) X (acc ++ (⟨true, [], ((rows k).length : Int)⟩ :: rows k)) fuel (by omega) (by omega) (by omega)
    simp only [wrs, rows, List.length_append, List.append_assoc]
    rw [lop, if_neg (by omega), ← Nat.add_assoc, h1]
    simp only
    rw [← List.append_assoc, List.drop_left' (by simp), Nat.add_sub_cancel_left, h2]
    simp
theorem rd_one {S : Fo} (h1 : One S) (d : Nat) (X : List Nat) (room : Nat) (hd : dps S ≤ d) (hl : (wrs S).length ≤ 1048576) (hr : (wrs S).length ≤ room) : rd d (wrs S ++ X) room = .ok (rows S) (wrs S).length := by
  cases S with
  | no => exact h1.elim
  | st b nx =>
    obtain rfl : nx = .no := h1
    simp only [wrs, List.append_nil] at hl hr ⊢
    have hb : b.length ≤ 1048576 := by
      have : b.length ≤ (ws b).length := by unfold ws; split <;> simp
      omega
    cases d with
    | zero => exact rd_str _ _ _ _ hb hr
    | succ d => exact rd_str _ _ _ _ hb hr
  | li k nx =>
    obtain rfl : nx = .no := h1
    simp only [wrs, List.append_nil, List.length_append] at hl hr ⊢
    simp only [dps] at hd
    obtain ⟨d', rfl⟩ : ∃ d', d = d' + 1 := ⟨d - 1, by omega⟩
    have hk := lop_rows k d' X [] ((wrs k).length + 1) (by omega) (by omega) (by omega)
    rw [List.append_assoc, rd_li k d' X room (by omega) hr hk]
    simp [rows]
theorem bval_ge : ∀ l : List Nat, l.getD 0 0 ≠ 0 → 256 ^ (l.length - 1) ≤ bval l := fun l => by
  refine snoc_ind (P := fun l => l.getD 0 0 ≠ 0 → 256 ^ (l.length - 1) ≤ bval l) (fun h => absurd rfl h) (fun l x ih => ?_) l
  intro h
  by_cases hl : l.length = 0
  · obtain rfl := List.length_eq_zero_iff.1 hl
    simp only [List.nil_append, List.getD_cons_zero] at h
    simp [bval]
    omega
  · rw [getD_left _ _ (by omega)] at h
    have := ih h
    rw [bval_snoc, List.length_append, List.length_singleton, Nat.add_sub_cancel, show l.length = (l.length - 1) + 1 by omega, Nat.pow_succ]
    omega
theorem hdp_sound {c : Nat} {T : List Nat} {ls : Bool} {u n : Nat} (h : hdp c T = .got ls u n) (hc : 128 ≤ c) (hc2 : c < 256) (hT : ∀ x ∈ T, x < 256) (hn : n < 1000000000) :
    hea n (if ls = true then 64 else 0) = (c :: T).take u ∧ u ≤ (c :: T).length := by
  unfold hdp at h
  simp only at h
  obtain ⟨m, c', hm, hc', hcm, hls⟩ : ∃ m c', (if 192 ≤ c then c - 64 else c) = c' ∧ c' < 192 ∧ c = c' + m ∧ (if decide (192 ≤ c) = true then 64 else 0) = m := by
    by_cases h192 : 192 ≤ c
    · exact ⟨64, c - 64, by rw [if_pos h192], by omega, by omega, by simp [h192]⟩
    · exact ⟨0, c, by rw [if_neg h192], by omega, by omega, by simp [h192]⟩
  rw [hm] at h
  have hc1 : 128 ≤ c' := by
    rw [← hm]
    split <;> omega
  split at h
  · rename_i h1
    cases h
    rw [hls]
    refine ⟨?_, by simp⟩
    rw [hea, if_pos (by omega), show 128 + m + (c' - 128) = c by omega]
    simp
  · rename_i h1
    split at h
    · cases h
    · rename_i h2
      split at h
      · cases h
      · rename_i h3
        split at h
        · cases h
        · rename_i h4
          cases h
          rw [hls]
          obtain ⟨k, hk⟩ : ∃ k, c' - 183 = k + 1 := ⟨c' - 184, by omega⟩
          rw [hk] at h2 h4 hn ⊢
          have hD : (T.take (k + 1)).length = k + 1 := by rw [List.length_take]; omega
          have hb : ∀ x ∈ T.take (k + 1), x < 256 := fun x hx => hT x (List.mem_of_mem_take hx)
          have hg : (T.take (k + 1)).getD 0 0 ≠ 0 := by
            cases T with
            | nil => simp at h2
            | cons y T => simpa using h3
          have hv : cval (T.take (k + 1)) = bval (T.take (k + 1)) := by
            have := cval_bval (T.take (k + 1))
            omega
          rw [hv] at h4 ⊢
          have g1 := bval_ge _ hg
          have g2 := bval_lt _ hb
          have g3 := bdig_bval _ hb
          rw [hD] at g1 g2 g3
          have hnb : nbl (bval (T.take (k + 1))) = k + 1 := nbl_of (by simpa using g1) g2
          refine ⟨?_, by simp; omega⟩
          rw [hea, if_neg h4, hnb, g3, show 183 + m + (k + 1) = c by omega, Nat.add_comm 1 (k + 1), List.take_succ_cons]
/-- What an item that was read is. -/
def Was (d : Nat) (R : List Nat) (room : Nat) (l : List Nd) (u : Nat) : Prop := ∃ S, One S ∧ rows S = l ∧ dps S ≤ d ∧ u ≤ room ∧ u = (wrs S).length ∧ ∃ X, R = wrs S ++ X
theorem lop_sound {one : List Nat → Nat → Res} {d : Nat} {R0 : Nat} (h1 : ∀ R room l u, (∀ x ∈ R, x < 256) → R.length ≤ R0 → 0 < room → one R room = .ok l u → Was d R room l u) :
    ∀ (fuel : Nat) (R : List Nat) (room : Nat) (acc l : List Nd) (u : Nat), (∀ x ∈ R, x < 256) → R.length ≤ R0 → lop one fuel R room acc = .ok l u → ∃ F X, l = acc ++ rows F ∧ R = wrs F ++ X ∧ (wrs F).length = room ∧ dps F ≤ d
  | 0, _, _, _, _, _, _, _, h => by simp [lop] at h
  | fuel + 1, R, room, acc, l, u, hR, hl, h => by
    rw [lop] at h
    by_cases h0 : room = 0
    · rw [if_pos h0] at h
      cases h
      exact ⟨.no, R, by simp [rows], by simp [wrs], by simp [wrs, h0], by simp [dps]⟩
    · rw [if_neg h0] at h
      cases ho : one R room with
      | err e => rw [ho] at h; cases h
      | ok l1 u1 =>
        rw [ho] at h
        simp only at h
        obtain ⟨S, hS1, rfl, hS2, hu, rfl, X, rfl⟩ := h1 R room l1 u1 hR hl (by omega) ho
        rw [List.drop_left' rfl] at h
        obtain ⟨F, Y, rfl, rfl, hlen, hd⟩ := lop_sound h1 fuel X _ _ l u (fun x hx => hR x (by simp [hx])) (by simp at hl; omega) h
        cases S with
        | no => exact hS1.elim
        | st b nx =>
          obtain rfl : nx = .no := hS1
          refine ⟨.st b F, Y, by simp [rows], by simp [wrs], ?_, by simpa [dps] using hd⟩
          simp [wrs] at hlen hu ⊢
          omega
        | li k nx =>
          obtain rfl : nx = .no := hS1
          refine ⟨.li k F, Y, by simp [rows], by simp [wrs], ?_, ?_⟩
          · simp [wrs] at hlen hu ⊢
            omega
          · simp [dps] at hS2 ⊢
            omega
theorem rd_sound : ∀ (d : Nat) (R : List Nat) (room : Nat) (l : List Nd) (u : Nat), (∀ x ∈ R, x < 256) → R.length ≤ 1048576 → 0 < room → rd d R room = .ok l u → Was d R room l u := by
  have key : ∀ (d : Nat) (sub : Option (List Nat → Nat → Res)), (∀ one, sub = some one → ∃ e, d = e + 1 ∧ ∀ R room l u, (∀ x ∈ R, x < 256) → R.length ≤ 1048576 → 0 < room → one R room = .ok l u → Was e R room l u) →
      ∀ (R : List Nat) (room : Nat) (l : List Nd) (u : Nat), (∀ x ∈ R, x < 256) → R.length ≤ 1048576 → 0 < room → rdStep sub R room = .ok l u → Was d R room l u := by
    intro d sub hsub R room l u hR hl hr h
    cases R with
    | nil => cases h
    | cons c T =>
      unfold rdStep at h
      simp only at h
      have hc2 : c < 256 := hR c (by simp)
      by_cases hc : c < 128
      · rw [if_pos hc] at h
        cases h
        have hw : ws [c] = [c] := by simp [ws, hc]
        exact ⟨.st [c] .no, rfl, rfl, Nat.zero_le _, hr, by simp [wrs, hw], T, by simp [wrs, hw]⟩
      · rw [if_neg hc] at h
        cases hh : hdp c T with
        | bad e => rw [hh] at h; cases h
        | got ls v n =>
          rw [hh] at h
          simp only at h
          split at h
          · cases h
          · rename_i h1
            split at h
            · cases h
            · rename_i h2
              have hT : ∀ x ∈ T, x < 256 := fun x hx => hR x (by simp [hx])
              obtain ⟨he, hv⟩ := hdp_sound hh (by omega) hc2 hT (by omega)
              have hlen : (hea n (if ls = true then 64 else 0)).length = v := by rw [he, List.length_take]; omega
              have hsplit : (c :: T) = hea n (if ls = true then 64 else 0) ++ (c :: T).drop v := by rw [he, List.take_append_drop]
              have hn : n ≤ ((c :: T).drop v).length := by rw [List.length_drop]; omega
              split at h
              · rename_i hf
                subst hf
                split at h
                · cases h
                · rename_i h3
                  cases h
                  obtain ⟨b, hb⟩ : ∃ b, ((c :: T).drop v).take n = b := ⟨_, rfl⟩
                  have hbl : b.length = n := by rw [← hb, List.length_take]; omega
                  have hw : ws b = hea n 0 ++ b := by
                    rw [ws, if_neg ?_, hbl]
                    rintro ⟨q1, q2⟩
                    refine h3 ⟨by omega, ?_⟩
                    rw [← hb] at q2
                    have e1 : (c :: T).getD v 0 = ((c :: T).drop v).getD 0 0 := by simp [List.getD]
                    rw [e1]
                    cases hx : (c :: T).drop v with
                    | nil => rw [hx] at hn; simp at hn; omega
                    | cons y Y =>
                      rw [hx, show n = 0 + 1 by omega] at q2
                      simpa using q2
                  rw [hb]
                  refine ⟨.st b .no, rfl, rfl, Nat.zero_le _, by omega, ?_, ((c :: T).drop v).drop n, ?_⟩
                  · simp only [wrs, hw, List.append_nil, List.length_append]
                    simp only [Bool.false_eq_true, if_false] at hlen
                    omega
                  · simp only [wrs, hw, List.append_nil, List.append_assoc]
                    rw [← hb, List.take_append_drop]
                    exact hsplit
              · rename_i hf
                have hls : ls = true := by
                  cases ls with
                  | true => rfl
                  | false => exact absurd rfl hf
                subst hls
                cases sub with
                | none => cases h
                | some one =>
                  obtain ⟨e, rfl, hone⟩ := hsub one rfl
                  simp only at h
                  cases hlop : lop one (n + 1) ((c :: T).drop v) n [] with
                  | err x => rw [hlop] at h; cases h
                  | ok l1 u1 =>
                    rw [hlop] at h
                    cases h
                    obtain ⟨F, X, rfl, hX, hF, hd⟩ := lop_sound hone (n + 1) _ n [] l1 u1 (fun x hx => hR x (List.mem_of_mem_drop hx)) (by rw [List.length_drop]; omega) hlop
                    refine ⟨.li F .no, rfl, by simp [rows], ?_, by omega, ?_, X, ?_⟩
                    · simp [dps]; omega
                    · simp only [if_true] at hlen
                      simp only [wrs, List.append_nil, List.length_append, hF]
                      omega
                    · simp only [wrs, List.append_nil, hF, List.append_assoc]
                      rw [← hX]
                      simpa using hsplit
  intro d
  induction d with
  | zero => exact key 0 none (fun one h => by cases h)
  | succ d ih => exact key (d + 1) (some (rd d)) (fun one h => by cases h; exact ⟨d, rfl, ih⟩)
/-- What decoding answers: the row, or an error. -/
def dec (R : List Nat) : Res := if 1048576 < R.length then .err 4 else match rd 64 R R.length with
  | .err e => .err e
  | .ok l u => if u < R.length then .err 2 else .ok l u
theorem dec_wrs {S : Fo} (h1 : One S) (hd : dps S ≤ 64) (hl : (wrs S).length ≤ 1048576) : dec (wrs S) = .ok (rows S) (wrs S).length := by
  have h := rd_one h1 64 [] (wrs S).length hd hl (Nat.le_refl _)
  rw [List.append_nil] at h
  rw [dec, if_neg (by omega), h]
  simp only
  rw [if_neg (by omega)]
theorem dec_sound {R : List Nat} {l : List Nd} {u : Nat} (hR : ∀ x ∈ R, x < 256) (h : dec R = .ok l u) : ∃ S, One S ∧ rows S = l ∧ dps S ≤ 64 ∧ wrs S = R := by
  unfold dec at h
  split at h
  · cases h
  · rename_i h1
    cases hr : rd 64 R R.length with
    | err e => rw [hr] at h; cases h
    | ok l1 u1 =>
      rw [hr] at h
      simp only at h
      split at h
      · cases h
      · rename_i h2
        cases h
        have hp : 0 < R.length := by
          cases R with
          | nil => cases hr
          | cons _ _ => simp
        obtain ⟨S, hS, rfl, hd, hu, rfl, X, rfl⟩ := rd_sound 64 R R.length l u hR (by omega) hp hr
        have : X = [] := by
          rw [List.length_append] at h2
          exact List.length_eq_zero_iff.1 (by omega)
        subst this
        exact ⟨S, hS, rfl, hd, by simp⟩
end Go.Proofs.Ytdgenbidgieojaa.SmWord
/- More on items in plain words: an item in lists, one in another; bytes without noughts ahead; bytes as a function of their place. -/
namespace Go.Proofs.Ytdgenbidgieojaa.SmWord
set_option maxRecDepth 100000

/-- Bytes in k lists, one in another. -/
def nest (b : List Nat) : Nat → Fo
  | 0 => .st b .no
  | k + 1 => .li (nest b k) .no
theorem nest_one (b : List Nat) : ∀ k, One (nest b k)
  | 0 => rfl
  | _ + 1 => rfl
theorem nest_dps (b : List Nat) : ∀ k, dps (nest b k) = k
  | 0 => rfl
  | k + 1 => by simp [nest, dps, nest_dps b k]
theorem nest_rows (b : List Nat) : ∀ k, rows (nest b k) = ((List.range k).map fun (i : Nat) => (⟨true, [], (k : Int) - (i : Int)⟩ : Nd)) ++ [⟨false, b, 0⟩]
  | 0 => rfl
  | k + 1 => by
    have h := nest_rows b k
    have hl : (rows (nest b k)).length = k + 1 := by rw [h]; simp
    rw [nest, rows, rows, List.append_nil, hl, h, List.range_succ_eq_map]
    simp only [List.map_cons, List.map_map, List.cons_append]
    congr 1
    simp
    omega
theorem hea_le {n : Nat} (m : Nat) (h : n ≤ 1048576) : (hea n m).length ≤ 9 := by
  have := nbl_le8 h
  unfold hea
  split
  · simp
  · simp [bdig_length]; omega
theorem nest_long (b : List Nat) (hb : b.length ≤ 300) : ∀ k, k ≤ 70 → (wrs (nest b k)).length ≤ 400 + 9 * k
  | 0, _ => by
    simp only [nest, wrs, List.append_nil, ws]
    split
    · omega
    · have := hea_le (n := b.length) 0 (by omega)
      rw [List.length_append]
      omega
  | k + 1, h => by
    have h1 := nest_long b hb k (by omega)
    have h2 := hea_le (n := (wrs (nest b k)).length) 64 (by omega)
    simp only [nest, wrs, List.append_nil, List.length_append]
    omega

/-! Bytes of a number -/
theorem bdig_get : ∀ k n i, i < k → (bdig k n).getD i 0 = n / 256 ^ (k - 1 - i) % 256
  | k + 1, n, i, h => by
    rw [bdig]
    by_cases e : i < k
    · rw [getD_left _ _ (by rw [bdig_length]; exact e), bdig_get k (n / 256) i e, Nat.div_div_eq_div_mul, ← Nat.pow_succ', show (k - 1 - i).succ = k + 1 - 1 - i by omega]
    · obtain rfl : i = k := by omega
      have : (bdig i (n / 256) ++ [n % 256])[i]? = some (n % 256) := by rw [List.getElem?_append_right (by rw [bdig_length]; exact Nat.le_refl _), bdig_length, Nat.sub_self]; rfl
      rw [List.getD, this, show i + 1 - 1 - i = 0 by omega]
      simp
theorem bdig_drop : ∀ k j n, (bdig (j + k) n).drop j = bdig k n
  | 0, j, n => by
    rw [Nat.add_zero, List.drop_eq_nil_of_le (by rw [bdig_length]; exact Nat.le_refl _)]
    rfl
  | k + 1, j, n => by rw [← Nat.add_assoc, bdig, bdig, List.drop_append_of_le_length (by rw [bdig_length]; omega), bdig_drop k j]
/-- The first bytes of a number that has fewer are noughts; the next one isn't. -/
theorem bdig_nought {n k i : Nat} (hi : i < k - nbl n) (hk : nbl n ≤ k) : (bdig k n).getD i 0 = 0 := by
  rw [bdig_get k n i (by omega), Nat.div_eq_of_lt, Nat.zero_mod]
  exact Nat.lt_of_lt_of_le (nbl_lt n) (Nat.pow_le_pow_right (by decide) (by omega))
theorem bdig_first {n k : Nat} (hn : n ≠ 0) (hk : nbl n ≤ k) : (bdig k n).getD (k - nbl n) 0 ≠ 0 := by
  have hp : nbl n ≠ 0 := by simp [nbl, hn]
  have a := nbl_le hn
  have b := nbl_lt n
  rw [bdig_get k n _ (by omega), show k - 1 - (k - nbl n) = nbl n - 1 by omega]
  have e1 : n / 256 ^ (nbl n - 1) < 256 := by
    rw [Nat.div_lt_iff_lt_mul (Nat.pow_pos (by decide)), ← Nat.pow_succ', show (nbl n - 1).succ = nbl n by omega]
    exact b
  have e2 : 0 < n / 256 ^ (nbl n - 1) := Nat.div_pos a (Nat.pow_pos (by decide))
  rw [Nat.mod_eq_of_lt e1]
  omega
theorem nbl_le_of {n k : Nat} (h : n < 256 ^ k) : nbl n ≤ k := by
  by_cases h0 : n = 0
  · simp [nbl, h0]
  · have a := nbl_le h0
    have : nbl n - 1 < k := (Nat.pow_lt_pow_iff_right (by decide)).1 (Nat.lt_of_le_of_lt a h)
    omega

/-! Bytes by their place -/
/-- n bytes from a place on. -/
def bf (f : Nat → Nat) (a n : Nat) : List Nat := (List.range n).map fun i => f (a + i)
theorem bf_length (f : Nat → Nat) (a n : Nat) : (bf f a n).length = n := by simp [bf]
theorem bf_get (f : Nat → Nat) (a : Nat) {n i : Nat} (h : i < n) : (bf f a n).getD i 0 = f (a + i) := by simp [bf, List.getD, h]
theorem bf_drop (f : Nat → Nat) (a : Nat) {n k : Nat} (h : k ≤ n) : (bf f a n).drop k = bf f (a + k) (n - k) := by
  apply List.ext_getElem?
  intro i
  rw [List.getElem?_drop]
  by_cases hi : i < n - k
  · simp [bf, hi, show k + i < n by omega, Nat.add_assoc]
  · rw [List.getElem?_eq_none (by rw [bf_length]; omega), List.getElem?_eq_none (by rw [bf_length]; omega)]
theorem bf_take (f : Nat → Nat) (a : Nat) {n k : Nat} (h : k ≤ n) : (bf f a n).take k = bf f a k := by
  apply List.ext_getElem?
  intro i
  by_cases hi : i < k
  · rw [List.getElem?_take_of_lt hi]
    simp [bf, hi, show i < n by omega]
  · rw [List.getElem?_eq_none (by rw [List.length_take, bf_length]; omega), List.getElem?_eq_none (by rw [bf_length]; omega)]
theorem bf_cons (f : Nat → Nat) (a n : Nat) : bf f a (n + 1) = f a :: bf f (a + 1) n := by
  rw [bf, List.range_succ_eq_map]
  simp only [List.map_cons, List.map_map, Nat.add_zero, bf]
  congr 1
  refine List.map_congr_left fun i _ => ?_
  simp only [Function.comp]
  congr 1
  omega
theorem bf_app (f : Nat → Nat) (a n m : Nat) : bf f a n ++ bf f (a + n) m = bf f a (n + m) := by
  simp only [bf, List.range_add, List.map_append, List.map_map]
  congr 1
  refine List.map_congr_left fun i _ => ?_
  simp only [Function.comp, Nat.add_assoc]
theorem bf_congr {f g : Nat → Nat} {a b n : Nat} (h : ∀ i, i < n → f (a + i) = g (b + i)) : bf f a n = bf g b n := List.map_congr_left fun i hi => h i (List.mem_range.1 hi)
theorem bf_list (l : List Nat) : bf (fun i => l.getD i 0) 0 l.length = l := by
  apply List.ext_getElem?
  intro i
  by_cases hi : i < l.length
  · simp [bf, List.getD, hi]
  · rw [List.getElem?_eq_none (by rw [bf_length]; omega), List.getElem?_eq_none (by omega)]
end Go.Proofs.Ytdgenbidgieojaa.SmWord
/- Accounts in versions, plainly: what the document says of them. -/
namespace Go.Proofs.Ytdgenbidgieojaa
open SmWord

/-- An account: its address, nonce, balance, code and slots. -/
structure Acc where
  ad : Nat
  no : Nat
  ba : Nat
  co : List Nat
  so : List (Nat × Nat)
instance : Inhabited Acc := ⟨⟨0, 0, 0, [], []⟩⟩

def Acc.none : Acc := ⟨0, 0, 0, [], []⟩
def emptyA (a : Acc) : Bool := a.no == 0 && a.ba == 0 && a.co.isEmpty && a.so.isEmpty
/-- Slots by rising keys, none of them 0; what comes before is below them. -/
def rightS : List (Nat × Nat) → Bool
  | [] => true
  | [s] => !(s.2 == 0)
  | s :: t :: l => !(s.2 == 0) && decide (s.1 < t.1) && rightS (t :: l)
def rightA (a : Acc) : Bool := rightS a.so
/-- Into its place. -/
def putA (a : Acc) : List Acc → List Acc
  | [] => [a]
  | x :: l => if a.ad < x.ad then a :: x :: l else if x.ad = a.ad then a :: l else x :: putA a l
def putAll (L l : List Acc) : List Acc := l.foldl (fun L a => putA a L) L
def lookA (L : List Acc) (A : Nat) : Option Acc := L.find? (fun x => x.ad == A)
def Srt (L : List Acc) : Prop := L.Pairwise fun x y => x.ad < y.ad

theorem putA_mem {a : Acc} : ∀ {L : List Acc} {x : Acc}, x ∈ putA a L → x = a ∨ x ∈ L
  | [], x, h => by simp [putA] at h; exact .inl h
  | y :: L, x, h => by
    unfold putA at h
    split at h
    · simp at h; rcases h with rfl | rfl | h <;> simp [*]
    · split at h
      · simp at h; rcases h with rfl | h <;> simp [*]
      · simp at h
        rcases h with rfl | h
        · simp
        · rcases putA_mem h with rfl | h' <;> simp [*]
theorem putA_srt {a : Acc} : ∀ {L : List Acc}, Srt L → Srt (putA a L)
  | [], _ => by simp [putA, Srt]
  | y :: L, h => by
    obtain ⟨h1, h2⟩ := List.pairwise_cons.1 h
    unfold putA
    split
    · rename_i hlt
      refine List.pairwise_cons.2 ⟨fun z hz => ?_, h⟩
      rcases List.mem_cons.1 hz with rfl | hz
      · exact hlt
      · exact Nat.lt_trans hlt (h1 z hz)
    · split
      · rename_i _ he
        exact List.pairwise_cons.2 ⟨fun z hz => he ▸ h1 z hz, h2⟩
      · rename_i hn hne
        refine List.pairwise_cons.2 ⟨fun z hz => ?_, putA_srt h2⟩
        rcases putA_mem hz with rfl | hz
        · omega
        · exact h1 z hz
theorem lookA_none_of {L : List Acc} {A : Nat} (h : ∀ x ∈ L, x.ad ≠ A) : lookA L A = none := by
  unfold lookA
  rw [List.find?_eq_none]
  intro x hx
  simp [h x hx]
theorem putA_look {a : Acc} (A : Nat) : ∀ {L : List Acc}, Srt L → lookA (putA a L) A = if A = a.ad then some a else lookA L A
  | [], _ => by
    by_cases h : A = a.ad <;> simp [putA, lookA, h]
    exact fun e => h e.symm
  | y :: L, h => by
    obtain ⟨h1, h2⟩ := List.pairwise_cons.1 h
    unfold putA
    split
    · rename_i hlt
      by_cases e : A = a.ad
      · simp [lookA, e]
      · unfold lookA; rw [List.find?_cons_of_neg (by simp; exact fun e' => e e'.symm), if_neg e]
    · split
      · rename_i _ he
        by_cases e : A = a.ad
        · simp [lookA, e]
        · unfold lookA
          rw [List.find?_cons_of_neg (by simp; exact fun e' => e e'.symm), if_neg e, List.find?_cons_of_neg (by simp; omega)]
      · rename_i hn hne
        by_cases e : y.ad = A
        · unfold lookA
          rw [List.find?_cons_of_pos (by simp [e]), if_neg (by omega), List.find?_cons_of_pos (by simp [e])]
        · unfold lookA
          rw [List.find?_cons_of_neg (by simp [e]), List.find?_cons_of_neg (by simp [e])]
          exact putA_look A h2
theorem putAll_srt : ∀ {l L : List Acc}, Srt L → Srt (putAll L l)
  | [], _, h => h
  | _ :: l, _, h => putAll_srt (l := l) (putA_srt h)
/-- The last one of an address. -/
def lastA (l : List Acc) (A : Nat) : Option Acc := lookA l.reverse A
theorem lastA_snoc (l : List Acc) (a : Acc) (A : Nat) : lastA (l ++ [a]) A = if A = a.ad then some a else lastA l A := by
  unfold lastA lookA
  rw [List.reverse_append, List.reverse_singleton, List.singleton_append]
  by_cases h : A = a.ad
  · rw [List.find?_cons_of_pos (by simp [h]), if_pos h]
  · rw [List.find?_cons_of_neg (by simp; exact fun e => h e.symm), if_neg h]
theorem lastA_append (l : List Acc) (A : Nat) : ∀ l', lastA (l' ++ l) A = (lastA l A).or (lastA l' A) := by
  intro l'
  unfold lastA lookA
  rw [List.reverse_append, List.find?_append]
theorem putAll_look (A : Nat) : ∀ {l L : List Acc}, Srt L → lookA (putAll L l) A = (lastA l A).or (lookA L A)
  | [], _, _ => rfl
  | a :: l, L, h => by
    show lookA (putAll (putA a L) l) A = _
    rw [putAll_look A (putA_srt h), putA_look A h, show a :: l = [a] ++ l from rfl, lastA_append l A [a], Option.or_assoc]
    congr 1
    unfold lastA lookA
    by_cases e : A = a.ad
    · simp [e]
    · rw [if_neg e]
      have : ¬ a.ad = A := fun e' => e e'.symm
      simp [this]
theorem putAll_mem : ∀ {l L : List Acc} {x : Acc}, x ∈ putAll L l → x ∈ l ∨ x ∈ L
  | [], _, _, h => .inr h
  | a :: l, L, x, h => by
    rcases putAll_mem (l := l) (L := putA a L) h with h | h
    · exact .inl (by simp [h])
    · rcases putA_mem h with rfl | h
      · exact .inl (by simp)
      · exact .inr h
theorem lookA_some {L : List Acc} {A : Nat} {x : Acc} (h : lookA L A = some x) : x ∈ L ∧ x.ad = A := by
  unfold lookA at h
  exact ⟨List.mem_of_find?_eq_some h, by simpa using List.find?_some h⟩
theorem lookA_of_mem {L : List Acc} (h : Srt L) {x : Acc} (hx : x ∈ L) : lookA L x.ad = some x := by
  induction L with
  | nil => simp at hx
  | cons y L ih =>
    obtain ⟨h1, h2⟩ := List.pairwise_cons.1 h
    unfold lookA
    rcases List.mem_cons.1 hx with rfl | hx
    · rw [List.find?_cons_of_pos (by simp)]
    · rw [List.find?_cons_of_neg (by simp; have := h1 x hx; omega)]
      exact ih h2 hx

/-! Where a version's account was set last. -/
/-- The nearest version from v up in which A was set: what was set there. -/
def near (par : Nat → Nat) (acc : Nat → Option Nat) (v : Nat) : Option Nat :=
  match acc v with
  | some b => some b
  | none => if _h : par v < v then near par acc (par v) else none
termination_by v
theorem near_some {par : Nat → Nat} {acc : Nat → Option Nat} {v b : Nat} (h : acc v = some b) : near par acc v = some b := by rw [near, h]
theorem near_none {par : Nat → Nat} {acc : Nat → Option Nat} {v : Nat} (h : acc v = none) (hp : par v < v) : near par acc v = near par acc (par v) := by rw [near, h]; simp [hp]
theorem near_stop {par : Nat → Nat} {acc : Nat → Option Nat} {v : Nat} (h : acc v = none) (hp : ¬ par v < v) : near par acc v = none := by rw [near, h]; simp [hp]
/-- x is v, or above it. -/
inductive Up (par : Nat → Nat) : Nat → Nat → Prop
  | here (v : Nat) : Up par v v
  | step {v x : Nat} : par v < v → Up par (par v) x → Up par v x
theorem Up.le {par : Nat → Nat} {v x : Nat} (h : Up par v x) : x ≤ v := by induction h <;> omega
theorem Up.trans {par : Nat → Nat} {v x y : Nat} (h : Up par v x) (k : Up par x y) : Up par v y := by
  induction h with
  | here => exact k
  | step hp _ ih => exact .step hp (ih k)
/-- Nothing was set from v on up to x (x left out): the same is near. -/
theorem near_up {par : Nat → Nat} {acc : Nat → Option Nat} {v x : Nat} (h : Up par v x) (hn : ∀ y, x < y → y ≤ v → acc y = none) : near par acc v = near par acc x := by
  induction h with
  | here => rfl
  | @step v x hp hu ih =>
    have := hu.le
    rw [near_none (hn v (by omega) (Nat.le_refl _)) hp, ih fun y h1 h2 => hn y h1 (by omega)]
/-- The first one from v up that is u at most. -/
structure First (par : Nat → Nat) (v u x : Nat) : Prop where
  up : Up par v x
  le : x ≤ u
theorem near_low {par : Nat → Nat} {acc : Nat → Option Nat} : ∀ {v : Nat}, (∀ y, y ≤ v → acc y = none) → near par acc v = none := by
  intro v
  induction v using Nat.strongRecOn with
  | _ v ih =>
    intro h
    by_cases hp : par v < v
    · rw [near_none (h v (Nat.le_refl _)) hp]
      exact ih _ hp fun y hy => h y (by omega)
    · exact near_stop (h v (Nat.le_refl _)) hp
end Go.Proofs.Ytdgenbidgieojaa
