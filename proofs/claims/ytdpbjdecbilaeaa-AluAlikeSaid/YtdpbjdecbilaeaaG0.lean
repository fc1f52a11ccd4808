/- Plain arithmetic on the four parts of a word: no program is named here. -/
import Derived.Laws.BitsAllLaws
namespace Go.Proofs.Ytdpbjdecbilaeaa.SmWord

/-- 2^64 -/
abbrev B : Nat := 18446744073709551616
/-- 2^256 -/
def M : Nat := 115792089237316195423570985008687907853269984665640564039457584007913129639936

theorem M_eq : M = B * B * B * B := by decide

def l0 (n : Nat) : Nat := n % B
def l1 (n : Nat) : Nat := n / B % B
def l2 (n : Nat) : Nat := n / B / B % B
def l3 (n : Nat) : Nat := n / B / B / B % B

theorem l_lt (n : Nat) : l0 n < B ∧ l1 n < B ∧ l2 n < B ∧ l3 n < B := by
  unfold l0 l1 l2 l3
  exact ⟨Nat.mod_lt _ (by decide), Nat.mod_lt _ (by decide), Nat.mod_lt _ (by decide), Nat.mod_lt _ (by decide)⟩

/-- A number out of its four parts. -/
def num (a b c d : Nat) : Nat := a + B * (b + B * (c + B * d))

theorem parts_num {a b c d : Nat} (ha : a < B) (hb : b < B) (hc : c < B) (hd : d < B) :
    l0 (num a b c d) = a ∧ l1 (num a b c d) = b ∧ l2 (num a b c d) = c ∧ l3 (num a b c d) = d := by
  unfold l0 l1 l2 l3 num
  have h1 : (a + B * (b + B * (c + B * d))) / B = b + B * (c + B * d) := by
    rw [Nat.add_mul_div_left _ _ (by decide), Nat.div_eq_of_lt ha, Nat.zero_add]
  have h2 : (b + B * (c + B * d)) / B = c + B * d := by
    rw [Nat.add_mul_div_left _ _ (by decide), Nat.div_eq_of_lt hb, Nat.zero_add]
  have h3 : (c + B * d) / B = d := by
    rw [Nat.add_mul_div_left _ _ (by decide), Nat.div_eq_of_lt hc, Nat.zero_add]
  rw [h1, h2, h3]
  refine ⟨?_, ?_, ?_, Nat.mod_eq_of_lt hd⟩
  · rw [Nat.add_mul_mod_self_left]; exact Nat.mod_eq_of_lt ha
  · rw [Nat.add_mul_mod_self_left]; exact Nat.mod_eq_of_lt hb
  · rw [Nat.add_mul_mod_self_left]; exact Nat.mod_eq_of_lt hc

theorem num_parts (n : Nat) : num (l0 n) (l1 n) (l2 n) (l3 n) = n % M := by
  have hM : M = B * (B * (B * B)) := by decide
  unfold num l0 l1 l2 l3
  rw [hM, Nat.mod_mul, Nat.mod_mul, Nat.mod_mul]

theorem num_lt {a b c d : Nat} (ha : a < B) (hb : b < B) (hc : c < B) (hd : d < B) : num a b c d < M := by
  have h := parts_num ha hb hc hd
  have h2 := num_parts (num a b c d)
  rw [h.1, h.2.1, h.2.2.1, h.2.2.2] at h2
  rw [h2]; exact Nat.mod_lt _ (by decide)

theorem parts_congr {m n : Nat} (h : m % M = n % M) : l0 m = l0 n ∧ l1 m = l1 n ∧ l2 m = l2 n ∧ l3 m = l3 n := by
  have k : ∀ x : Nat, l0 (x % M) = l0 x ∧ l1 (x % M) = l1 x ∧ l2 (x % M) = l2 x ∧ l3 (x % M) = l3 x := fun x => by
    rw [← num_parts x]
    have := l_lt x
    exact parts_num this.1 this.2.1 this.2.2.1 this.2.2.2
  have hm := k m
  have hn := k n
  rw [h] at hm
  exact ⟨hm.1.symm.trans hn.1, hm.2.1.symm.trans hn.2.1, hm.2.2.1.symm.trans hn.2.2.1, hm.2.2.2.symm.trans hn.2.2.2⟩

theorem congr_parts {m n : Nat} (h0 : l0 m = l0 n) (h1 : l1 m = l1 n) (h2 : l2 m = l2 n) (h3 : l3 m = l3 n) : m % M = n % M := by
  rw [← num_parts m, ← num_parts n, h0, h1, h2, h3]

theorem mod_cancel {x k n m : Nat} (h : (x + n % M) % M = m % M) (hk : (k + n) % M = m % M) : x % M = k % M := by
  have a : ∀ y : Nat, y % M = ((y + n % M) % M + (M - n % M)) % M := fun y => by
    have : n % M < M := Nat.mod_lt _ (by decide)
    rw [Nat.mod_add_mod, show y + n % M + (M - n % M) = y + M by omega, Nat.add_mod_right]
  rw [a x, a k, h, ← hk, Nat.add_mod_mod]

/-! Sums -/
def lo (x y c : Nat) : Nat := (x + y + c) % B
def hi (x y c : Nat) : Nat := (x + y + c) / B
theorem hi_le {x y c : Nat} (hx : x < B) (hy : y < B) (hc : c ≤ 1) : hi x y c ≤ 1 := by
  unfold hi; simp only [B] at *; omega
theorem lo_lt (x y c : Nat) : lo x y c < B := Nat.mod_lt _ (by decide)
theorem lo_hi (x y c : Nat) : lo x y c + B * hi x y c = x + y + c := Nat.mod_add_div _ _

theorem add_num (a0 a1 a2 a3 b0 b1 b2 b3 : Nat) :
    num (lo a0 b0 0) (lo a1 b1 (hi a0 b0 0)) (lo a2 b2 (hi a1 b1 (hi a0 b0 0))) (lo a3 b3 (hi a2 b2 (hi a1 b1 (hi a0 b0 0)))) % M = (num a0 a1 a2 a3 + num b0 b1 b2 b3) % M := by
  have e0 := lo_hi a0 b0 0
  generalize lo a0 b0 0 = r0 at *
  generalize hi a0 b0 0 = c0 at *
  have e1 := lo_hi a1 b1 c0
  generalize lo a1 b1 c0 = r1 at *
  generalize hi a1 b1 c0 = c1 at *
  have e2 := lo_hi a2 b2 c1
  generalize lo a2 b2 c1 = r2 at *
  generalize hi a2 b2 c1 = c2 at *
  have e3 := lo_hi a3 b3 c2
  generalize lo a3 b3 c2 = r3 at *
  generalize hi a3 b3 c2 = c3 at *
  have hM : M = B * (B * (B * B)) := by decide
  have : num a0 a1 a2 a3 + num b0 b1 b2 b3 = num r0 r1 r2 r3 + M * c3 := by
    unfold num
    rw [hM]
    simp only [B] at *
    omega
  rw [this, Nat.add_mul_mod_self_left]

/-! Differences -/
def dlo (x y c : Nat) : Nat := (x + B - y - c) % B
def dhi (x y c : Nat) : Nat := if x < y + c then 1 else 0
theorem dhi_le (x y c : Nat) : dhi x y c ≤ 1 := by unfold dhi; split <;> omega
theorem dlo_lt (x y c : Nat) : dlo x y c < B := Nat.mod_lt _ (by decide)
theorem dlo_dhi {x y c : Nat} (hx : x < B) (hy : y < B) (hc : c ≤ 1) : dlo x y c + y + c = x + B * dhi x y c := by
  unfold dlo dhi
  simp only [B] at *
  split <;> omega

theorem sub_num {a0 a1 a2 a3 b0 b1 b2 b3 : Nat} (ha0 : a0 < B) (ha1 : a1 < B) (ha2 : a2 < B) (ha3 : a3 < B) (hb0 : b0 < B) (hb1 : b1 < B) (hb2 : b2 < B) (hb3 : b3 < B) :
    (num (dlo a0 b0 0) (dlo a1 b1 (dhi a0 b0 0)) (dlo a2 b2 (dhi a1 b1 (dhi a0 b0 0))) (dlo a3 b3 (dhi a2 b2 (dhi a1 b1 (dhi a0 b0 0)))) + num b0 b1 b2 b3) % M = num a0 a1 a2 a3 % M := by
  have e0 := dlo_dhi ha0 hb0 (c := 0) (by omega)
  have f0 := dhi_le a0 b0 0
  generalize dlo a0 b0 0 = r0 at *
  generalize dhi a0 b0 0 = c0 at *
  have e1 := dlo_dhi ha1 hb1 f0
  have f1 := dhi_le a1 b1 c0
  generalize dlo a1 b1 c0 = r1 at *
  generalize dhi a1 b1 c0 = c1 at *
  have e2 := dlo_dhi ha2 hb2 f1
  have f2 := dhi_le a2 b2 c1
  generalize dlo a2 b2 c1 = r2 at *
  generalize dhi a2 b2 c1 = c2 at *
  have e3 := dlo_dhi ha3 hb3 f2
  generalize dlo a3 b3 c2 = r3 at *
  generalize dhi a3 b3 c2 = c3 at *
  have hM : M = B * (B * (B * B)) := by decide
  have : num r0 r1 r2 r3 + num b0 b1 b2 b3 = num a0 a1 a2 a3 + M * c3 := by
    unfold num
    rw [hM]
    simp only [B] at *
    omega
  rw [this, Nat.add_mul_mod_self_left]
/-! Products -/
theorem mul_expand (B a0 a1 a2 a3 b0 b1 b2 b3 : Nat) : (a0 + B * (a1 + B * (a2 + B * a3))) * (b0 + B * (b1 + B * (b2 + B * b3))) =
    a0 * b0 + B * (a0 * b1 + a1 * b0) + B * B * (a0 * b2 + a1 * b1 + a2 * b0) + B * B * B * (a0 * b3 + a1 * b2 + a2 * b1 + a3 * b0) + B * B * B * B * (a1 * b3 + a2 * b2 + a3 * b1 + B * (a2 * b3 + a3 * b2 + B * (a3 * b3))) := by grind

def mh (x y m n : Nat) : Nat := (x * y + m + n) / B
def ml (x y m n : Nat) : Nat := (x * y + m + n) % B
theorem ml_mh (x y m n : Nat) : ml x y m n + B * mh x y m n = x * y + m + n := Nat.mod_add_div _ _
theorem ml_lt (x y m n : Nat) : ml x y m n < B := Nat.mod_lt _ (by decide)
theorem mh_lt {x y m n : Nat} (hx : x < B) (hy : y < B) (hm : m < B) (hn : n < B) : mh x y m n < B := by
  unfold mh
  rw [Nat.div_lt_iff_lt_mul (by decide)]
  have h1 : x * y ≤ (B - 1) * (B - 1) := Nat.mul_le_mul (by omega) (by omega)
  have h2 : (B - 1) * (B - 1) + (B - 1) + (B - 1) < B * B := by decide
  omega

theorem mul_num {a0 a1 a2 a3 b0 b1 b2 b3 p00 p01 p02 p03 p10 p11 p12 p20 p21 p30 c00 c01 c02 c03 c10 c11 c12 c20 c21 c30 : Nat}
    (e00 : p00 + B * c00 = a0 * b0 + 0 + 0) (e01 : p01 + B * c01 = a0 * b1 + 0 + c00) (e02 : p02 + B * c02 = a0 * b2 + 0 + c01) (e03 : p03 + B * c03 = a0 * b3 + 0 + c02)
    (e10 : p10 + B * c10 = a1 * b0 + p01 + 0) (e11 : p11 + B * c11 = a1 * b1 + p02 + c10) (e12 : p12 + B * c12 = a1 * b2 + p03 + c11)
    (e20 : p20 + B * c20 = a2 * b0 + p11 + 0) (e21 : p21 + B * c21 = a2 * b1 + p12 + c20)
    (e30 : p30 + B * c30 = a3 * b0 + p21 + 0) :
    num p00 p10 p20 p30 % M = (num a0 a1 a2 a3 * num b0 b1 b2 b3) % M := by
  have hM : M = B * B * B * B := by decide
  have : num a0 a1 a2 a3 * num b0 b1 b2 b3 = num p00 p10 p20 p30 + M * (c03 + c12 + c21 + c30 + (a1 * b3 + a2 * b2 + a3 * b1 + B * (a2 * b3 + a3 * b2 + B * (a3 * b3)))) := by
    unfold num
    rw [mul_expand, hM]
    generalize a1 * b3 + a2 * b2 + a3 * b1 + B * (a2 * b3 + a3 * b2 + B * (a3 * b3)) = R
    generalize a0 * b0 = x00 at *
    generalize a0 * b1 = x01 at *
    generalize a0 * b2 = x02 at *
    generalize a0 * b3 = x03 at *
    generalize a1 * b0 = x10 at *
    generalize a1 * b1 = x11 at *
    generalize a1 * b2 = x12 at *
    generalize a2 * b0 = x20 at *
    generalize a2 * b1 = x21 at *
    generalize a3 * b0 = x30 at *
    simp only [B] at *
    omega
  rw [this, Nat.add_mul_mod_self_left]

theorem mulAdd_num {x y m n : Nat} :
    lo (lo (x * y % B) m 0) n 0 = ml x y m n ∧ x * y / B + hi (x * y % B) m 0 + hi (lo (x * y % B) m 0) n 0 = mh x y m n := by
  unfold lo hi ml mh
  generalize x * y = q
  simp only [B]
  omega

theorem not_num {a b c d n : Nat} (ha : a < B) (hb : b < B) (hc : c < B) (hd : d < B) (h : num a b c d = n % M) : M - 1 - n % M = num (B - 1 - a) (B - 1 - b) (B - 1 - c) (B - 1 - d) := by
  rw [← h]
  unfold num
  have hM : M = B * (B * (B * B)) := by decide
  rw [hM]
  simp only [B] at *
  omega
/-! Shifts -/
theorem B_split {r : Nat} (hr : r ≤ 64) : 2 ^ (64 - r) * 2 ^ r = B := by
  rw [← Nat.pow_add, show 64 - r + r = 64 by omega]
def slo (a r : Nat) : Nat := a * 2 ^ r % B
def shi (a r : Nat) : Nat := a / 2 ^ (64 - r)
theorem slo_shi (a : Nat) {r : Nat} (hr : r ≤ 64) : slo a r + B * shi a r = a * 2 ^ r := by
  have h : shi a r = a * 2 ^ r / B := by
    rw [← B_split hr, Nat.mul_div_mul_right _ _ (Nat.two_pow_pos r)]; rfl
  rw [h]; exact Nat.mod_add_div _ _
theorem shi_lt {a r : Nat} (ha : a < B) (hr : r ≤ 64) : shi a r < 2 ^ r := by
  unfold shi
  rw [Nat.div_lt_iff_lt_mul (Nat.two_pow_pos _), Nat.mul_comm, B_split hr]; exact ha
theorem slo_mod {a r : Nat} (hr : r ≤ 64) : slo a r % 2 ^ r = 0 := by
  unfold slo
  rw [← B_split hr, Nat.mul_mod_mul_right]; exact Nat.mul_mod_left _ _
theorem slo_lt (a r : Nat) : slo a r < B := Nat.mod_lt _ (by decide)
theorem shl_or {a b r : Nat} (hb : b < B) (hr : r ≤ 64) : slo a r ||| shi b r = slo a r + shi b r ∧ slo a r + shi b r < B := by
  have h := Go.nat_join r (slo a r) (shi b r) (slo_mod hr) (shi_lt hb hr)
  refine ⟨h, ?_⟩
  rw [← h]
  exact Nat.or_lt_two_pow (n := 64) (slo_lt a r) (Nat.lt_of_lt_of_le (shi_lt hb hr) (Nat.pow_le_pow_right (by decide) hr))

theorem shl_num (a0 a1 a2 a3 : Nat) {r : Nat} (hr : r ≤ 64) :
    num (slo a0 r) (slo a1 r + shi a0 r) (slo a2 r + shi a1 r) (slo a3 r + shi a2 r) % M = (num a0 a1 a2 a3 * 2 ^ r) % M := by
  have hM : M = B * (B * (B * B)) := by decide
  have e0 := slo_shi a0 hr
  have e1 := slo_shi a1 hr
  have e2 := slo_shi a2 hr
  have e3 := slo_shi a3 hr
  have : num a0 a1 a2 a3 * 2 ^ r = num (slo a0 r) (slo a1 r + shi a0 r) (slo a2 r + shi a1 r) (slo a3 r + shi a2 r) + M * shi a3 r := by
    have ex : num a0 a1 a2 a3 * 2 ^ r = num (a0 * 2 ^ r) (a1 * 2 ^ r) (a2 * 2 ^ r) (a3 * 2 ^ r) := by
      unfold num; generalize 2 ^ r = p; generalize B = b; grind
    rw [ex, ← e0, ← e1, ← e2, ← e3, hM]
    unfold num
    simp only [B]
    omega
  rw [this, Nat.add_mul_mod_self_left]

theorem num_up (x0 x1 x2 x3 : Nat) : num 0 x0 x1 x2 % M = (num x0 x1 x2 x3 * B) % M := by
  have hM : M = B * (B * (B * B)) := by decide
  have : num x0 x1 x2 x3 * B = num 0 x0 x1 x2 + M * x3 := by
    rw [hM]; unfold num; simp only [B]; omega
  rw [this, Nat.add_mul_mod_self_left]

theorem num_up' {x0 x1 x2 x3 z : Nat} (h : num x0 x1 x2 x3 % M = z % M) : num 0 x0 x1 x2 % M = (z * B) % M := by
  rw [num_up x0 x1 x2 x3, Nat.mul_mod, h, ← Nat.mul_mod]

/-! down -/
def down (a b r : Nat) : Nat := a / 2 ^ r + b % 2 ^ r * 2 ^ (64 - r)
theorem down_or {a b r : Nat} (ha : a < B) (hr : r ≤ 64) : a / 2 ^ r ||| b * 2 ^ (64 - r) % B = down a b r ∧ down a b r < B := by
  have e : b * 2 ^ (64 - r) % B = b % 2 ^ r * 2 ^ (64 - r) := by
    rw [← B_split hr, Nat.mul_comm (2 ^ (64 - r)) (2 ^ r), Nat.mul_mod_mul_right]
  have hl : a / 2 ^ r < 2 ^ (64 - r) := by
    rw [Nat.div_lt_iff_lt_mul (Nat.two_pow_pos _), B_split hr]; exact ha
  have h := Go.nat_join (64 - r) (b % 2 ^ r * 2 ^ (64 - r)) (a / 2 ^ r) (Nat.mul_mod_left _ _) hl
  have h2 : a / 2 ^ r ||| b * 2 ^ (64 - r) % B = down a b r := by
    rw [e, Nat.or_comm, h, Nat.add_comm]; rfl
  refine ⟨h2, ?_⟩
  rw [← h2]
  exact Nat.or_lt_two_pow (n := 64) (Nat.lt_of_lt_of_le hl (Nat.pow_le_pow_right (by decide) (by omega))) (Nat.mod_lt _ (by decide))

theorem shr_num (a0 a1 a2 a3 : Nat) {r : Nat} (hr : r ≤ 64) :
    num (down a0 a1 r) (down a1 a2 r) (down a2 a3 r) (down a3 0 r) = num a0 a1 a2 a3 / 2 ^ r := by
  have hB := B_split hr
  have hp := Nat.two_pow_pos r
  have d0 := Nat.div_add_mod a0 (2 ^ r)
  have d1 := Nat.div_add_mod a1 (2 ^ r)
  have d2 := Nat.div_add_mod a2 (2 ^ r)
  have d3 := Nat.div_add_mod a3 (2 ^ r)
  have l0 : a0 % 2 ^ r < 2 ^ r := Nat.mod_lt _ hp
  have key : 2 ^ r * num (down a0 a1 r) (down a1 a2 r) (down a2 a3 r) (down a3 0 r) + a0 % 2 ^ r = num a0 a1 a2 a3 := by
    unfold down num
    rw [Nat.zero_mod, Nat.zero_mul]
    generalize a0 / 2 ^ r = x0 at *
    generalize a1 / 2 ^ r = x1 at *
    generalize a2 / 2 ^ r = x2 at *
    generalize a3 / 2 ^ r = x3 at *
    generalize a0 % 2 ^ r = y0 at *
    generalize a1 % 2 ^ r = y1 at *
    generalize a2 % 2 ^ r = y2 at *
    generalize a3 % 2 ^ r = y3 at *
    generalize 2 ^ (64 - r) = s at *
    generalize 2 ^ r = p at *
    generalize B = b at *
    subst hB
    rw [← d0, ← d1, ← d2, ← d3]
    grind
  rw [← key, Nat.mul_add_div hp, Nat.div_eq_of_lt l0, Nat.add_zero]
theorem num_down {a0 a1 a2 a3 : Nat} (h0 : a0 < B) : num a0 a1 a2 a3 / B = num a1 a2 a3 0 := by
  unfold num
  rw [Nat.add_mul_div_left _ _ (by decide), Nat.div_eq_of_lt h0]
  simp only [B]; omega
end Go.Proofs.Ytdpbjdecbilaeaa.SmWord
/- Plain arithmetic on digits to the base 256. -/
namespace Go.Proofs.Ytdpbjdecbilaeaa.SmWord

def dig (n i : Nat) : Nat := n / 256 ^ i % 256
def lb (n i : Nat) : Nat := n / B ^ i % B
theorem dig_lt (n i : Nat) : dig n i < 256 := Nat.mod_lt _ (by decide)
theorem B_256 : B = 256 ^ 8 := by decide
theorem M_256 : M = 256 ^ 32 := by decide
theorem lb_dig (m k : Nat) : lb m (k / 8) / 2 ^ (8 * (k % 8)) % 256 = dig m k := by
  unfold lb dig
  have h8 : k % 8 < 8 := Nat.mod_lt _ (by decide)
  have e1 : (2 : Nat) ^ (8 * (k % 8)) = 256 ^ (k % 8) := by rw [Nat.pow_mul]
  have e2 : B = 256 ^ (k % 8) * 256 ^ (8 - k % 8) := by rw [← Nat.pow_add, B_256]; congr 1; omega
  have e3 : (256 : Nat) ^ (8 - k % 8) = 256 * 256 ^ (7 - k % 8) := by rw [← Nat.pow_succ']; congr 1; omega
  have e4 : B ^ (k / 8) * 256 ^ (k % 8) = 256 ^ k := by rw [B_256, ← Nat.pow_mul, ← Nat.pow_add]; congr 1; omega
  rw [e1]
  conv => lhs; arg 1; arg 1; arg 2; rw [e2]
  rw [Nat.mod_mul_right_div_self, e3, Nat.mod_mul_right_mod, Nat.div_div_eq_div_mul, e4]

/-! Digits and their number. -/
theorem dig_congr {m n : Nat} (h : m % M = n % M) {i : Nat} (hi : i < 32) : dig m i = dig n i := by
  have k : ∀ x : Nat, dig (x % M) i = dig x i := fun x => by
    unfold dig
    have e : M = 256 ^ i * (256 * 256 ^ (31 - i)) := by rw [← Nat.pow_succ', ← Nat.pow_add, M_256]; congr 1; omega
    rw [e, Nat.mod_mul_right_div_self, Nat.mod_mul_right_mod]
  rw [← k m, ← k n, h]

/-! Sums. -/
def carry (m n k : Nat) : Nat := (m + n) / 256 ^ k - m / 256 ^ k - n / 256 ^ k
theorem carry_eq (m n k : Nat) : (m + n) / 256 ^ k = m / 256 ^ k + n / 256 ^ k + carry m n k ∧ carry m n k ≤ 1 := by
  have hp : 0 < 256 ^ k := Nat.pow_pos (by decide)
  have h := Nat.add_div (a := m) (b := n) hp
  unfold carry
  split at h <;> omega
theorem carry_zero (m n : Nat) : carry m n 0 = 0 := by simp [carry]
theorem carry_step (m n k : Nat) : (dig m k + dig n k + carry m n k) % 256 = dig (m + n) k ∧ (dig m k + dig n k + carry m n k) / 256 = carry m n (k + 1) := by
  obtain ⟨h1, _⟩ := carry_eq m n k
  obtain ⟨h2, _⟩ := carry_eq m n (k + 1)
  unfold dig
  rw [Nat.pow_succ, ← Nat.div_div_eq_div_mul, ← Nat.div_div_eq_div_mul, ← Nat.div_div_eq_div_mul] at h2
  rw [h1] at h2 ⊢
  generalize m / 256 ^ k = x at *
  generalize n / 256 ^ k = y at *
  generalize carry m n k = c at *
  generalize carry m n (k + 1) = d at *
  omega

/-! A word out of its digits, from the highest on: what part q is behind the digits from k on. -/
def acc (m k q : Nat) : Nat := if k ≤ 8 * q then lb m q else if 8 * q + 8 ≤ k then 0 else m / 256 ^ k % 256 ^ (8 * q + 8 - k)
theorem acc_zero (m q : Nat) : acc m 0 q = lb m q := by simp [acc]
theorem acc_end (m q : Nat) (hq : q < 4) : acc m 32 q = 0 := by
  unfold acc; rw [if_neg (by omega), if_pos (by omega)]
theorem acc_other (m k q : Nat) (h : k / 8 ≠ q) : acc m (k + 1) q = acc m k q := by
  unfold acc
  by_cases h1 : k + 1 ≤ 8 * q
  · rw [if_pos h1, if_pos (by omega)]
  · rw [if_neg h1]
    by_cases h2 : k ≤ 8 * q
    · omega
    · rw [if_neg h2, if_pos (by omega), if_pos (by omega)]
theorem acc_step (m k : Nat) : acc m (k + 1) (k / 8) * 256 + dig m k = acc m k (k / 8) ∧ acc m k (k / 8) < B := by
  have hB : 256 ^ 8 = B := B_256.symm
  have key : ∀ x N : Nat, x / 256 % N * 256 + x % 256 = x % (256 * N) := fun x N => by
    rw [Nat.mod_mul]; omega
  have e0 : acc m k (k / 8) = m / 256 ^ k % 256 ^ (8 * (k / 8) + 8 - k) := by
    unfold acc
    by_cases h : k ≤ 8 * (k / 8)
    · have hk : k = 8 * (k / 8) := by omega
      rw [if_pos h]
      unfold lb
      have e1 : B ^ (k / 8) = 256 ^ k := by rw [B_256, ← Nat.pow_mul, ← hk]
      rw [e1, show 8 * (k / 8) + 8 - k = 8 by omega, hB]
    · rw [if_neg h, if_neg (by omega)]
  have e1 : acc m (k + 1) (k / 8) = m / 256 ^ (k + 1) % 256 ^ (8 * (k / 8) + 8 - (k + 1)) := by
    unfold acc
    rw [if_neg (by omega)]
    by_cases h : 8 * (k / 8) + 8 ≤ k + 1
    · rw [if_pos h, show 8 * (k / 8) + 8 - (k + 1) = 0 by omega, Nat.pow_zero, Nat.mod_one]
    · rw [if_neg h]
  refine ⟨?_, ?_⟩
  · rw [e0, e1, Nat.pow_succ, ← Nat.div_div_eq_div_mul]
    unfold dig
    rw [key, ← Nat.pow_succ']
    congr 2
    omega
  · rw [e0]
    refine Nat.lt_of_lt_of_le (Nat.mod_lt _ (Nat.pow_pos (by decide))) ?_
    rw [← hB]
    exact Nat.pow_le_pow_right (by decide) (by omega)

/-! Products, row by row. -/
def rowT (m n i k : Nat) : Nat := m % 256 ^ i * n + dig m i * 256 ^ i * (n % 256 ^ k)
def rowC (m n i k : Nat) : Nat := rowT m n i k / 256 ^ (i + k) - m % 256 ^ i * n / 256 ^ (i + k)
theorem rowC_eq (m n i k : Nat) : rowT m n i k / 256 ^ (i + k) = m % 256 ^ i * n / 256 ^ (i + k) + rowC m n i k := by
  have : m % 256 ^ i * n / 256 ^ (i + k) ≤ rowT m n i k / 256 ^ (i + k) := Nat.div_le_div_right (Nat.le_add_right _ _)
  unfold rowC; omega
theorem rowT_zero (m n i : Nat) : rowT m n i 0 = m % 256 ^ i * n := by simp [rowT, Nat.mod_one]
theorem rowC_zero (m n i : Nat) : rowC m n i 0 = 0 := by unfold rowC; rw [rowT_zero]; simp
theorem rowT_succ (m n i k : Nat) : rowT m n i (k + 1) = rowT m n i k + dig m i * dig n k * 256 ^ (i + k) := by
  have e : n % 256 ^ (k + 1) = n % 256 ^ k + 256 ^ k * dig n k := by rw [Nat.pow_succ, Nat.mod_mul]; rfl
  unfold rowT
  rw [e, Nat.pow_add]
  generalize 256 ^ i = p
  generalize 256 ^ k = q
  grind
theorem row_low (m n i k : Nat) {j : Nat} (hj : j < i + k) : dig (rowT m n i (k + 1)) j = dig (rowT m n i k) j := by
  rw [rowT_succ]
  unfold dig
  have e : 256 ^ (i + k) = 256 ^ j * (256 * 256 ^ (i + k - j - 1)) := by rw [← Nat.pow_succ', ← Nat.pow_add]; congr 1; omega
  rw [e, ← Nat.mul_assoc, Nat.mul_comm _ (256 ^ j), Nat.mul_assoc, Nat.add_mul_div_left _ _ (Nat.pow_pos (by decide)), ← Nat.mul_assoc, Nat.mul_comm _ 256, Nat.mul_assoc, Nat.add_mul_mod_self_left]
theorem row_step (m n i k : Nat) : (dig (m % 256 ^ i * n) (i + k) + dig m i * dig n k + rowC m n i k) % 256 = dig (rowT m n i (k + 1)) (i + k) ∧
    (dig (m % 256 ^ i * n) (i + k) + dig m i * dig n k + rowC m n i k) / 256 = rowC m n i (k + 1) := by
  have h1 := rowC_eq m n i k
  have h2 := rowC_eq m n i (k + 1)
  have hp : 0 < 256 ^ (i + k) := Nat.pow_pos (by decide)
  have e1 : rowT m n i (k + 1) / 256 ^ (i + k) = rowT m n i k / 256 ^ (i + k) + dig m i * dig n k := by
    rw [rowT_succ, Nat.add_mul_div_right _ _ hp]
  rw [show i + (k + 1) = i + k + 1 by omega, Nat.pow_succ, ← Nat.div_div_eq_div_mul, ← Nat.div_div_eq_div_mul, e1, h1] at h2
  rw [h1] at e1
  have e3 : dig (rowT m n i (k + 1)) (i + k) = (m % 256 ^ i * n / 256 ^ (i + k) + rowC m n i k + dig m i * dig n k) % 256 := by
    show rowT m n i (k + 1) / 256 ^ (i + k) % 256 = _
    rw [e1]
  have e4 : dig (m % 256 ^ i * n) (i + k) = m % 256 ^ i * n / 256 ^ (i + k) % 256 := rfl
  rw [e3, e4]
  generalize m % 256 ^ i * n / 256 ^ (i + k) = X at *
  generalize dig m i * dig n k = Y at *
  generalize rowC m n i k = c at *
  generalize rowC m n i (k + 1) = d at *
  omega
theorem rowC_le (m n i k : Nat) : rowC m n i k ≤ 256 := by
  have : rowT m n i k / 256 ^ (i + k) ≤ m % 256 ^ i * n / 256 ^ (i + k) + 256 := by
    have hd : dig m i * 256 ^ i * (n % 256 ^ k) ≤ 256 ^ (i + k) * 256 := by
      have h1 := dig_lt m i
      have h2 : n % 256 ^ k < 256 ^ k := Nat.mod_lt _ (Nat.pow_pos (by decide))
      rw [Nat.pow_add]
      calc dig m i * 256 ^ i * (n % 256 ^ k) ≤ 256 * 256 ^ i * 256 ^ k := Nat.mul_le_mul (Nat.mul_le_mul (by omega) (Nat.le_refl _)) (by omega)
        _ = 256 ^ i * 256 ^ k * 256 := by rw [Nat.mul_comm 256, Nat.mul_assoc, Nat.mul_comm 256, Nat.mul_assoc]
    have hp : 0 < 256 ^ (i + k) := Nat.pow_pos (by decide)
    have := Nat.div_le_div_right (c := 256 ^ (i + k)) (Nat.add_le_add_left hd (m % 256 ^ i * n))
    rw [Nat.add_mul_div_left _ _ hp] at this
    exact this
  unfold rowC; omega
theorem row_end (m n i : Nat) (hi : i < 32) {j : Nat} (hj : j < 32) : dig (rowT m n i (32 - i)) j = dig (m % 256 ^ (i + 1) * n) j := by
  apply dig_congr _ hj
  have e1 : m % 256 ^ (i + 1) = m % 256 ^ i + 256 ^ i * dig m i := by rw [Nat.pow_succ, Nat.mod_mul]; rfl
  have e2 : n = n % 256 ^ (32 - i) + 256 ^ (32 - i) * (n / 256 ^ (32 - i)) := (Nat.mod_add_div _ _).symm
  have e3 : M = 256 ^ i * 256 ^ (32 - i) := by rw [← Nat.pow_add, M_256]; congr 1; omega
  have e4 : m % 256 ^ (i + 1) * n = rowT m n i (32 - i) + M * (dig m i * (n / 256 ^ (32 - i))) := by
    unfold rowT
    rw [e1, e3]
    conv => lhs; rw [Nat.add_mul]; arg 2; rw [e2]
    generalize n / 256 ^ (32 - i) = x
    generalize n % 256 ^ (32 - i) = y
    generalize 256 ^ (32 - i) = q
    generalize 256 ^ i = p
    generalize m % p * n = z
    grind
  rw [e4, Nat.add_mul_mod_self_left]
theorem row_last (m n : Nat) {j : Nat} (hj : j < 32) : dig (m % 256 ^ 32 * n) j = dig (m * n) j := by
  apply dig_congr _ hj
  rw [← M_256, Nat.mod_mul_mod]
end Go.Proofs.Ytdpbjdecbilaeaa.SmWord
/- Plain arithmetic on the bits of digits. -/
namespace Go.Proofs.Ytdpbjdecbilaeaa.SmWord

def bitN (n i : Nat) : Nat := n / 2 ^ i % 2
theorem bitN_lt (n i : Nat) : bitN n i < 2 := Nat.mod_lt _ (by decide)
theorem dig_bit (n k : Nat) : dig n (k / 8) / 2 ^ (k % 8) % 2 = bitN n k := by
  unfold dig bitN
  have h8 : k % 8 < 8 := Nat.mod_lt _ (by decide)
  have e2 : 256 = 2 ^ (k % 8) * 2 ^ (8 - k % 8) := by rw [← Nat.pow_add, show k % 8 + (8 - k % 8) = 8 by omega]
  have e3 : (2 : Nat) ^ (8 - k % 8) = 2 * 2 ^ (7 - k % 8) := by rw [← Nat.pow_succ']; congr 1; omega
  have e4 : 256 ^ (k / 8) * 2 ^ (k % 8) = 2 ^ k := by rw [show (256 : Nat) = 2 ^ 8 from rfl, ← Nat.pow_mul, ← Nat.pow_add]; congr 1; omega
  conv => lhs; arg 1; arg 1; arg 2; rw [e2]
  rw [Nat.mod_mul_right_div_self, e3, Nat.mod_mul_right_mod, Nat.div_div_eq_div_mul, e4]
theorem M_2 : M = 2 ^ 256 := by decide
theorem bit_congr {m n : Nat} (h : m % M = n % M) {i : Nat} (hi : i < 256) : bitN m i = bitN n i := by
  have k : ∀ x : Nat, bitN (x % M) i = bitN x i := fun x => by
    unfold bitN
    have e : M = 2 ^ i * (2 * 2 ^ (255 - i)) := by rw [← Nat.pow_succ', ← Nat.pow_add, M_2]; congr 1; omega
    rw [e, Nat.mod_mul_right_div_self, Nat.mod_mul_right_mod]
  rw [← k m, ← k n, h]
theorem bitN_high {n i : Nat} (h : n < M) (hi : 256 ≤ i) : bitN n i = 0 := by
  unfold bitN
  rw [Nat.div_eq_of_lt (Nat.lt_of_lt_of_le h (by rw [M_2]; exact Nat.pow_le_pow_right (by decide) hi))]
theorem bitN_test (n i : Nat) : (bitN n i = 1) = (n.testBit i = true) := by
  unfold bitN
  rw [Nat.testBit_eq_decide_div_mod_eq]; simp
theorem bit_up (x s i : Nat) (h : s ≤ i) : bitN (x * 2 ^ s) i = bitN x (i - s) := by
  unfold bitN
  have e : 2 ^ i = 2 ^ (i - s) * 2 ^ s := by rw [← Nat.pow_add]; congr 1; omega
  rw [e, Nat.mul_div_mul_right _ _ (Nat.two_pow_pos s)]
theorem bit_up_low (x s i : Nat) (h : i < s) : bitN (x * 2 ^ s) i = 0 := by
  unfold bitN
  have e : x * 2 ^ s = 2 ^ i * (2 * (x * 2 ^ (s - i - 1))) := by
    have : 2 ^ s = 2 ^ i * (2 * 2 ^ (s - i - 1)) := by rw [← Nat.pow_succ', ← Nat.pow_add]; congr 1; omega
    rw [this]; generalize 2 ^ i = p; generalize 2 ^ (s - i - 1) = q; grind
  rw [e, Nat.mul_div_cancel_left _ (Nat.two_pow_pos i), Nat.mul_mod_right]
theorem bit_down (x s i : Nat) : bitN (x / 2 ^ s) i = bitN x (i + s) := by
  unfold bitN
  rw [Nat.div_div_eq_div_mul, ← Nat.pow_add, Nat.add_comm s i]

/-! Digits out of bits, from the highest on. -/
def accB (m k q : Nat) : Nat := if k ≤ 8 * q then dig m q else if 8 * q + 8 ≤ k then 0 else m / 2 ^ k % 2 ^ (8 * q + 8 - k)
theorem accB_zero (m q : Nat) : accB m 0 q = dig m q := by simp [accB]
theorem accB_end (m q : Nat) (hq : q < 32) : accB m 256 q = 0 := by
  unfold accB; rw [if_neg (by omega), if_pos (by omega)]
theorem accB_other (m k q : Nat) (h : k / 8 ≠ q) : accB m (k + 1) q = accB m k q := by
  unfold accB
  by_cases h1 : k + 1 ≤ 8 * q
  · rw [if_pos h1, if_pos (by omega)]
  · rw [if_neg h1]
    by_cases h2 : k ≤ 8 * q
    · omega
    · rw [if_neg h2, if_pos (by omega), if_pos (by omega)]
theorem accB_step (m k : Nat) : accB m (k + 1) (k / 8) * 2 + bitN m k = accB m k (k / 8) ∧ accB m k (k / 8) < 256 := by
  have key : ∀ x N : Nat, x / 2 % N * 2 + x % 2 = x % (2 * N) := fun x N => by
    rw [Nat.mod_mul]; omega
  have e0 : accB m k (k / 8) = m / 2 ^ k % 2 ^ (8 * (k / 8) + 8 - k) := by
    unfold accB
    by_cases h : k ≤ 8 * (k / 8)
    · have hk : k = 8 * (k / 8) := by omega
      rw [if_pos h]
      unfold dig
      have e1 : 256 ^ (k / 8) = 2 ^ k := by rw [show (256 : Nat) = 2 ^ 8 from rfl, ← Nat.pow_mul, ← hk]
      rw [e1, show 8 * (k / 8) + 8 - k = 8 by omega]
    · rw [if_neg h, if_neg (by omega)]
  have e1 : accB m (k + 1) (k / 8) = m / 2 ^ (k + 1) % 2 ^ (8 * (k / 8) + 8 - (k + 1)) := by
    unfold accB
    rw [if_neg (by omega)]
    by_cases h : 8 * (k / 8) + 8 ≤ k + 1
    · rw [if_pos h, show 8 * (k / 8) + 8 - (k + 1) = 0 by omega, Nat.pow_zero, Nat.mod_one]
    · rw [if_neg h]
  refine ⟨?_, ?_⟩
  · rw [e0, e1, Nat.pow_succ, ← Nat.div_div_eq_div_mul]
    unfold bitN
    rw [key, ← Nat.pow_succ']
    congr 2
    omega
  · rw [e0]
    refine Nat.lt_of_lt_of_le (Nat.mod_lt _ (Nat.two_pow_pos _)) ?_
    rw [show (256 : Nat) = 2 ^ 8 from rfl]
    exact Nat.pow_le_pow_right (by decide) (by omega)
end Go.Proofs.Ytdpbjdecbilaeaa.SmWord
