/- Plain arithmetic on long division by parts of 64 bits: no program is named here. -/
import Derived.Test.YtlobchkbkdjccaaMath
namespace Go.Proofs.Ytlobchkbkdjccaa.SmWord

/-- What is left of x divided by m; nothing, if m is 0. -/
def rs (x m : Nat) : Nat := if m = 0 then 0 else x % m
theorem rs_pos {x m : Nat} (h : m ≠ 0) : rs x m = x % m := if_neg h
theorem rs_zero (x : Nat) : rs x 0 = 0 := if_pos rfl

/-- The guess of a part of a quotient is never too small, and at most 2 too great. -/
theorem knuth (b3 B v m' m U t' T q g : Nat) (_hB : 0 < B) (hm : m = v * b3 + m') (hm' : m' < b3) (hT : T = U * b3 + t') (ht' : t' < b3) (hb : b3 * B ≤ 2 * m)
    (hq : q * m ≤ T) (hq1 : T < (q + 1) * m) (hqB : q < B) (hg1 : g * v ≤ U) (hg2 : g ≤ B - 1) (hg3 : g = B - 1 ∨ U < (g + 1) * v) : q ≤ g ∧ g ≤ q + 2 := by
  have hb3 : 0 < b3 := by omega
  constructor
  · rcases hg3 with h | h
    · omega
    · have h1 : q * v * b3 ≤ T := by
        refine Nat.le_trans ?_ hq
        rw [hm, Nat.mul_add, Nat.mul_assoc]; omega
      have h2 : q * v * b3 < (U + 1) * b3 := by rw [Nat.add_mul]; omega
      have h3 : q * v < U + 1 := Nat.lt_of_mul_lt_mul_right h2
      have h4 : q * v < (g + 1) * v := by omega
      have h5 := Nat.lt_of_mul_lt_mul_right h4
      omega
  · have h1 : g * v * b3 ≤ U * b3 := Nat.mul_le_mul_right _ hg1
    have h2 : g * m' ≤ (B - 1) * b3 := Nat.mul_le_mul hg2 (by omega)
    have h3 : (B - 1) * b3 + b3 = b3 * B := by
      rw [← Nat.succ_mul, Nat.mul_comm]; congr 1; omega
    have h4 : g * m = g * v * b3 + g * m' := by rw [hm, Nat.mul_add, Nat.mul_assoc]
    have h5 : g * m < (q + 3) * m := by
      have : (q + 3) * m = (q + 1) * m + 2 * m := by rw [← Nat.add_mul]
      omega
    have := Nat.lt_of_mul_lt_mul_right h5
    omega

/-- The guess. -/
def gs (r m : Nat) : Nat := if l3 m ≤ l3 r then B - 1 else (l3 r * B + l2 r) / l3 m
theorem gs_lt (r m : Nat) : gs r m < B := by
  unfold gs
  split
  · decide
  · rename_i h
    have h1 : l3 r + 1 ≤ l3 m := by omega
    have h2 := (l_lt r).2.2.1
    have h3 : l3 r * B + l2 r < l3 m * B := by
      have : (l3 r + 1) * B ≤ l3 m * B := Nat.mul_le_mul_right _ h1
      rw [Nat.add_mul] at this; omega
    rw [Nat.div_lt_iff_lt_mul (by omega), Nat.mul_comm B]; exact h3

theorem gs_near {r x m : Nat} (hr : r < m) (hx : x < B) (hm : m < M) (htop : M ≤ 2 * m) :
    (r * B + x) / m ≤ gs r m ∧ gs r m ≤ (r * B + x) / m + 2 := by
  have hM : M = B * (B * (B * B)) := by decide
  have em : num (l0 m) (l1 m) (l2 m) (l3 m) = m := by rw [num_parts, Nat.mod_eq_of_lt hm]
  have er : num (l0 r) (l1 r) (l2 r) (l3 r) = r := by rw [num_parts, Nat.mod_eq_of_lt (by omega)]
  obtain ⟨A0, A1, A2, A3⟩ := l_lt m
  obtain ⟨C0, C1, C2, C3⟩ := l_lt r
  have hm0 : 0 < m := by omega
  have dm := Nat.div_add_mod (r * B + x) m
  have dl := Nat.mod_lt (r * B + x) hm0
  have hqB : (r * B + x) / m < B := by
    rw [Nat.div_lt_iff_lt_mul hm0]
    have : (r + 1) * B ≤ m * B := Nat.mul_le_mul_right _ hr
    rw [Nat.add_mul] at this; rw [Nat.mul_comm B m]; omega
  have hv : 0 < l3 m := by
    rcases Nat.eq_zero_or_pos (l3 m) with h | h
    · unfold num at em; rw [h] at em; rw [hM] at htop; simp only [B] at *; omega
    · exact h
  refine knuth (B * B * B) B (l3 m) (l0 m + B * (l1 m + B * l2 m)) m (l3 r * B + l2 r) (l1 r * B * B + l0 r * B + x) (r * B + x) _ (gs r m) (by decide) ?_ ?_ ?_ ?_ ?_ ?_ ?_ hqB ?_ ?_ ?_
  · unfold num at em; simp only [B] at *; omega
  · simp only [B] at *; omega
  · unfold num at er; simp only [B] at *; omega
  · simp only [B] at *; omega
  · rw [hM] at htop; simp only [B] at *; omega
  · rw [Nat.mul_comm]; omega
  · rw [Nat.add_mul, Nat.mul_comm _ m]; omega
  · unfold gs
    split
    · rename_i h
      have hle : l3 r ≤ l3 m := by
        unfold num at em er; simp only [B] at *; omega
      have he : l3 r = l3 m := by omega
      rw [he]
      simp only [B]; omega
    · exact Nat.div_mul_le_self _ _
  · have := gs_lt r m; omega
  · unfold gs
    split
    · exact .inl rfl
    · right
      have h1 := Nat.div_add_mod (l3 r * B + l2 r) (l3 m)
      have h2 := Nat.mod_lt (l3 r * B + l2 r) hv
      rw [Nat.add_mul, Nat.mul_comm _ (l3 m)]; omega

/-- How a guess that is d too great stands: upper part u, lower part l. -/
def Over (r m d u l : Nat) : Prop := l < M ∧ u < B ∧ (u * M + l + d * m) % (B * M) = r
theorem over_zero {r m u l : Nat} (hr : r < M) (h : Over r m 0 u l) : u = 0 ∧ l = r := by
  obtain ⟨h1, h2, h3⟩ := h
  have hlt : u * M + l < B * M := by
    have : (u + 1) * M ≤ B * M := Nat.mul_le_mul_right _ h2
    rw [Nat.add_mul] at this; omega
  rw [Nat.zero_mul, Nat.add_zero, Nat.mod_eq_of_lt hlt] at h3
  rcases Nat.eq_zero_or_pos u with h | h
  · subst h; omega
  · have : 1 * M ≤ u * M := Nat.mul_le_mul_right _ h
    omega
theorem over_pos {r m d u l : Nat} (hr : r < m) (hm : m < M) (hd : d ≤ 2) (hd0 : d ≠ 0) (h : Over r m d u l) : u ≠ 0 := by
  rintro rfl
  obtain ⟨h1, h2, h3⟩ := h
  have hB : B * M = M * B := Nat.mul_comm _ _
  have hdm : d * m ≤ 2 * m := Nat.mul_le_mul_right _ hd
  have hd1 : 1 * m ≤ d * m := Nat.mul_le_mul_right _ (by omega)
  rw [Nat.zero_mul, Nat.zero_add, Nat.mod_eq_of_lt (by rw [hB]; simp only [B]; omega)] at h3
  omega
theorem over_step {r m d u l : Nat} (hm : m < M) (h : Over r m (d + 1) u l) :
    Over r m d ((u + (if (l + m) % M < m then 1 else 0)) % B) ((l + m) % M) := by
  obtain ⟨h1, h2, h3⟩ := h
  have hM : 0 < M := by decide
  refine ⟨Nat.mod_lt _ hM, Nat.mod_lt _ (by decide), ?_⟩
  have e : u + (if (l + m) % M < m then 1 else 0) = u + (l + m) / M := by
    by_cases c : l + m < M
    · rw [Nat.mod_eq_of_lt c, Nat.div_eq_of_lt c, if_neg (by omega)]
    · have h5 : (l + m) / M = 1 := by
        rw [Nat.div_eq_of_lt_le] <;> omega
      have h6 := Nat.div_add_mod (l + m) M
      rw [h5] at h6
      rw [h5, if_pos (by omega)]
  rw [e]
  have s1 := Nat.div_add_mod (u + (l + m) / M) B
  have s2 := Nat.div_add_mod (l + m) M
  have key : u * M + l + (d + 1) * m = ((u + (l + m) / M) % B * M + (l + m) % M + d * m) + B * M * ((u + (l + m) / M) / B) := by
    generalize (l + m) % M = x at *
    generalize (l + m) / M = y at *
    generalize (u + y) % B = z at *
    generalize (u + y) / B = t at *
    have : (u + y) * M = B * M * t + z * M := by rw [← s1]; rw [Nat.add_mul, Nat.mul_right_comm]
    rw [Nat.add_mul] at this
    have h7 : (d + 1) * m = d * m + m := by rw [Nat.add_mul, Nat.one_mul]
    have h8 : y * M = M * y := Nat.mul_comm _ _
    omega
  rw [key, Nat.add_mul_mod_self_left] at h3
  exact h3
/-- The start: rest R, next part x, guess g = q + d. -/
theorem over_start {R x m g q d : Nat} (hR : R < m) (hx : x < B) (hm : m < M) (hg : g < B) (hq : q = (R * B + x) / m) (hd : g = q + d) :
    Over ((R * B + x) % m) m d ((l3 R + B - g * m / M + (if (R * B + x) % M < g * m % M then B - 1 else 0)) % B) (((R * B + x) % M + M - g * m % M) % M) := by
  have hM : 0 < M := by decide
  refine ⟨Nat.mod_lt _ hM, Nat.mod_lt _ (by decide), ?_⟩
  have hl3 : l3 R = (R * B + x) / M := by
    have hMB : M = B * B * B * B := by decide
    rw [hMB, ← Nat.div_div_eq_div_mul, ← Nat.div_div_eq_div_mul, ← Nat.div_div_eq_div_mul, Nat.mul_comm R B, Nat.mul_add_div (by decide), Nat.div_eq_of_lt hx, Nat.add_zero]
    unfold l3
    rw [Nat.mod_eq_of_lt]
    rw [Nat.div_div_eq_div_mul, Nat.div_div_eq_div_mul, Nat.div_lt_iff_lt_mul (by decide)]
    rw [hMB] at hm; simp only [B] at *; omega
  rw [hl3]
  have s1 := Nat.div_add_mod (R * B + x) M
  have s2 := Nat.div_add_mod (g * m) M
  have t1 := Nat.mod_lt (R * B + x) hM
  have t2 := Nat.mod_lt (g * m) hM
  have s3 := Nat.div_add_mod (R * B + x) m
  have hp : g * m / M < B := by
    rw [Nat.div_lt_iff_lt_mul hM]
    have h1 : g * m ≤ g * M := Nat.mul_le_mul_left _ (by omega)
    have h2 : (g + 1) * M ≤ B * M := Nat.mul_le_mul_right _ hg
    rw [Nat.add_mul] at h2; omega
  have hT : (R * B + x) / M < B := by
    rw [Nat.div_lt_iff_lt_mul hM]
    have h1 : (R + 1) * B ≤ M * B := Nat.mul_le_mul_right _ (by omega)
    rw [Nat.add_mul] at h1; rw [Nat.mul_comm B M]; omega
  have hr : (R * B + x) % m < B * M := by
    have h1 := Nat.mod_lt (R * B + x) (show 0 < m by omega)
    have h2 : 1 * M ≤ B * M := Nat.mul_le_mul_right _ (by decide)
    omega
  rw [← hq] at s3
  have hgm : g * m = m * q + d * m := by rw [hd, Nat.add_mul, Nat.mul_comm q m]
  generalize (R * B + x) % m = r at *
  generalize R * B + x = T at *
  generalize g * m = P at *
  generalize m * q = mq at *
  generalize d * m = dm at *
  generalize T / M = th at *
  generalize T % M = tl at *
  generalize P / M = ph at *
  generalize P % M = pl at *
  have hBM : B * M = M * B := Nat.mul_comm _ _
  by_cases c : tl < pl
  · rw [if_pos c]
    have e1 : (tl + M - pl) % M = tl + M - pl := Nat.mod_eq_of_lt (by omega)
    rw [e1]
    by_cases c2 : th < ph + 1
    · have e2 : (th + B - ph + (B - 1)) % B = th + B - ph - 1 := by simp only [B] at *; omega
      rw [e2]
      have : (th + B - ph - 1) * M + (tl + M - pl) + dm = r + B * M := by
        have : (th + B - ph - 1) * M + (ph + 1) * M = (th + B) * M := by rw [← Nat.add_mul, show th + B - ph - 1 + (ph + 1) = th + B by omega]
        rw [Nat.add_mul ph, Nat.add_mul th] at this
        have a1 : th * M = M * th := Nat.mul_comm _ _
        have a2 : ph * M = M * ph := Nat.mul_comm _ _
        omega
      rw [this, Nat.add_mod_right, Nat.mod_eq_of_lt hr]
    · have e2 : (th + B - ph + (B - 1)) % B = th - ph - 1 := by simp only [B] at *; omega
      rw [e2]
      have : (th - ph - 1) * M + (tl + M - pl) + dm = r := by
        have : (th - ph - 1) * M + (ph + 1) * M = th * M := by rw [← Nat.add_mul, show th - ph - 1 + (ph + 1) = th by omega]
        rw [Nat.add_mul ph] at this
        have a1 : th * M = M * th := Nat.mul_comm _ _
        have a2 : ph * M = M * ph := Nat.mul_comm _ _
        omega
      rw [this, Nat.mod_eq_of_lt hr]
  · rw [if_neg c]
    have e1 : (tl + M - pl) % M = tl - pl := by
      rw [show tl + M - pl = (tl - pl) + M by omega, Nat.add_mod_right, Nat.mod_eq_of_lt (by omega)]
    rw [e1]
    by_cases c2 : th < ph
    · have e2 : (th + B - ph + 0) % B = th + B - ph := by simp only [B] at *; omega
      rw [e2]
      have : (th + B - ph) * M + (tl - pl) + dm = r + B * M := by
        have : (th + B - ph) * M + ph * M = (th + B) * M := by rw [← Nat.add_mul, show th + B - ph + ph = th + B by omega]
        rw [Nat.add_mul th] at this
        have a1 : th * M = M * th := Nat.mul_comm _ _
        have a2 : ph * M = M * ph := Nat.mul_comm _ _
        omega
      rw [this, Nat.add_mod_right, Nat.mod_eq_of_lt hr]
    · have e2 : (th + B - ph + 0) % B = th - ph := by simp only [B] at *; omega
      rw [e2]
      have : (th - ph) * M + (tl - pl) + dm = r := by
        have : (th - ph) * M + ph * M = th * M := by rw [← Nat.add_mul, show th - ph + ph = th by omega]
        have a1 : th * M = M * th := Nat.mul_comm _ _
        have a2 : ph * M = M * ph := Nat.mul_comm _ _
        omega
      rw [this, Nat.mod_eq_of_lt hr]
end Go.Proofs.Ytlobchkbkdjccaa.SmWord
