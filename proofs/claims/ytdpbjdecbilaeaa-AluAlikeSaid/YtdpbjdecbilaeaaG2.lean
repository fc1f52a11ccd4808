/- Plain arithmetic on long division by parts of 64 bits: no program is named here. -/
import Derived.Test.YtdpbjdecbilaeaaG0
import Derived.Test.YtdpbjdecbilaeaaG1
import Derived.Deep.DeepCutAuto
import Derived.Deep.CutBlock
import Derived.Lib.ItoaNum
namespace Go.Proofs.Ytdpbjdecbilaeaa.SmWord

/-- What is left of x divided by m; nothing, if m is 0. -/
def rs (x m : Nat) : Nat := if m = 0 then 0 else x % m
theorem rs_pos {x m : Nat} (h : m ≠ 0) : rs x m = x % m := if_neg h
theorem rs_zero (x : Nat) : rs x 0 = 0 := if_pos rfl

/-- The guess of a part of a quotient is never too small, and at most 2 too great. -/
theorem knuth (b3 B v m' m U t' T q g : Nat) (_hB : 0 < B) (hm : m = v * b3 + m') (hm' : m' < b3) (hT : T = U * b3 + t') (ht' : t' < b3) (hb : b3 * B ≤ 2 * m)
    (hq : q * m ≤ T) (hq1 : T < (q + 1) * m) (hqB : q < B) (hg1 : g * v ≤ U) (hg2 : g ≤ B - 1) (hg3 : g = B - 1 ∨ U < (g + 1) * v) : q ≤ g ∧ g ≤ q + 2 := by
  have hb3 : 0 < b3 := by omega
  constructor
  · rcases hg3 with h | h
    · omega
    · have h1 : q * v * b3 ≤ T := by
        refine Nat.le_trans ?_ hq
        rw [hm, Nat.mul_add, Nat.mul_assoc]; omega
      have h2 : q * v * b3 < (U + 1) * b3 := by rw [Nat.add_mul]; omega
      have h3 : q * v < U + 1 := Nat.lt_of_mul_lt_mul_right h2
      have h4 : q * v < (g + 1) * v := by omega
      have h5 := Nat.lt_of_mul_lt_mul_right h4
      omega
  · have h1 : g * v * b3 ≤ U * b3 := Nat.mul_le_mul_right _ hg1
    have h2 : g * m' ≤ (B - 1) * b3 := Nat.mul_le_mul hg2 (by omega)
    have h3 : (B - 1) * b3 + b3 = b3 * B := by
      rw [← Nat.succ_mul, Nat.mul_comm]; congr 1; omega
    have h4 : g * m = g * v * b3 + g * m' := by rw [hm, Nat.mul_add, Nat.mul_assoc]
    have h5 : g * m < (q + 3) * m := by
      have : (q + 3) * m = (q + 1) * m + 2 * m := by rw [← Nat.add_mul]
      omega
    have := Nat.lt_of_mul_lt_mul_right h5
    omega

/-- The guess. -/
def gs (r m : Nat) : Nat := if l3 m ≤ l3 r then B - 1 else (l3 r * B + l2 r) / l3 m
theorem gs_lt (r m : Nat) : gs r m < B := by
  unfold gs
  split
  · decide
  · rename_i h
    have h1 : l3 r + 1 ≤ l3 m := by omega
    have h2 := (l_lt r).2.2.1
    have h3 : l3 r * B + l2 r < l3 m * B := by
      have : (l3 r + 1) * B ≤ l3 m * B := Nat.mul_le_mul_right _ h1
      rw [Nat.add_mul] at this; omega
    rw [Nat.div_lt_iff_lt_mul (by omega), Nat.mul_comm B]; exact h3

theorem gs_near {r x m : Nat} (hr : r < m) (hx : x < B) (hm : m < M) (htop : M ≤ 2 * m) :
    (r * B + x) / m ≤ gs r m ∧ gs r m ≤ (r * B + x) / m + 2 := by
  have hM : M = B * (B * (B * B)) := by decide
  have em : num (l0 m) (l1 m) (l2 m) (l3 m) = m := by rw [num_parts, Nat.mod_eq_of_lt hm]
  have er : num (l0 r) (l1 r) (l2 r) (l3 r) = r := by rw [num_parts, Nat.mod_eq_of_lt (by omega)]
  obtain ⟨A0, A1, A2, A3⟩ := l_lt m
  obtain ⟨C0, C1, C2, C3⟩ := l_lt r
  have hm0 : 0 < m := by omega
  have dm := Nat.div_add_mod (r * B + x) m
  have dl := Nat.mod_lt (r * B + x) hm0
  have hqB : (r * B + x) / m < B := by
    rw [Nat.div_lt_iff_lt_mul hm0]
    have : (r + 1) * B ≤ m * B := Nat.mul_le_mul_right _ hr
    rw [Nat.add_mul] at this; rw [Nat.mul_comm B m]; omega
  have hv : 0 < l3 m := by
    rcases Nat.eq_zero_or_pos (l3 m) with h | h
    · unfold num at em; rw [h] at em; rw [hM] at htop; simp only [B] at *; omega
    · exact h
  refine knuth (B * B * B) B (l3 m) (l0 m + B * (l1 m + B * l2 m)) m (l3 r * B + l2 r) (l1 r * B * B + l0 r * B + x) (r * B + x) _ (gs r m) (by decide) ?_ ?_ ?_ ?_ ?_ ?_ ?_ hqB ?_ ?_ ?_
  · unfold num at em; simp only [B] at *; omega
  · simp only [B] at *; omega
  · unfold num at er; simp only [B] at *; omega
  · simp only [B] at *; omega
  · rw [hM] at htop; simp only [B] at *; omega
  · rw [Nat.mul_comm]; omega
  · rw [Nat.add_mul, Nat.mul_comm _ m]; omega
  · unfold gs
    split
    · rename_i h
      have hle : l3 r ≤ l3 m := by
        unfold num at em er; simp only [B] at *; omega
      have he : l3 r = l3 m := by omega
      rw [he]
      simp only [B]; omega
    · exact Nat.div_mul_le_self _ _
  · have := gs_lt r m; omega
  · unfold gs
    split
    · exact .inl rfl
    · right
      have h1 := Nat.div_add_mod (l3 r * B + l2 r) (l3 m)
      have h2 := Nat.mod_lt (l3 r * B + l2 r) hv
      rw [Nat.add_mul, Nat.mul_comm _ (l3 m)]; omega

/-- How a guess that is d too great stands: upper part u, lower part l. -/
def Over (r m d u l : Nat) : Prop := l < M ∧ u < B ∧ (u * M + l + d * m) % (B * M) = r
theorem over_zero {r m u l : Nat} (hr : r < M) (h : Over r m 0 u l) : u = 0 ∧ l = r := by
  obtain ⟨h1, h2, h3⟩ := h
  have hlt : u * M + l < B * M := by
    have : (u + 1) * M ≤ B * M := Nat.mul_le_mul_right _ h2
    rw [Nat.add_mul] at this; omega
  rw [Nat.zero_mul, Nat.add_zero, Nat.mod_eq_of_lt hlt] at h3
  rcases Nat.eq_zero_or_pos u with h | h
  · subst h; omega
  · have : 1 * M ≤ u * M := Nat.mul_le_mul_right _ h
    omega
theorem over_pos {r m d u l : Nat} (hr : r < m) (hm : m < M) (hd : d ≤ 2) (hd0 : d ≠ 0) (h : Over r m d u l) : u ≠ 0 := by
  rintro rfl
  obtain ⟨h1, h2, h3⟩ := h
  have hB : B * M = M * B := Nat.mul_comm _ _
  have hdm : d * m ≤ 2 * m := Nat.mul_le_mul_right _ hd
  have hd1 : 1 * m ≤ d * m := Nat.mul_le_mul_right _ (by omega)
  rw [Nat.zero_mul, Nat.zero_add, Nat.mod_eq_of_lt (by rw [hB]; simp only [B]; omega)] at h3
  omega
theorem over_step {r m d u l : Nat} (hm : m < M) (h : Over r m (d + 1) u l) :
    Over r m d ((u + (if (l + m) % M < m then 1 else 0)) % B) ((l + m) % M) := by
  obtain ⟨h1, h2, h3⟩ := h
  have hM : 0 < M := by decide
  refine ⟨Nat.mod_lt _ hM, Nat.mod_lt _ (by decide), ?_⟩
  have e : u + (if (l + m) % M < m then 1 else 0) = u + (l + m) / M := by
    by_cases c : l + m < M
    · rw [Nat.mod_eq_of_lt c, Nat.div_eq_of_lt c, if_neg (by omega)]
    · have h5 : (l + m) / M = 1 := by
        rw [Nat.div_eq_of_lt_le] <;> omega
      have h6 := Nat.div_add_mod (l + m) M
      rw [h5] at h6
      rw [h5, if_pos (by omega)]
  rw [e]
  have s1 := Nat.div_add_mod (u + (l + m) / M) B
  have s2 := Nat.div_add_mod (l + m) M
  have key : u * M + l + (d + 1) * m = ((u + (l + m) / M) % B * M + (l + m) % M + d * m) + B * M * ((u + (l + m) / M) / B) := by
    generalize (l + m) % M = x at *
    generalize (l + m) / M = y at *
    generalize (u + y) % B = z at *
    generalize (u + y) / B = t at *
    have : (u + y) * M = B * M * t + z * M := by rw [← s1]; rw [Nat.add_mul, Nat.mul_right_comm]
    rw [Nat.add_mul] at this
    have h7 : (d + 1) * m = d * m + m := by rw [Nat.add_mul, Nat.one_mul]
    have h8 : y * M = M * y := Nat.mul_comm _ _
    omega
  rw [key, Nat.add_mul_mod_self_left] at h3
  exact h3
/-- The start: rest R, next part x, guess g = q + d. -/
theorem over_start {R x m g q d : Nat} (hR : R < m) (hx : x < B) (hm : m < M) (hg : g < B) (hq : q = (R * B + x) / m) (hd : g = q + d) :
    Over ((R * B + x) % m) m d ((l3 R + B - g * m / M + (if (R * B + x) % M < g * m % M then B - 1 else 0)) % B) (((R * B + x) % M + M - g * m % M) % M) := by
  have hM : 0 < M := by decide
  refine ⟨Nat.mod_lt _ hM, Nat.mod_lt _ (by decide), ?_⟩
  have hl3 : l3 R = (R * B + x) / M := by
    have hMB : M = B * B * B * B := by decide
    rw [hMB, ← Nat.div_div_eq_div_mul, ← Nat.div_div_eq_div_mul, ← Nat.div_div_eq_div_mul, Nat.mul_comm R B, Nat.mul_add_div (by decide), Nat.div_eq_of_lt hx, Nat.add_zero]
    unfold l3
    rw [Nat.mod_eq_of_lt]
    rw [Nat.div_div_eq_div_mul, Nat.div_div_eq_div_mul, Nat.div_lt_iff_lt_mul (by decide)]
    rw [hMB] at hm; simp only [B] at *; omega
  rw [hl3]
  have s1 := Nat.div_add_mod (R * B + x) M
  have s2 := Nat.div_add_mod (g * m) M
  have t1 := Nat.mod_lt (R * B + x) hM
  have t2 := Nat.mod_lt (g * m) hM
  have s3 := Nat.div_add_mod (R * B + x) m
  have hp : g * m / M < B := by
    rw [Nat.div_lt_iff_lt_mul hM]
    have h1 : g * m ≤ g * M := Nat.mul_le_mul_left _ (by omega)
    have h2 : (g + 1) * M ≤ B * M := Nat.mul_le_mul_right _ hg
    rw [Nat.add_mul] at h2; omega
  have hT : (R * B + x) / M < B := by
    rw [Nat.div_lt_iff_lt_mul hM]
    have h1 : (R + 1) * B ≤ M * B := Nat.mul_le_mul_right _ (by omega)
    rw [Nat.add_mul] at h1; rw [Nat.mul_comm B M]; omega
  have hr : (R * B + x) % m < B * M := by
    have h1 := Nat.mod_lt (R * B + x) (show 0 < m by omega)
    have h2 : 1 * M ≤ B * M := Nat.mul_le_mul_right _ (by decide)
    omega
  rw [← hq] at s3
  have hgm : g * m = m * q + d * m := by rw [hd, Nat.add_mul, Nat.mul_comm q m]
  generalize (R * B + x) % m = r at *
  generalize R * B + x = T at *
  generalize g * m = P at *
  generalize m * q = mq at *
  generalize d * m = dm at *
  generalize T / M = th at *
  generalize T % M = tl at *
  generalize P / M = ph at *
  generalize P % M = pl at *
  have hBM : B * M = M * B := Nat.mul_comm _ _
  by_cases c : tl < pl
  · rw [if_pos c]
    have e1 : (tl + M - pl) % M = tl + M - pl := Nat.mod_eq_of_lt (by omega)
    rw [e1]
    by_cases c2 : th < ph + 1
    · have e2 : (th + B - ph + (B - 1)) % B = th + B - ph - 1 := by simp only [B] at *; omega
      rw [e2]
      have : (th + B - ph - 1) * M + (tl + M - pl) + dm = r + B * M := by
        have : (th + B - ph - 1) * M + (ph + 1) * M = (th + B) * M := by rw [← Nat.add_mul, show th + B - ph - 1 + (ph + 1) = th + B by omega]
        rw [Nat.add_mul ph, Nat.add_mul th] at this
        have a1 : th * M = M * th := Nat.mul_comm _ _
        have a2 : ph * M = M * ph := Nat.mul_comm _ _
        omega
      rw [this, Nat.add_mod_right, Nat.mod_eq_of_lt hr]
    · have e2 : (th + B - ph + (B - 1)) % B = th - ph - 1 := by simp only [B] at *; omega
      rw [e2]
      have : (th - ph - 1) * M + (tl + M - pl) + dm = r := by
        have : (th - ph - 1) * M + (ph + 1) * M = th * M := by rw [← Nat.add_mul, show th - ph - 1 + (ph + 1) = th by omega]
        rw [Nat.add_mul ph] at this
        have a1 : th * M = M * th := Nat.mul_comm _ _
        have a2 : ph * M = M * ph := Nat.mul_comm _ _
        omega
      rw [this, Nat.mod_eq_of_lt hr]
  · rw [if_neg c]
    have e1 : (tl + M - pl) % M = tl - pl := by
      rw [show tl + M - pl = (tl - pl) + M by omega, Nat.add_mod_right, Nat.mod_eq_of_lt (by omega)]
    rw [e1]
    by_cases c2 : th < ph
    · have e2 : (th + B - ph + 0) % B = th + B - ph := by simp only [B] at *; omega
      rw [e2]
      have : (th + B - ph) * M + (tl - pl) + dm = r + B * M := by
        have : (th + B - ph) * M + ph * M = (th + B) * M := by rw [← Nat.add_mul, show th + B - ph + ph = th + B by omega]
        rw [Nat.add_mul th] at this
        have a1 : th * M = M * th := Nat.mul_comm _ _
        have a2 : ph * M = M * ph := Nat.mul_comm _ _
        omega
      rw [this, Nat.add_mod_right, Nat.mod_eq_of_lt hr]
    · have e2 : (th + B - ph + 0) % B = th - ph := by simp only [B] at *; omega
      rw [e2]
      have : (th - ph) * M + (tl - pl) + dm = r := by
        have : (th - ph) * M + ph * M = th * M := by rw [← Nat.add_mul, show th - ph + ph = th by omega]
        have a1 : th * M = M * th := Nat.mul_comm _ _
        have a2 : ph * M = M * ph := Nat.mul_comm _ _
        omega
      rw [this, Nat.mod_eq_of_lt hr]
end Go.Proofs.Ytdpbjdecbilaeaa.SmWord
/- What the function addTimes of package wide does, for every two words and every part: it returns the one and the other times the part, the lowest 256 bits and what is above them, and leaves all older memory as it was. -/
namespace Go.Proofs.Ytdpbjdecbilaeaa
open Go.RowKit SmWord
set_option maxRecDepth 100000

set_option maxHeartbeats 4000000 in
theorem addTimes_walk (a0 a1 a2 a3 s0 s1 s2 s3 n h0 l0 p0 m0 r0 t0 h1 l1 p1 m1 r1 t1 h2 l2 p2 m2 r2 t2 h3 l3 p3 m3 r3 t3 : Int) (w : World)
    (q0 : Hid (∀ w : World, Calls Try.prog 75 #[.int .u64 a0, .int .u64 n] w fun e w' => e = .returned (.tuple #[.int .u64 h0, .int .u64 l0]) ∧ w = w'))
    (j0 : ∀ w : World, (callFunc 63 #[.int .u64 l0, .int .u64 s0, .int .u64 0]).run Try.prog w = .ok (.value (.tuple #[.int .u64 p0, .int .u64 m0])) w)
    (k0 : ∀ w : World, (callFunc 63 #[.int .u64 p0, .int .u64 0, .int .u64 0]).run Try.prog w = .ok (.value (.tuple #[.int .u64 r0, .int .u64 t0])) w)
    (q1 : Hid (∀ w : World, Calls Try.prog 75 #[.int .u64 a1, .int .u64 n] w fun e w' => e = .returned (.tuple #[.int .u64 h1, .int .u64 l1]) ∧ w = w'))
    (j1 : ∀ w : World, (callFunc 63 #[.int .u64 l1, .int .u64 s1, .int .u64 0]).run Try.prog w = .ok (.value (.tuple #[.int .u64 p1, .int .u64 m1])) w)
    (k1 : ∀ w : World, (callFunc 63 #[.int .u64 p1, .int .u64 (IntKind.u64.wrap (IntKind.u64.wrap (h0 + m0) + t0)), .int .u64 0]).run Try.prog w = .ok (.value (.tuple #[.int .u64 r1, .int .u64 t1])) w)
    (q2 : Hid (∀ w : World, Calls Try.prog 75 #[.int .u64 a2, .int .u64 n] w fun e w' => e = .returned (.tuple #[.int .u64 h2, .int .u64 l2]) ∧ w = w'))
    (j2 : ∀ w : World, (callFunc 63 #[.int .u64 l2, .int .u64 s2, .int .u64 0]).run Try.prog w = .ok (.value (.tuple #[.int .u64 p2, .int .u64 m2])) w)
    (k2 : ∀ w : World, (callFunc 63 #[.int .u64 p2, .int .u64 (IntKind.u64.wrap (IntKind.u64.wrap (h1 + m1) + t1)), .int .u64 0]).run Try.prog w = .ok (.value (.tuple #[.int .u64 r2, .int .u64 t2])) w)
    (q3 : Hid (∀ w : World, Calls Try.prog 75 #[.int .u64 a3, .int .u64 n] w fun e w' => e = .returned (.tuple #[.int .u64 h3, .int .u64 l3]) ∧ w = w'))
    (j3 : ∀ w : World, (callFunc 63 #[.int .u64 l3, .int .u64 s3, .int .u64 0]).run Try.prog w = .ok (.value (.tuple #[.int .u64 p3, .int .u64 m3])) w)
    (k3 : ∀ w : World, (callFunc 63 #[.int .u64 p3, .int .u64 (IntKind.u64.wrap (IntKind.u64.wrap (h2 + m2) + t2)), .int .u64 0]).run Try.prog w = .ok (.value (.tuple #[.int .u64 r3, .int .u64 t3])) w) :
    Calls Try.prog 79 #[.agg #[.int .u64 s0, .int .u64 s1, .int .u64 s2, .int .u64 s3], .agg #[.int .u64 a0, .int .u64 a1, .int .u64 a2, .int .u64 a3], .int .u64 n] w fun e w' =>
      e = .returned (.tuple #[.agg #[.int .u64 r0, .int .u64 r1, .int .u64 r2, .int .u64 r3], .int .u64 (IntKind.u64.wrap (IntKind.u64.wrap (h3 + m3) + t3))]) ∧ Below w.heap.size w w' := by
  go_enter Try.func79, Try.ntmps79
  go_wp2
  refine wp_loop_rounds 5 ?_
  rw [rounds_succ]
  go_wp2_with (go_at_call 75; refine (q0.out _).mono ?_; rintro e w' ⟨rfl, rfl⟩)
  rw [rounds_succ]
  go_wp2_with (go_at_call 75; refine (q1.out _).mono ?_; rintro e w' ⟨rfl, rfl⟩)
  rw [rounds_succ]
  go_wp2_with (go_at_call 75; refine (q2.out _).mono ?_; rintro e w' ⟨rfl, rfl⟩)
  rw [rounds_succ]
  go_wp2_with (go_at_call 75; refine (q3.out _).mono ?_; rintro e w' ⟨rfl, rfl⟩)
  rw [rounds_succ]
  go_wp2
  refine bodyPost_ret (v := .tuple #[.agg #[.int .u64 r0, .int .u64 r1, .int .u64 r2, .int .u64 r3], .int .u64 (IntKind.u64.wrap (IntKind.u64.wrap (h3 + m3) + t3))]) (by simp [results, Try.results79, go_sem]) rfl ⟨rfl, ?_⟩
  repeat (first | exact Below.refl _ _ | refine Below.drew ?_ | refine Below.alloc ?_ (by simp; try omega) _ | refine Below.setCell ?_ (by simp; try omega) _)

theorem wrap_mh {x y m n : Nat} (hx : x < B) (hy : y < B) (hm : m < B) (hn : n < B) :
    IntKind.u64.wrap (IntKind.u64.wrap (((x * y / B : Nat) : Int) + ((hi (x * y % B) m 0 : Nat) : Int)) + ((hi (lo (x * y % B) m 0) n 0 : Nat) : Int)) = ((mh x y m n : Nat) : Int) := by
  obtain ⟨_, e2⟩ := mulAdd_num (x := x) (y := y) (m := m) (n := n)
  have hb := mh_lt hx hy hm hn
  rw [IntKind.wrap_u64, IntKind.wrap_u64]
  generalize hi (x * y % B) m 0 = u at *
  generalize hi (lo (x * y % B) m 0) n 0 = v at *
  generalize mh x y m n = z at *
  generalize x * y / B = q at *
  simp only [B] at hb
  omega

theorem at_num {a0 a1 a2 a3 s0 s1 s2 s3 n p0 p1 p2 p3 c0 c1 c2 c3 : Nat} (e0 : p0 + B * c0 = a0 * n + s0 + 0) (e1 : p1 + B * c1 = a1 * n + s1 + c0) (e2 : p2 + B * c2 = a2 * n + s2 + c1) (e3 : p3 + B * c3 = a3 * n + s3 + c2) :
    num s0 s1 s2 s3 + num a0 a1 a2 a3 * n = num p0 p1 p2 p3 + M * c3 := by
  have hM : M = B * (B * (B * B)) := by decide
  have ex : num a0 a1 a2 a3 * n = num (a0 * n) (a1 * n) (a2 * n) (a3 * n) := by
    unfold num; generalize B = b; grind
  rw [ex, hM]
  generalize a0 * n = x0 at *
  generalize a1 * n = x1 at *
  generalize a2 * n = x2 at *
  generalize a3 * n = x3 at *
  unfold num
  simp only [B] at *
  omega

theorem addTimes_wd (s a n : Nat) (hn : n < B) (w : World) :
    Calls Try.prog 79 #[wd s, wd a, .int .u64 (n : Int)] w fun e w' =>
      e = .returned (.tuple #[wd (s % M + a % M * n), .int .u64 (((s % M + a % M * n) / M : Nat) : Int)]) ∧ Below w.heap.size w w' := by
  obtain ⟨A0, A1, A2, A3⟩ := l_lt a
  obtain ⟨C0, C1, C2, C3⟩ := l_lt s
  have b0 := mh_lt A0 hn C0 (show 0 < B by decide)
  have b1 := mh_lt A1 hn C1 b0
  have b2 := mh_lt A2 hn C2 b1
  have d0 := mulAdd_num (x := l0 a) (y := n) (m := l0 s) (n := 0)
  have d1 := mulAdd_num (x := l1 a) (y := n) (m := l1 s) (n := mh (l0 a) n (l0 s) 0)
  have d2 := mulAdd_num (x := l2 a) (y := n) (m := l2 s) (n := mh (l1 a) n (l1 s) (mh (l0 a) n (l0 s) 0))
  have d3 := mulAdd_num (x := l3 a) (y := n) (m := l3 s) (n := mh (l2 a) n (l2 s) (mh (l1 a) n (l1 s) (mh (l0 a) n (l0 s) 0)))
  have w0 := wrap_mh A0 hn C0 (show 0 < B by decide)
  have w1 := wrap_mh A1 hn C1 b0
  have w2 := wrap_mh A2 hn C2 b1
  have w3 := wrap_mh A3 hn C3 b2
  have key := at_num (ml_mh (l0 a) n (l0 s) 0) (ml_mh (l1 a) n (l1 s) _) (ml_mh (l2 a) n (l2 s) _) (ml_mh (l3 a) n (l3 s) _)
  rw [num_parts, num_parts] at key
  have z := ml_lt (l0 a) n (l0 s) 0
  have hlt := num_lt z (ml_lt (l1 a) n (l1 s) (mh (l0 a) n (l0 s) 0)) (ml_lt (l2 a) n (l2 s) (mh (l1 a) n (l1 s) (mh (l0 a) n (l0 s) 0))) (ml_lt (l3 a) n (l3 s) (mh (l2 a) n (l2 s) (mh (l1 a) n (l1 s) (mh (l0 a) n (l0 s) 0))))
  have e1 : wd (s % M + a % M * n) = wd (num (ml (l0 a) n (l0 s) 0) (ml (l1 a) n (l1 s) (mh (l0 a) n (l0 s) 0)) (ml (l2 a) n (l2 s) (mh (l1 a) n (l1 s) (mh (l0 a) n (l0 s) 0))) (ml (l3 a) n (l3 s) (mh (l2 a) n (l2 s) (mh (l1 a) n (l1 s) (mh (l0 a) n (l0 s) 0))))) := by
    apply wd_congr; rw [key, Nat.add_mul_mod_self_left]
  have e2 : (s % M + a % M * n) / M = mh (l3 a) n (l3 s) (mh (l2 a) n (l2 s) (mh (l1 a) n (l1 s) (mh (l0 a) n (l0 s) 0))) := by
    rw [key, Nat.add_mul_div_left _ _ (by decide), Nat.div_eq_of_lt hlt, Nat.zero_add]
  rw [e1, e2, wd_num (ml_lt _ _ _ _) (ml_lt _ _ _ _) (ml_lt _ _ _ _) (ml_lt _ _ _ _)]
  have g := addTimes_walk (l0 a) (l1 a) (l2 a) (l3 a) (l0 s) (l1 s) (l2 s) (l3 s) n _ _ _ _ _ _ _ _ _ _ _ _ _ _ _ _ _ _ _ _ _ _ _ _ w
    (Lib.hid fun w => (Try.bits_Mul64 _ _ A0 hn w).mono fun e w' ⟨h1, h2⟩ => ⟨h1, h2.symm⟩) (add64_run _ (l0 s) 0 (Nat.zero_le _)) (add64_run _ 0 0 (Nat.zero_le _))
    (Lib.hid fun w => (Try.bits_Mul64 _ _ A1 hn w).mono fun e w' ⟨h1, h2⟩ => ⟨h1, h2.symm⟩) (add64_run _ (l1 s) 0 (Nat.zero_le _)) (by rw [w0]; exact add64_run _ _ 0 (Nat.zero_le _))
    (Lib.hid fun w => (Try.bits_Mul64 _ _ A2 hn w).mono fun e w' ⟨h1, h2⟩ => ⟨h1, h2.symm⟩) (add64_run _ (l2 s) 0 (Nat.zero_le _)) (by rw [w1]; exact add64_run _ _ 0 (Nat.zero_le _))
    (Lib.hid fun w => (Try.bits_Mul64 _ _ A3 hn w).mono fun e w' ⟨h1, h2⟩ => ⟨h1, h2.symm⟩) (add64_run _ (l3 s) 0 (Nat.zero_le _)) (by rw [w2]; exact add64_run _ _ 0 (Nat.zero_le _))
  rw [w3, d0.1, d1.1, d2.1, d3.1] at g
  exact g
end Go.Proofs.Ytdpbjdecbilaeaa
/- Plain arithmetic on a division of two parts by one (math/bits.Div64, a divisor whose highest bit is 1): no program is named here. -/
namespace Go.Proofs.Ytdpbjdecbilaeaa.SmWord

/-- One half of the division: x * 2^32 + l divided by y = y1 * 2^32 + y0 is Q. -/
structure Half (x l y y1 y0 Q : Int) : Prop where
  hy : y = y1 * 4294967296 + y0
  hy0 : 0 ≤ y0
  hy0' : y0 < 4294967296
  hy1 : 2147483648 ≤ y1
  hy1' : y1 < 4294967296
  hl : 0 ≤ l
  hl' : l < 4294967296
  hx : 0 ≤ x
  hx' : x < y
  hQ : Q * y ≤ x * 4294967296 + l
  hQ' : x * 4294967296 + l < Q * y + y
  hQ0 : 0 ≤ Q
structure DInv (x y1 Q q r : Int) : Prop where
  he : q * y1 + r = x
  hr : 0 ≤ r
  hr' : r < 4294967296
  hq : Q ≤ q
  hq' : q ≤ 4294967297

variable {x l y y1 y0 Q q r : Int}

theorem Half.Qb (h : Half x l y y1 y0 Q) : Q < 4294967296 := by
  refine Int.lt_of_mul_lt_mul_right (a := y) ?_ (by have := h.hx; have := h.hx'; omega)
  have := h.hQ; have := h.hx'; have := h.hl'
  omega
theorem half_mul (h : Half x l y y1 y0 Q) (i : DInv x y1 Q q r) : q * y = x * 4294967296 - r * 4294967296 + q * y0 := by
  have e := i.he
  have : q * y = q * y1 * 4294967296 + q * y0 := by rw [h.hy, Int.mul_add, Int.mul_assoc]
  rw [this, ← e]; generalize q * y1 = z; omega
theorem half_test (h : Half x l y y1 y0 Q) (i : DInv x y1 Q q r) (hq : Q < q) : 4294967296 * r + l < q * y0 := by
  have e := half_mul h i
  have hy : 0 ≤ y := by have := h.hx; have := h.hx'; omega
  have h1 : (Q + 1) * y ≤ q * y := Int.mul_le_mul_of_nonneg_right (by omega) hy
  rw [Int.add_mul, Int.one_mul] at h1
  have := h.hQ'
  omega
theorem half_stop (h : Half x l y y1 y0 Q) (i : DInv x y1 Q Q r) : Q * y0 ≤ 4294967296 * r + l := by
  have e := half_mul h i
  have := h.hQ
  omega
theorem half_q0 (h : Half x l y y1 y0 Q) (i : DInv x y1 Q q r) (hq : q < 4294967296) : 0 ≤ q * y0 ∧ q * y0 < 18446744073709551616 := by
  have h1 := h.hQ0
  have h2 := i.hq
  refine ⟨Int.mul_nonneg (by omega) h.hy0, ?_⟩
  have h3 : q * y0 ≤ 4294967295 * 4294967295 := Int.mul_le_mul (by omega) (by have := h.hy0'; omega) h.hy0 (by omega)
  omega
theorem half_break (h : Half x l y y1 y0 Q) (i : DInv x y1 Q q r) (hq : Q < q) (hr : 4294967296 ≤ r + y1) : q - 1 = Q := by
  have i' : (q - 1) * y1 + (r + y1) = x := by rw [Int.sub_mul]; have := i.he; omega
  have e : (q - 1) * y = x * 4294967296 - (r + y1) * 4294967296 + (q - 1) * y0 := by
    have : (q - 1) * y = (q - 1) * y1 * 4294967296 + (q - 1) * y0 := by rw [h.hy, Int.mul_add, Int.mul_assoc]
    rw [this, ← i']; generalize (q - 1) * y1 = z; omega
  have h1 := h.hQ0
  have h2 := i.hq'
  have h3 : (q - 1) * y0 ≤ 4294967296 * 4294967295 := Int.mul_le_mul (by omega) (by have := h.hy0'; omega) h.hy0 (by omega)
  have h4 : (q - 1) * y < (Q + 1) * y := by
    rw [Int.add_mul, Int.one_mul]
    have := h.hQ'; have := h.hl
    omega
  have h5 := Int.lt_of_mul_lt_mul_right h4 (by have := h.hx; have := h.hx'; omega)
  omega
theorem half_next (i : DInv x y1 Q q r) (y1p : 0 ≤ y1) (hq : Q < q) (hr : r + y1 < 4294967296) : DInv x y1 Q (q - 1) (r + y1) :=
  ⟨by rw [Int.sub_mul]; have := i.he; omega, by have := i.hr; omega, hr, by omega, by have := i.hq'; omega⟩
theorem half_start (h : Half x l y y1 y0 Q) : DInv x y1 Q (x / y1) (x - x / y1 * y1) := by
  have p : 0 < y1 := by have := h.hy1; omega
  have e := Int.mul_ediv_add_emod x y1
  have m0 := Int.emod_nonneg x (show y1 ≠ 0 by omega)
  have m1 := Int.emod_lt_of_pos x p
  rw [Int.mul_comm] at e
  have hr : x - x / y1 * y1 = x % y1 := by omega
  rw [hr]
  refine ⟨e, m0, by have := h.hy1'; omega, ?_, ?_⟩
  · rw [Int.le_ediv_iff_mul_le p]
    have h1 : Q * y1 * 4294967296 ≤ Q * y := by
      rw [h.hy, Int.mul_add, Int.mul_assoc]
      have := Int.mul_nonneg h.hQ0 h.hy0
      omega
    have := h.hQ; have := h.hl'
    omega
  · have h1 : x / y1 * y1 < 4294967298 * y1 := by
      have := h.hx'; have := h.hy; have := h.hy0'; have := h.hy1
      omega
    have := Int.lt_of_mul_lt_mul_right h1 (by omega)
    omega
theorem half_div (h : Half x l y y1 y0 Q) : 0 ≤ x / y1 ∧ x / y1 ≤ 4294967297 ∧ 0 ≤ x / y1 * y1 ∧ x / y1 * y1 ≤ x := by
  have s := half_start h
  have h1 := s.hq
  have h2 := h.hQ0
  have h3 := s.hr
  refine ⟨by omega, s.hq', Int.mul_nonneg (by omega) (by have := h.hy1; omega), by omega⟩
/-- What is left of the half. -/
theorem half_left (h : Half x l y y1 y0 Q) (hy : y < 18446744073709551616) :
    (((x * 4294967296) % 18446744073709551616 + l) % 18446744073709551616 - (Q * y) % 18446744073709551616) % 18446744073709551616 = x * 4294967296 + l - Q * y := by
  have h1 := h.hQ
  have h2 := h.hQ'
  generalize Q * y = z at *
  omega
theorem div_of {a m q : Nat} (h1 : q * m ≤ a) (h2 : a < q * m + m) : a / m = q := by
  have hm : 0 < m := by omega
  refine Nat.div_eq_of_lt_le h1 ?_
  rw [Nat.succ_mul]; exact h2
end Go.Proofs.Ytdpbjdecbilaeaa.SmWord
/- What math/bits.Div64 does, for every divisor whose highest bit is 1 and every upper part below it: it returns the quotient, cut down, and what is left. -/
namespace Go.Proofs.Ytdpbjdecbilaeaa
open Go.RowKit SmWord
set_option maxRecDepth 100000

set_option maxHeartbeats 2000000 in
theorem div64_walk (x l y y1 y0 l1 l0 Q1 u Q0 v : Int) (w : World) (hx : 1 ≤ x) (hxy : x < y) (hy : y < 18446744073709551616) (hy2 : 9223372036854775808 ≤ y) (_hl0 : 0 ≤ l) (_hl : l < 18446744073709551616)
   (_by1 : 2147483648 ≤ y1) (_by2 : y1 < 4294967296) (_by3 : 0 ≤ y0) (_by4 : y0 < 4294967296) (_bl1 : 0 ≤ l1) (_bl2 : l1 < 4294967296) (_bl3 : 0 ≤ l0) (_bl4 : l0 < 4294967296)
   (ey1 : y / 4294967296 = y1) (ey0 : bits .and .u64 y 4294967295 = y0) (eor : bits .or .u64 x (l / 18446744073709551616) = x) (el1 : l / 4294967296 = l1) (el0 : bits .and .u64 l 4294967295 = l0)
   (h : Hid (Half x l1 y y1 y0 Q1)) (g : Hid (Half u l0 y y1 y0 Q0))
   (_bx1 : 0 ≤ x / y1) (_bx2 : x / y1 ≤ 4294967297) (_bx3 : 0 ≤ x / y1 * y1) (_bx4 : x / y1 * y1 ≤ x)
   (eu : IntKind.u64.wrap (IntKind.u64.wrap (IntKind.u64.wrap (x * 4294967296) + l1) - IntKind.u64.wrap (Q1 * y)) = u)
   (_bu1 : 0 ≤ u / y1) (_bu2 : u / y1 ≤ 4294967297) (_bu3 : 0 ≤ u / y1 * y1) (_bu4 : u / y1 * y1 ≤ u)
   (ev : IntKind.u64.wrap (IntKind.u64.wrap (IntKind.u64.wrap (u * 4294967296) + l0) - IntKind.u64.wrap (Q0 * y)) = v)
   (H : Hid (∀ w : World, Calls Try.prog 82 #[.int .u64 y] w fun e w' => e = .returned (.int .i64 0) ∧ w = w')) :
    Calls Try.prog 81 #[.int .u64 x, .int .u64 l, .int .u64 y] w fun e w' => e = .returned (.tuple #[.int .u64 (Q1 * 4294967296 + Q0), .int .u64 v]) ∧ w = w' := by
  have h1 : (y == 0) = false := by rw [beq_eq_false_iff_ne]; omega
  have h2 : decide (y ≤ x) = false := by simp; omega
  have h3 : (x == 0) = false := by rw [beq_eq_false_iff_ne]; omega
  go_enter Try.func81, Try.ntmps81
  go_upto_block 0 with (go_at_call 82; refine (H.out _).mono ?_; rintro e w' ⟨rfl, rfl⟩)
  go_cut [15] (fun s15 wx => s15 = .int .u64 Q1 ∧ w = wx)
  case first =>
    go_wp2_with fail
    go_loop [15, 16] (fun q r => ∃ a b : Int, q = .int .u64 a ∧ r = .int .u64 b ∧ Hid (DInv x y1 Q1 a b)) (fun q _ => (intOf q).toNat)
    case atStart => exact ⟨_, _, rfl, rfl, Lib.hid (half_start h.out)⟩
    case round =>
      obtain ⟨a, b, rfl, rfl, i⟩ := hrel
      have i1 := i.out.hr
      have i2 := i.out.hr'
      have i3 := i.out.hq
      have i4 := i.out.hq'
      have i5 := h.out.hQ0
      have i6 := h.out.Qb
      by_cases hq : Q1 < a
      · have t := half_test h.out i.out hq
        have HB : Hid (4294967296 ≤ b + y1 → a - 1 = Q1) := Lib.hid (half_break h.out i.out hq)
        have HN : Hid (b + y1 < 4294967296 → DInv x y1 Q1 (a - 1) (b + y1)) := Lib.hid (half_next i.out (by omega) hq)
        by_cases ha : a < 4294967296
        · obtain ⟨p0, p1⟩ := half_q0 h.out i.out ha
          have c1 : decide (4294967296 ≤ a) = false := by simp; omega
          have c2 : decide (4294967296 * b + l1 < a * y0) = true := by simp; omega
          by_cases hb : b + y1 < 4294967296
          · have c3 : decide (4294967296 ≤ b + y1) = false := by simp; omega
            go_wp2_with fail
            go_round
            case rel => exact ⟨_, _, rfl, rfl, Lib.hid (HN.out hb)⟩
            case measure => simp [intOf]; omega
          · have c3 : decide (4294967296 ≤ b + y1) = true := by simp; omega
            go_wp2_with fail
            go_meet
            exact ⟨by rw [HB.out (by omega)], rfl⟩
        · have c1 : decide (4294967296 ≤ a) = true := by simp; omega
          by_cases hb : b + y1 < 4294967296
          · have c3 : decide (4294967296 ≤ b + y1) = false := by simp; omega
            go_wp2_with fail
            go_round
            case rel => exact ⟨_, _, rfl, rfl, Lib.hid (HN.out hb)⟩
            case measure => simp [intOf]; omega
          · have c3 : decide (4294967296 ≤ b + y1) = true := by simp; omega
            go_wp2_with fail
            go_meet
            exact ⟨by rw [HB.out (by omega)], rfl⟩
      · obtain rfl : a = Q1 := by omega
        have t := half_stop h.out i.out
        obtain ⟨p0, p1⟩ := half_q0 h.out i.out i6
        have c1 : decide (4294967296 ≤ a) = false := by simp; omega
        have c2 : decide (4294967296 * b + l1 < a * y0) = false := by simp; omega
        go_wp2_with fail
        go_meet
        exact ⟨rfl, rfl⟩
  case rest =>
    obtain ⟨rfl, rfl⟩ := hcut
    have j1 := g.out.hx
    have j2 := g.out.hx'
    go_upto_block 2 with fail
    go_cut [18] (fun s18 wx => s18 = .int .u64 Q0 ∧ w = wx)
    case first =>
      go_wp2_with fail
      go_loop [18, 16] (fun q r => ∃ a b : Int, q = .int .u64 a ∧ r = .int .u64 b ∧ Hid (DInv u y1 Q0 a b)) (fun q _ => (intOf q).toNat)
      case atStart => exact ⟨_, _, rfl, rfl, Lib.hid (half_start g.out)⟩
      case round =>
        obtain ⟨a, b, rfl, rfl, i⟩ := hrel
        have i1 := i.out.hr
        have i2 := i.out.hr'
        have i3 := i.out.hq
        have i4 := i.out.hq'
        have i5 := g.out.hQ0
        have i6 := g.out.Qb
        by_cases hq : Q0 < a
        · have t := half_test g.out i.out hq
          have HB : Hid (4294967296 ≤ b + y1 → a - 1 = Q0) := Lib.hid (half_break g.out i.out hq)
          have HN : Hid (b + y1 < 4294967296 → DInv u y1 Q0 (a - 1) (b + y1)) := Lib.hid (half_next i.out (by omega) hq)
          by_cases ha : a < 4294967296
          · obtain ⟨p0, p1⟩ := half_q0 g.out i.out ha
            have c1 : decide (4294967296 ≤ a) = false := by simp; omega
            have c2 : decide (4294967296 * b + l0 < a * y0) = true := by simp; omega
            by_cases hb : b + y1 < 4294967296
            · have c3 : decide (4294967296 ≤ b + y1) = false := by simp; omega
              go_wp2_with fail
              go_round
              case rel => exact ⟨_, _, rfl, rfl, Lib.hid (HN.out hb)⟩
              case measure => simp [intOf]; omega
            · have c3 : decide (4294967296 ≤ b + y1) = true := by simp; omega
              go_wp2_with fail
              go_meet
              exact ⟨by rw [HB.out (by omega)], rfl⟩
          · have c1 : decide (4294967296 ≤ a) = true := by simp; omega
            by_cases hb : b + y1 < 4294967296
            · have c3 : decide (4294967296 ≤ b + y1) = false := by simp; omega
              go_wp2_with fail
              go_round
              case rel => exact ⟨_, _, rfl, rfl, Lib.hid (HN.out hb)⟩
              case measure => simp [intOf]; omega
            · have c3 : decide (4294967296 ≤ b + y1) = true := by simp; omega
              go_wp2_with fail
              go_meet
              exact ⟨by rw [HB.out (by omega)], rfl⟩
        · obtain rfl : a = Q0 := by omega
          have t := half_stop g.out i.out
          obtain ⟨p0, p1⟩ := half_q0 g.out i.out i6
          have c1 : decide (4294967296 ≤ a) = false := by simp; omega
          have c2 : decide (4294967296 * b + l0 < a * y0) = false := by simp; omega
          go_wp2_with fail
          go_meet
          exact ⟨rfl, rfl⟩
    case rest =>
      obtain ⟨rfl, rfl⟩ := hcut
      have k1 := h.out.hQ0
      have k2 := h.out.Qb
      have k3 := g.out.hQ0
      have k4 := g.out.Qb
      go_wp2_with fail
      go_ret2
      exact ⟨rfl, rfl⟩

set_option maxHeartbeats 1000000 in
theorem div64_walk0 (l y : Int) (w : World) (_hl0 : 0 ≤ l) (_hl : l < 18446744073709551616) (hy : 1 ≤ y) (_e1 : IntKind.u64.wrap (l / y) = l / y) (_e2 : IntKind.u64.wrap (l % y) = l % y) :
    Calls Try.prog 81 #[.int .u64 0, .int .u64 l, .int .u64 y] w fun e w' => e = .returned (.tuple #[.int .u64 (l / y), .int .u64 (l % y)]) ∧ Below w.heap.size w w' := by
  have h1 : (y == 0) = false := by rw [beq_eq_false_iff_ne]; omega
  have h2 : decide (y ≤ 0) = false := by simp; omega
  go_enter Try.func81, Try.ntmps81
  go_wp2_with fail
  go_region
  go_wp2_with fail
  go_ret2
  exact ⟨rfl, (Below.refl _ _).drew⟩
end Go.Proofs.Ytdpbjdecbilaeaa
/- Plain arithmetic: how many bits a number has. -/
namespace Go.Proofs.Ytdpbjdecbilaeaa.SmWord

/-- How many bits a number has. -/
def bl (x : Nat) : Nat := if x = 0 then 0 else x.log2 + 1
theorem bl_zero : bl 0 = 0 := rfl
theorem bl_eq {x k : Nat} (h1 : 2 ^ k ≤ x) (h2 : x < 2 ^ (k + 1)) : bl x = k + 1 := by
  have hx : x ≠ 0 := by have := Nat.two_pow_pos k; omega
  unfold bl
  rw [if_neg hx, (Nat.log2_eq_iff hx).2 ⟨h1, h2⟩]
theorem bl_spec {x : Nat} (hx : x ≠ 0) : ∃ k, bl x = k + 1 ∧ 2 ^ k ≤ x ∧ x < 2 ^ (k + 1) := by
  obtain ⟨h1, h2⟩ := (Nat.log2_eq_iff hx).1 rfl
  exact ⟨x.log2, by unfold bl; rw [if_neg hx], h1, h2⟩
theorem bl_lib {x : Nat} (h : x < B) : Lib.bitLen x = bl x := by
  by_cases hx : x = 0
  · subst hx; rfl
  · obtain ⟨a, b, c⟩ := Lib.bitLenAux_bounds 64 x (by simp only [B] at h; omega) hx
    have e : Lib.bitLen x = Lib.bitLenAux 64 x := rfl
    rw [← e] at a b c
    generalize Lib.bitLen x = L at *
    obtain ⟨k, rfl⟩ : ∃ k, L = k + 1 := ⟨L - 1, by omega⟩
    exact (bl_eq (by simpa using b) c).symm
theorem bl_up {r y s : Nat} (hr : r < 2 ^ s) (hy : y ≠ 0) : bl (r + 2 ^ s * y) = s + bl y := by
  obtain ⟨k, e, h1, h2⟩ := bl_spec hy
  rw [e, ← Nat.add_assoc]
  have e1 : 2 ^ (s + k) = 2 ^ s * 2 ^ k := Nat.pow_add _ _ _
  have e2 : 2 ^ (s + k + 1) = 2 ^ s * 2 ^ (k + 1) := by rw [Nat.add_assoc, Nat.pow_add]
  refine bl_eq ?_ ?_
  · rw [e1]; exact Nat.le_trans (Nat.mul_le_mul_left _ h1) (Nat.le_add_left _ _)
  · rw [e2]
    have := Nat.mul_le_mul_left (2 ^ s) (show y + 1 ≤ 2 ^ (k + 1) from h2)
    rw [Nat.mul_add] at this
    omega
theorem bl_le {x s : Nat} (h : x < 2 ^ s) : bl x ≤ s := by
  by_cases hx : x = 0
  · subst hx; exact Nat.zero_le _
  · obtain ⟨k, e, h1, _⟩ := bl_spec hx
    have : k < s := (Nat.pow_lt_pow_iff_right (by decide)).1 (Nat.lt_of_le_of_lt h1 h)
    omega
theorem bl_step (m k : Nat) : bl (m % 2 ^ (k + 1)) = if bitN m k = 1 then k + 1 else bl (m % 2 ^ k) := by
  have e : m % 2 ^ (k + 1) = m % 2 ^ k + 2 ^ k * bitN m k := by rw [Nat.pow_succ, Nat.mod_mul]; rfl
  have h := bitN_lt m k
  have hlt : m % 2 ^ k < 2 ^ k := Nat.mod_lt _ (Nat.two_pow_pos k)
  by_cases hb : bitN m k = 1
  · rw [if_pos hb, e, hb, Nat.mul_one]
    exact bl_eq (Nat.le_add_left _ _) (by rw [Nat.pow_succ]; omega)
  · rw [if_neg hb, e, show bitN m k = 0 by omega, Nat.mul_zero, Nat.add_zero]
theorem bl_num {a b c d : Nat} (ha : a < B) (hb : b < B) (hc : c < B) :
    (d ≠ 0 → bl (num a b c d) = 192 + bl d) ∧ (d = 0 → c ≠ 0 → bl (num a b c d) = 128 + bl c) ∧ (d = 0 → c = 0 → b ≠ 0 → bl (num a b c d) = 64 + bl b) ∧
    (d = 0 → c = 0 → b = 0 → bl (num a b c d) = bl a) := by
  refine ⟨fun h => ?_, fun h1 h => ?_, fun h1 h2 h => ?_, fun h1 h2 h3 => ?_⟩
  · rw [← bl_up (r := num a b c 0) (s := 192) (by unfold num; simp only [B] at *; omega) h]
    congr 1
    unfold num; simp only [B]; omega
  · subst h1
    rw [← bl_up (r := num a b 0 0) (s := 128) (by unfold num; simp only [B] at *; omega) h]
    congr 1
    unfold num; simp only [B]; omega
  · subst h1 h2
    rw [← bl_up (r := num a 0 0 0) (s := 64) (by unfold num; simp only [B] at *; omega) h]
    congr 1
  · subst h1 h2 h3
    congr 1
end Go.Proofs.Ytdpbjdecbilaeaa.SmWord
/- What math/bits.Div64 does in numbers, where the divisor's highest bit is 1; and what the function guessDigit of package wide does: it returns the guess, and leaves all older memory as it was. -/
namespace Go.Proofs.Ytdpbjdecbilaeaa
open Go.RowKit SmWord
set_option maxRecDepth 100000

theorem and_low (y : Nat) (hy : y < B) : bits .and .u64 (y : Int) 4294967295 = ((y % 4294967296 : Nat) : Int) := by
  have h := u64_and_nat y 4294967295 hy (by decide)
  have e : y &&& 4294967295 = y % 4294967296 := Nat.and_two_pow_sub_one_eq_mod y 32
  rw [e] at h
  exact h
theorem or_none (x l : Nat) (hx : x < B) (hl : l < B) : bits .or .u64 (x : Int) ((l : Int) / 18446744073709551616) = (x : Int) := by
  have e : (l : Int) / 18446744073709551616 = ((0 : Nat) : Int) := by simp only [B] at hl; omega
  rw [e, u64_or_nat x 0 hx (by decide), Nat.or_zero]
theorem half_nat {x l y : Nat} (hx : x < y) (hy : y < B) (hy2 : 9223372036854775808 ≤ y) (hl : l < 4294967296) :
    Half (x : Int) (l : Int) (y : Int) ((y / 4294967296 : Nat) : Int) ((y % 4294967296 : Nat) : Int) (((x * 4294967296 + l) / y : Nat) : Int) := by
  have h0 : 0 < y := by omega
  have e := Nat.div_add_mod (x * 4294967296 + l) y
  have f := Nat.mod_lt (x * 4294967296 + l) h0
  rw [Nat.mul_comm] at e
  generalize (x * 4294967296 + l) / y = q at *
  have c : ((q * y : Nat) : Int) = (q : Int) * (y : Int) := Int.natCast_mul _ _
  simp only [B] at hy
  refine ⟨by omega, by omega, by omega, by omega, by omega, by omega, by omega, by omega, by omega, ?_, ?_, by omega⟩
  · rw [← c]; omega
  · rw [← c]; omega
theorem half_rest {x l y : Nat} (hx : x < y) (hy : y < B) (hy2 : 9223372036854775808 ≤ y) (hl : l < 4294967296) :
    IntKind.u64.wrap (IntKind.u64.wrap (IntKind.u64.wrap ((x : Int) * 4294967296) + (l : Int)) - IntKind.u64.wrap ((((x * 4294967296 + l) / y : Nat) : Int) * (y : Int))) = (((x * 4294967296 + l) % y : Nat) : Int) := by
  have h := half_left (half_nat hx hy hy2 hl) (by simp only [B] at hy; omega)
  rw [IntKind.wrap_u64, IntKind.wrap_u64, IntKind.wrap_u64, IntKind.wrap_u64, h]
  have e := Nat.div_add_mod (x * 4294967296 + l) y
  rw [Nat.mul_comm] at e
  generalize (x * 4294967296 + l) / y = q at *
  generalize (x * 4294967296 + l) % y = r at *
  have c : ((q * y : Nat) : Int) = (q : Int) * (y : Int) := Int.natCast_mul _ _
  rw [← c]; omega
theorem top_zeros (y : Nat) (hy : y < B) (hy2 : 9223372036854775808 ≤ y) (w : World) :
    Calls Try.prog 82 #[.int .u64 (y : Int)] w fun e w' => e = .returned (.int .i64 0) ∧ w = w' := by
  refine (Try.bits_LeadingZeros64 y w (by omega) (by simp only [B] at hy; omega)).mono fun e w' ⟨h1, h2⟩ => ⟨?_, h2.symm⟩
  rw [h1, Int.toNat_natCast, bl_lib hy, bl_eq (k := 63) hy2 hy]
  rfl
theorem two_halves {x l y : Nat} (hy : 0 < y) :
    (x * 4294967296 + l / 4294967296) / y * 4294967296 + ((x * 4294967296 + l / 4294967296) % y * 4294967296 + l % 4294967296) / y = (x * B + l) / y ∧
    ((x * 4294967296 + l / 4294967296) % y * 4294967296 + l % 4294967296) % y = (x * B + l) % y := by
  have e := Nat.div_add_mod (x * 4294967296 + l / 4294967296) y
  have key : x * B + l = (x * 4294967296 + l / 4294967296) % y * 4294967296 + l % 4294967296 + y * ((x * 4294967296 + l / 4294967296) / y * 4294967296) := by
    rw [← Nat.mul_assoc]
    generalize (x * 4294967296 + l / 4294967296) % y = r at *
    generalize y * ((x * 4294967296 + l / 4294967296) / y) = z at *
    simp only [B]; omega
  rw [key, Nat.add_mul_div_left _ _ hy, Nat.add_mul_mod_self_left]
  exact ⟨Nat.add_comm _ _, rfl⟩

theorem div64_nat (x l y : Nat) (hx : x < y) (hl : l < B) (hy : y < B) (hy2 : 9223372036854775808 ≤ y) (w : World) :
    Calls Try.prog 81 #[.int .u64 (x : Int), .int .u64 (l : Int), .int .u64 (y : Int)] w fun e w' =>
      e = .returned (.tuple #[.int .u64 (((x * B + l) / y : Nat) : Int), .int .u64 (((x * B + l) % y : Nat) : Int)]) ∧ Below w.heap.size w w' := by
  have hp : 0 < y := by omega
  rcases Nat.eq_zero_or_pos x with h0 | h0
  · subst h0
    rw [Nat.zero_mul, Nat.zero_add]
    have g := div64_walk0 l y w (by omega) (by simp only [B] at hl; omega) (by omega)
      (by rw [IntKind.wrap_u64, ← Int.natCast_ediv]; have := Nat.div_le_self l y; generalize l / y = z at *; simp only [B] at hl; omega)
      (by rw [IntKind.wrap_u64, ← Int.natCast_emod]; have := Nat.mod_lt l hp; simp only [B] at hy; omega)
    rw [← Int.natCast_ediv, ← Int.natCast_emod] at g
    exact g
  · obtain ⟨t1, t2⟩ := two_halves (x := x) (l := l) hp
    have d1 : l / 4294967296 < 4294967296 := by simp only [B] at hl; omega
    have d2 : l % 4294967296 < 4294967296 := Nat.mod_lt _ (by decide)
    have d3 := Nat.mod_lt (x * 4294967296 + l / 4294967296) hp
    have H1 := half_nat hx hy hy2 d1
    have H2 := half_nat d3 hy hy2 d2
    have R1 := half_rest hx hy hy2 d1
    have R2 := half_rest d3 hy hy2 d2
    obtain ⟨a1, a2, a3, a4⟩ := half_div H1
    obtain ⟨b1, b2, b3, b4⟩ := half_div H2
    have g := div64_walk x l y _ _ _ _ _ _ _ _ w (by omega) (by omega) (by simp only [B] at hy; omega) (by omega) (by omega) (by simp only [B] at hl; omega)
      H1.hy1 H1.hy1' H1.hy0 H1.hy0' H1.hl H1.hl' H2.hl H2.hl' (by omega) (and_low y hy) (or_none x l (by omega) hl) (by omega) (and_low l hl)
      (Lib.hid H1) (Lib.hid H2) a1 a2 a3 a4 R1 b1 b2 b3 b4 R2 (Lib.hid (top_zeros y hy hy2))
    refine g.mono fun e w' ⟨h1, h2⟩ => ⟨?_, h2 ▸ Below.refl _ _⟩
    rw [h1, t2, ← t1]
    rfl

set_option maxHeartbeats 1000000 in
theorem guess_walk0 (a0 a1 a2 a3 b0 b1 b2 b3 : Int) (w : World) (h : b3 ≤ a3) :
    Calls Try.prog 80 #[.agg #[.int .u64 a0, .int .u64 a1, .int .u64 a2, .int .u64 a3], .agg #[.int .u64 b0, .int .u64 b1, .int .u64 b2, .int .u64 b3]] w fun e w' => e = .returned (.int .u64 18446744073709551615) ∧ Below w.heap.size w w' := by
  go_enter Try.func80, Try.ntmps80
  go_wp2
  go_ret
  exact ⟨rfl, ((Below.refl _ _).alloc (Nat.le_refl _) _).alloc (by simp) _⟩
set_option maxHeartbeats 1000000 in
theorem guess_walk1 (a0 a1 a2 a3 b0 b1 b2 b3 q r : Int) (w : World) (h : a3 < b3)
    (H : Hid (∀ w : World, Calls Try.prog 81 #[.int .u64 a3, .int .u64 a2, .int .u64 b3] w fun e w' => e = .returned (.tuple #[.int .u64 q, .int .u64 r]) ∧ Below w.heap.size w w')) :
    Calls Try.prog 80 #[.agg #[.int .u64 a0, .int .u64 a1, .int .u64 a2, .int .u64 a3], .agg #[.int .u64 b0, .int .u64 b1, .int .u64 b2, .int .u64 b3]] w fun e w' => e = .returned (.int .u64 q) ∧ Below w.heap.size w w' := by
  go_enter Try.func80, Try.ntmps80
  go_wp2_with (go_at_call 81; refine (H.out _).mono ?_; rintro e w' ⟨rfl, hb⟩)
  go_ret
  exact ⟨rfl, (((Below.refl _ _).alloc (Nat.le_refl _) _).alloc (by simp) _).trans (hb.mono (by simp; try omega))⟩
theorem guess_wd (r m : Nat) (hm : 9223372036854775808 ≤ l3 m) (w : World) :
    Calls Try.prog 80 #[wd r, wd m] w fun e w' => e = .returned (.int .u64 ((gs r m : Nat) : Int)) ∧ Below w.heap.size w w' := by
  unfold gs
  by_cases h : l3 m ≤ l3 r
  · rw [if_pos h]
    exact guess_walk0 _ _ _ _ _ _ _ _ w (by omega)
  · rw [if_neg h]
    exact guess_walk1 _ _ _ _ _ _ _ _ _ _ w (by omega) (Lib.hid fun w => div64_nat (l3 r) (l2 r) (l3 m) (by omega) (l_lt r).2.2.1 (l_lt m).2.2.2 hm w)
end Go.Proofs.Ytdpbjdecbilaeaa
