/- What the function divide of package wide does, in numbers: a quotient, cut down, and what is left; 0 and 0, where the divisor is 0; all older memory is as it was. -/
import Derived.Test.YtlobchkbkdjccaaDivW
import Derived.Test.YtlobchkbkdjccaaDvM
namespace Go.Proofs.Ytlobchkbkdjccaa
open Go.RowKit SmWord
set_option maxRecDepth 100000

set_option maxHeartbeats 1000000 in
theorem divide_walk0 (a0 a1 a2 a3 b0 b1 b2 b3 : Int) (w : World) :
    Calls Try.prog 45 #[.agg #[.int .u64 a0, .int .u64 a1, .int .u64 a2, .int .u64 a3], .agg #[.int .u64 b0, .int .u64 b1, .int .u64 b2, .int .u64 b3], .agg #[.int .u64 0, .int .u64 0, .int .u64 0, .int .u64 0]] w fun e w' =>
      e = .returned (.tuple #[.agg #[.int .u64 0, .int .u64 0, .int .u64 0, .int .u64 0], .agg #[.int .u64 0, .int .u64 0, .int .u64 0, .int .u64 0]]) ∧ Below w.heap.size w w' := by
  have he : ∀ w : World, (Op.equalIn 10000 24 (.agg #[.int .u64 0, .int .u64 0, .int .u64 0, .int .u64 0]) (.agg #[.int .u64 0, .int .u64 0, .int .u64 0, .int .u64 0])).run Try.prog w = .ok true w := fun w => by
    have := equal_wa 0 0 w
    rw [decide_eq_true rfl] at this
    exact this
  have hg := Try.guardW
  go_enter Try.func45, Try.ntmps45
  go_wp2
  refine bodyPost_ret (v := .tuple #[.agg #[.int .u64 0, .int .u64 0, .int .u64 0, .int .u64 0], .agg #[.int .u64 0, .int .u64 0, .int .u64 0, .int .u64 0]]) (by simp [results, Try.results45, go_sem]) rfl ⟨rfl, ?_⟩
  repeat (first | exact Below.refl _ _ | refine Below.drew ?_ | refine Below.alloc ?_ (by simp; try omega) _ | refine Below.setCell ?_ (by simp; try omega) _)

theorem wa_set (q d j : Nat) (hj : j < 4) (hd : d < B) : (wa (q * B ^ (j + 1))).setIfInBounds j (.int .u64 ((d : Nat) : Int)) = wa (q * B ^ (j + 1) + d * B ^ j) := by
  apply Array.ext_getElem?
  intro i
  by_cases hi : i < 4
  · rw [wa_lb _ i hi, lb_set q d j i hd]
    by_cases hij : i = j
    · subst hij
      rw [if_pos rfl, Array.getElem?_setIfInBounds_self_of_lt (by rw [wa_size]; exact hi)]
    · rw [if_neg hij, Array.getElem?_setIfInBounds_ne (Ne.symm hij), wa_lb _ i hi]
  · rw [Array.getElem?_eq_none (by rw [Array.size_setIfInBounds, wa_size]; omega), Array.getElem?_eq_none (by rw [wa_size]; omega)]

theorem divide_pos (H L m s : Nat) (hH : H < m) (hL : L < M) (hm : m < M) (hs : s ≤ 255) (hb : bl m = 256 - s) (h1 : m * 2 ^ s < M) (h2 : M ≤ 2 * (m * 2 ^ s)) (w : World) :
    Calls Try.prog 45 #[wd H, wd L, wd m] w fun e w' => e = .returned (.tuple #[wd ((H * M + L) / m), wd ((H * M + L) % m)]) ∧ Below w.heap.size w w' := by
  have hm0 : 0 < m := by omega
  have hB : s < B := by simp only [B]; omega
  have hp := Nat.two_pow_pos s
  have hm1 : 0 < m * 2 ^ s := Nat.mul_pos hm0 hp
  have hlow := dv_low hL (show s ≤ 256 by omega)
  have hR := dv_rest hH hlow
  have hL1 : L * 2 ^ s % M < M := Nat.mod_lt _ (by decide)
  have hj := dv_join (H := H) (L := L) (show s ≤ 256 by omega)
  obtain ⟨R, eR⟩ : ∃ R, H * 2 ^ s + L / 2 ^ (256 - s) = R := ⟨_, rfl⟩
  obtain ⟨L1, eL⟩ : ∃ L1, L * 2 ^ s % M = L1 := ⟨_, rfl⟩
  obtain ⟨m1, em⟩ : ∃ m1, m * 2 ^ s = m1 := ⟨_, rfl⟩
  rw [eR] at hR hj
  rw [eL] at hL1 hj
  rw [em] at h1 h2 hR hm1
  have x4 := xk_top (R := R) hL1
  have x0 := xk_zero R L1
  rw [hj] at x0
  have q0 : qk R L1 m1 0 = (H * M + L) / m := by
    unfold qk
    rw [x0, Nat.pow_zero, Nat.mul_one, ← em, Nat.mul_div_mul_right _ _ hp]
  have r0 : xk R L1 0 % m1 = (H * M + L) % m * 2 ^ s := by rw [x0, ← em, Nat.mul_mod_mul_right]
  have key := divide_walk H L m m1 (H * 2 ^ s) (L / 2 ^ (256 - s)) L1 s (fun j => xk R L1 j % m1) (qk R L1 m1) (fun j => (xk R L1 (j + 1) % m1 * B + lb L1 j) / m1) ((H * M + L) % m) w
    (Lib.hid fun w => by rw [equal_wa, Nat.mod_eq_of_lt hm, Nat.zero_mod, decide_eq_false (by omega)]) (Nat.zero_le _) hs
    (Lib.hid fun w => by
      have := len_wd m w
      rw [Nat.mod_eq_of_lt hm, hb, show (((256 - s : Nat)) : Int) = 256 - (s : Int) by omega] at this
      exact this)
    (Lib.hid fun w => by rw [← em]; exact shl_wd m s hB w)
    (Lib.hid fun w => shl_wd H s hB w)
    (Lib.hid fun w => by
      have := shr_wd L (256 - s) (by simp only [B]; omega) w
      rw [Nat.mod_eq_of_lt hL, show (((256 - s : Nat)) : Int) = 256 - (s : Int) by omega] at this
      exact this)
    (Lib.hid fun w => by
      have := or_wd (H * 2 ^ s) (L / 2 ^ (256 - s)) w
      rw [or_parts, or_apart hlow, eR, wd_congr (Nat.mod_mod R M)] at this
      show Calls Try.prog 54 _ w fun e w' => e = .returned (wd (xk R L1 4 % m1)) ∧ _
      rw [x4, Nat.mod_eq_of_lt hR]
      exact this)
    (Lib.hid fun w => by
      have := shl_wd L s hB w
      rw [← wd_congr (Nat.mod_mod (L * 2 ^ s) M), eL] at this
      exact this)
    (Lib.hid (by unfold qk; rw [x4, Nat.div_eq_of_lt hR, Nat.zero_mul]))
    (Lib.hid fun j hj w => by
      show Calls Try.prog 55 _ w fun e w' => e = .returned (.tuple #[_, wd (xk R L1 j % m1)]) ∧ _
      rw [(xk_div R L1 j m1 hj hm1).2]
      exact digit_wd (xk R L1 (j + 1) % m1) (lb L1 j) m1 (Nat.mod_lt _ hm1) (lb_lt _ _) h1 h2 w)
    (Lib.hid fun j hj => by
      rw [qk_step R L1 j m1 hj hm1]
      unfold qk
      refine wa_set _ _ j hj ?_
      rw [Nat.div_lt_iff_lt_mul hm1]
      have t1 := Nat.mod_lt (xk R L1 (j + 1)) hm1
      have t2 := lb_lt L1 j
      have t3 : (xk R L1 (j + 1) % m1 + 1) * B ≤ m1 * B := Nat.mul_le_mul_right _ t1
      rw [Nat.add_mul] at t3
      rw [Nat.mul_comm B m1]
      omega)
    (Lib.hid fun w => by
      have := shr_wd (xk R L1 0 % m1) s hB w
      have t1 := Nat.mod_lt (xk R L1 0) hm1
      rw [Nat.mod_eq_of_lt (show xk R L1 0 % m1 < M by omega)] at this
      show Calls Try.prog 41 #[wd (xk R L1 0 % m1), _] w _
      rw [r0, Nat.mul_div_cancel _ hp] at this
      rw [r0]
      exact this)
  rw [q0] at key
  exact key

theorem divide_wd (h l m : Nat) (hh : h % M < m % M ∨ m % M = 0) (w : World) :
    Calls Try.prog 45 #[wd h, wd l, wd m] w fun e w' => e = .returned (.tuple #[wd ((h % M * M + l % M) / (m % M)), wd (rs (h % M * M + l % M) (m % M))]) ∧ Below w.heap.size w w' := by
  by_cases hm : m % M = 0
  · rw [hm, Nat.div_zero, rs_zero, wd_congr (show m % M = 0 % M by rw [hm, Nat.zero_mod])]
    exact divide_walk0 _ _ _ _ _ _ _ _ w
  · have hlt : m % M < M := Nat.mod_lt _ (by decide)
    obtain ⟨s, hs, hb, h1, h2⟩ := dv_shift hlt hm
    have := divide_pos (h % M) (l % M) (m % M) s (by omega) (Nat.mod_lt _ (by decide)) hlt hs hb h1 h2 w
    rw [rs_pos hm]
    rw [wd_congr (Nat.mod_mod h M), wd_congr (Nat.mod_mod l M), wd_congr (Nat.mod_mod m M)] at this
    exact this
end Go.Proofs.Ytlobchkbkdjccaa
