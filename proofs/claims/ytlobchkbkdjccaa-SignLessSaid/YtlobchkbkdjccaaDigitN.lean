/- What the function digit of package wide does, in numbers: a part of a quotient, and what is left; all older memory is as it was. -/
import Derived.Test.YtlobchkbkdjccaaDigit
namespace Go.Proofs.Ytlobchkbkdjccaa
open Go.RowKit SmWord
set_option maxRecDepth 100000

theorem top_part {m : Nat} (hm : m < M) (ht : M ≤ 2 * m) : 9223372036854775808 ≤ l3 m := by
  have em : num (l0 m) (l1 m) (l2 m) (l3 m) = m := by rw [num_parts, Nat.mod_eq_of_lt hm]
  obtain ⟨A0, A1, A2, A3⟩ := l_lt m
  have hM : M = B * (B * (B * B)) := by decide
  unfold num at em
  rw [hM] at ht
  simp only [B] at *
  omega
theorem up_wa (R x : Nat) (hx : x < B) :
    ((((wa 0).setIfInBounds 0 (Value.int .u64 (x : Int))).setIfInBounds 1 (.int .u64 ((l0 R : Nat) : Int))).setIfInBounds 2 (.int .u64 ((l1 R : Nat) : Int))).setIfInBounds 3 (.int .u64 ((l2 R : Nat) : Int)) = wa (R * B + x) := by
  obtain ⟨A0, A1, A2, A3⟩ := l_lt R
  have e : (num x (l0 R) (l1 R) (l2 R)) % M = (R * B + x) % M := by
    have hM : M = B * (B * (B * B)) := by decide
    have er := num_parts R
    have e2 : num (l0 R) (l1 R) (l2 R) (l3 R) * B + x = num x (l0 R) (l1 R) (l2 R) + M * l3 R := by
      rw [hM]; unfold num; simp only [B]; omega
    have e3 : (R * B + x) % M = (R % M * B + x) % M := by
      rw [← Nat.mod_add_mod, ← Nat.mod_mul_mod, Nat.mod_add_mod]
    rw [e3, ← er, e2, Nat.add_mul_mod_self_left]
  have h := wd_num hx A0 A1 A2
  rw [wd_congr e] at h
  exact (Value.agg.inj h).symm

theorem dg_u0 {a ov : Nat} (_h3 : a < B) (_hP : ov < B) : IntKind.u64.wrap ((a : Int) - (ov : Int)) = (((a + B - ov) % B : Nat) : Int) := by
  rw [IntKind.wrap_u64]; simp only [B] at *; omega
theorem dg_u1 {a ov : Nat} (_h3 : a < B) (_hP : ov < B) : IntKind.u64.wrap ((((a + B - ov) % B : Nat) : Int) - 1) = (((a + B - ov + (B - 1)) % B : Nat) : Int) := by
  rw [IntKind.wrap_u64]; simp only [B] at *; omega

theorem digit_wd (R x m : Nat) (hR : R < m) (hx : x < B) (hm : m < M) (ht : M ≤ 2 * m) (w : World) :
    Calls Try.prog 55 #[wd R, .int .u64 (x : Int), wd m] w fun e w' => e = .returned (.tuple #[.int .u64 (((R * B + x) / m : Nat) : Int), wd ((R * B + x) % m)]) ∧ Below w.heap.size w w' := by
  have hg := gs_lt R m
  obtain ⟨n1, n2⟩ := gs_near hR hx hm ht
  have hst := over_start hR hx hm hg rfl (d := gs R m - (R * B + x) / m) (by omega)
  have hM0 : 0 < M := by decide
  have hP : gs R m * m / M < B := by
    rw [Nat.div_lt_iff_lt_mul hM0]
    have h1 : gs R m * m ≤ gs R m * M := Nat.mul_le_mul_left _ (by omega)
    have h2 : (gs R m + 1) * M ≤ B * M := Nat.mul_le_mul_right _ hg
    rw [Nat.add_mul] at h2; omega
  have h3 := (l_lt R).2.2.2
  have hD : ((((R * B + x) % M + M - gs R m * m % M) % M) + gs R m * m) % M = (R * B + x) % M := by
    have t1 := Nat.mod_lt (R * B + x) hM0
    have t2 := Nat.mod_lt (gs R m * m) hM0
    rw [Nat.mod_add_mod, ← Nat.add_mod_mod, show (R * B + x) % M + M - gs R m * m % M + gs R m * m % M = (R * B + x) % M + M by omega, Nat.add_mod_right, Nat.mod_mod]
  have hr := Nat.mod_lt (R * B + x) (show 0 < m by omega)
  have hgs : ∀ w : World, Calls Try.prog 59 #[wd 0, wd m, .int .u64 ((gs R m : Nat) : Int)] w fun e w' => e = .returned (.tuple #[wd (gs R m * m), .int .u64 ((gs R m * m / M : Nat) : Int)]) ∧ Below w.heap.size w w' := fun w => by
    have := addTimes_wd 0 m (gs R m) hg w
    rw [show 0 % M + m % M * gs R m = gs R m * m by rw [Nat.mod_eq_of_lt hm, Nat.zero_mod, Nat.zero_add, Nat.mul_comm]] at this
    exact this
  refine digit_walk R m (R * B + x) (gs R m * m) _ (gs R m) (gs R m * m / M) ((l3 R + B - gs R m * m / M) % B) _ ((R * B + x) / m) ((R * B + x) % m) (gs R m - (R * B + x) / m) x (cmpN ((R * B + x) % M) (gs R m * m % M)) w
    (Lib.hid fun w => guess_wd R m (top_part hm ht) w) (Lib.hid hgs) (Lib.hid (up_wa R x hx)) (Lib.hid fun w => compare_wd _ _ w) (Lib.hid fun w => sub_wd _ _ _ w hD)
    (Lib.hid ?_) (Lib.hid fun hc => ?_) (Lib.hid fun hc => ?_) (Lib.hid (by omega)) hg (by omega) (Lib.hid hst) (Lib.hid hr) (Lib.hid (by omega)) (Lib.hid hm)
  · exact dg_u0 h3 hP
  · have : (R * B + x) % M < gs R m * m % M := by
      unfold cmpN at hc; split at hc
      · assumption
      · split at hc <;> omega
    rw [if_pos this]
    exact dg_u1 h3 hP
  · have : ¬ (R * B + x) % M < gs R m * m % M := by
      unfold cmpN at hc; split at hc
      · omega
      · assumption
    rw [if_neg this, Nat.add_zero]
end Go.Proofs.Ytlobchkbkdjccaa
