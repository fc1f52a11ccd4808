/- What the functions Of, Not, And, Or, Xor, Add, Sub and mulAdd of package word do, for every word: each returns the word it should, and leaves all older memory as it was. -/
import Derived.Test.YtlobchkbkdjccaaRows
import Derived.Test.YtlobchkbkdjccaaMath
import Derived.Test.YtlobchkbkdjccaaShelf
import Derived.WalkKit
import Derived.WalkSpells
import Derived.WalkLawsBesides
import Derived.BigQuiet
import Derived.LoopN
namespace Go.Proofs.Ytlobchkbkdjccaa
open Go.RowKit SmWord
set_option maxRecDepth 100000

/-- The parts of the word n (of n its rest by 2^256). -/
def wa (n : Nat) : Array Value := #[.int .u64 ((l0 n : Nat) : Int), .int .u64 ((l1 n : Nat) : Int), .int .u64 ((l2 n : Nat) : Int), .int .u64 ((l3 n : Nat) : Int)]
/-- The word n. -/
abbrev wd (n : Nat) : Value := .agg (wa n)

theorem wa_congr {m n : Nat} (h : m % M = n % M) : wa m = wa n := by
  obtain ⟨h0, h1, h2, h3⟩ := parts_congr h
  unfold wa; rw [h0, h1, h2, h3]
theorem wa_inj {m n : Nat} (h : wa m = wa n) : m % M = n % M := by
  unfold wa at h
  simp only [Array.mk.injEq, List.cons.injEq, Value.int.injEq, true_and, and_true] at h
  obtain ⟨h0, h1, h2, h3⟩ := h
  exact congr_parts (by omega) (by omega) (by omega) (by omega)
theorem wd_congr {m n : Nat} (h : m % M = n % M) : wd m = wd n := congrArg Value.agg (wa_congr h)
theorem wd_num {a b c d : Nat} (ha : a < B) (hb : b < B) (hc : c < B) (hd : d < B) :
    wd (num a b c d) = .agg #[.int .u64 (a : Int), .int .u64 (b : Int), .int .u64 (c : Int), .int .u64 (d : Int)] := by
  obtain ⟨h0, h1, h2, h3⟩ := parts_num ha hb hc hd
  unfold wd wa; rw [h0, h1, h2, h3]
theorem wd_inj {m n : Nat} (h : wd m = wd n) : m % M = n % M := wa_inj (Value.agg.inj h)

theorem add64_run (x y c : Nat) (hc : c ≤ 1) (w : World) :
    (callFunc 63 #[.int .u64 (x : Int), .int .u64 (y : Int), .int .u64 (c : Int)]).run Try.prog w = .ok (.value (.tuple #[.int .u64 ((lo x y c : Nat) : Int), .int .u64 ((hi x y c : Nat) : Int)])) w := by
  rw [run_callFunc_extern (e := add64Entry) Try.func63 (by kernel_rfl) (by kernel_rfl) (by kernel_rfl) (by kernel_rfl), run_add64 x y c (by omega) (by omega) (by omega) (by omega) w]
  unfold lo hi
  simp only [Result.andThen]
  congr 7
def sub64Entry : Array Value → Sem Value := fun args => do
  let (x, y, b) ← Extern.MathBitsCarry.three "Sub64" args
  pure (Extern.MathBitsCarry.pair ((x + Extern.MathBitsCarry.m64 - y - b) % Extern.MathBitsCarry.m64) (if x < y + b then 1 else 0))
theorem sub64_run (x y c : Nat) (hc : c ≤ 1) (w : World) :
    (callFunc 50 #[.int .u64 (x : Int), .int .u64 (y : Int), .int .u64 (c : Int)]).run Try.prog w = .ok (.value (.tuple #[.int .u64 ((dlo x y c : Nat) : Int), .int .u64 ((dhi x y c : Nat) : Int)])) w := by
  rw [run_callFunc_extern (e := sub64Entry) Try.func50 (by kernel_rfl) (by kernel_rfl) (by kernel_rfl) (by kernel_rfl)]
  have h : c = 0 ∨ c = 1 := by omega
  have m : Extern.MathBitsCarry.m64 = B := rfl
  rcases h with rfl | rfl
  all_goals
    show Result.andThen (Result.ok (Extern.MathBitsCarry.pair _ _) w) _ = _
    simp only [Result.andThen, Extern.MathBitsCarry.pair, m]
    rfl

set_option maxHeartbeats 400000 in
theorem of_wd (n : Nat) (w : World) (hn : n < B) :
    Calls Try.prog 52 #[.int .u64 (n : Int)] w fun e w' => e = .returned (wd n) ∧ Below w.heap.size w w' := by
  have hv : wd n = .agg #[.int .u64 (n : Int), .int .u64 0, .int .u64 0, .int .u64 0] := by
    have := wd_num (a := n) (b := 0) (c := 0) (d := 0) hn (by decide) (by decide) (by decide)
    simpa [num] using this
  rw [hv]
  clear hv hn
  go_enter Try.func52, Try.ntmps52
  go_wp2
  refine bodyPost_ret (v := .agg #[.int .u64 (n : Int), .int .u64 0, .int .u64 0, .int .u64 0]) (by simp [results, Try.results52, go_sem]) rfl ⟨rfl, ?_⟩
  exact (Below.refl _ _).alloc (Nat.le_refl _) _

set_option maxHeartbeats 2000000 in
theorem add_walk (a0 a1 a2 a3 b0 b1 b2 b3 r0 r1 r2 r3 c0 c1 c2 c3 : Int) (w : World)
    (k0 : ∀ w : World, (callFunc 63 #[.int .u64 a0, .int .u64 b0, .int .u64 0]).run Try.prog w = .ok (.value (.tuple #[.int .u64 r0, .int .u64 c0])) w)
    (k1 : ∀ w : World, (callFunc 63 #[.int .u64 a1, .int .u64 b1, .int .u64 c0]).run Try.prog w = .ok (.value (.tuple #[.int .u64 r1, .int .u64 c1])) w)
    (k2 : ∀ w : World, (callFunc 63 #[.int .u64 a2, .int .u64 b2, .int .u64 c1]).run Try.prog w = .ok (.value (.tuple #[.int .u64 r2, .int .u64 c2])) w)
    (k3 : ∀ w : World, (callFunc 63 #[.int .u64 a3, .int .u64 b3, .int .u64 c2]).run Try.prog w = .ok (.value (.tuple #[.int .u64 r3, .int .u64 c3])) w) :
    Calls Try.prog 60 #[.agg #[.int .u64 a0, .int .u64 a1, .int .u64 a2, .int .u64 a3], .agg #[.int .u64 b0, .int .u64 b1, .int .u64 b2, .int .u64 b3]] w fun e w' =>
      e = .returned (.agg #[.int .u64 r0, .int .u64 r1, .int .u64 r2, .int .u64 r3]) ∧ Below w.heap.size w w' := by
  go_enter Try.func60, Try.ntmps60
  go_wp2
  refine wp_loop_rounds 5 ?_
  rw [rounds_succ]
  go_wp2
  go_region
  go_wp2
  rw [rounds_succ]
  go_wp2
  go_region
  go_wp2
  rw [rounds_succ]
  go_wp2
  go_region
  go_wp2
  rw [rounds_succ]
  go_wp2
  go_region
  go_wp2
  rw [rounds_succ]
  go_wp2
  refine bodyPost_ret (v := .agg #[.int .u64 r0, .int .u64 r1, .int .u64 r2, .int .u64 r3]) (by simp [results, Try.results60, go_sem]) rfl ⟨rfl, ?_⟩
  repeat (first | exact Below.refl _ _ | refine Below.drew ?_ | refine Below.alloc ?_ (by simp; try omega) _ | refine Below.setCell ?_ (by simp; try omega) _)

theorem add_wd (m n : Nat) (w : World) :
    Calls Try.prog 60 #[wd m, wd n] w fun e w' => e = .returned (wd (m + n)) ∧ Below w.heap.size w w' := by
  obtain ⟨A0, A1, A2, _⟩ := l_lt m
  obtain ⟨C0, C1, C2, _⟩ := l_lt n
  have e := add_num (l0 m) (l1 m) (l2 m) (l3 m) (l0 n) (l1 n) (l2 n) (l3 n)
  rw [num_parts, num_parts, ← Nat.add_mod] at e
  rw [← wd_congr e, wd_num (lo_lt _ _ _) (lo_lt _ _ _) (lo_lt _ _ _) (lo_lt _ _ _)]
  have q0 := hi_le A0 C0 (c := 0) (Nat.zero_le _)
  have q1 := hi_le A1 C1 q0
  have q2 := hi_le A2 C2 q1
  exact add_walk _ _ _ _ _ _ _ _ _ _ _ _ _ _ _ _ w (add64_run _ _ 0 (Nat.zero_le _)) (add64_run _ _ _ q0) (add64_run _ _ _ q1) (add64_run _ _ _ q2)

set_option maxHeartbeats 2000000 in
theorem sub_walk (a0 a1 a2 a3 b0 b1 b2 b3 r0 r1 r2 r3 c0 c1 c2 c3 : Int) (w : World)
    (k0 : ∀ w : World, (callFunc 50 #[.int .u64 a0, .int .u64 b0, .int .u64 0]).run Try.prog w = .ok (.value (.tuple #[.int .u64 r0, .int .u64 c0])) w)
    (k1 : ∀ w : World, (callFunc 50 #[.int .u64 a1, .int .u64 b1, .int .u64 c0]).run Try.prog w = .ok (.value (.tuple #[.int .u64 r1, .int .u64 c1])) w)
    (k2 : ∀ w : World, (callFunc 50 #[.int .u64 a2, .int .u64 b2, .int .u64 c1]).run Try.prog w = .ok (.value (.tuple #[.int .u64 r2, .int .u64 c2])) w)
    (k3 : ∀ w : World, (callFunc 50 #[.int .u64 a3, .int .u64 b3, .int .u64 c2]).run Try.prog w = .ok (.value (.tuple #[.int .u64 r3, .int .u64 c3])) w) :
    Calls Try.prog 37 #[.agg #[.int .u64 a0, .int .u64 a1, .int .u64 a2, .int .u64 a3], .agg #[.int .u64 b0, .int .u64 b1, .int .u64 b2, .int .u64 b3]] w fun e w' =>
      e = .returned (.agg #[.int .u64 r0, .int .u64 r1, .int .u64 r2, .int .u64 r3]) ∧ Below w.heap.size w w' := by
  go_enter Try.func37, Try.ntmps37
  go_wp2
  refine wp_loop_rounds 5 ?_
  rw [rounds_succ]
  go_wp2
  go_region
  go_wp2
  rw [rounds_succ]
  go_wp2
  go_region
  go_wp2
  rw [rounds_succ]
  go_wp2
  go_region
  go_wp2
  rw [rounds_succ]
  go_wp2
  go_region
  go_wp2
  rw [rounds_succ]
  go_wp2
  refine bodyPost_ret (v := .agg #[.int .u64 r0, .int .u64 r1, .int .u64 r2, .int .u64 r3]) (by simp [results, Try.results37, go_sem]) rfl ⟨rfl, ?_⟩
  repeat (first | exact Below.refl _ _ | refine Below.drew ?_ | refine Below.alloc ?_ (by simp; try omega) _ | refine Below.setCell ?_ (by simp; try omega) _)

theorem sub_wd (m n k : Nat) (w : World) (hk : (k + n) % M = m % M) :
    Calls Try.prog 37 #[wd m, wd n] w fun e w' => e = .returned (wd k) ∧ Below w.heap.size w w' := by
  obtain ⟨A0, A1, A2, A3⟩ := l_lt m
  obtain ⟨C0, C1, C2, C3⟩ := l_lt n
  have e := sub_num A0 A1 A2 A3 C0 C1 C2 C3
  rw [num_parts, num_parts, Nat.mod_mod] at e
  rw [← wd_congr (mod_cancel e hk), wd_num (dlo_lt _ _ _) (dlo_lt _ _ _) (dlo_lt _ _ _) (dlo_lt _ _ _)]
  have q0 := dhi_le (l0 m) (l0 n) 0
  have q1 := dhi_le (l1 m) (l1 n) (dhi (l0 m) (l0 n) 0)
  have q2 := dhi_le (l2 m) (l2 n) (dhi (l1 m) (l1 n) (dhi (l0 m) (l0 n) 0))
  exact sub_walk _ _ _ _ _ _ _ _ _ _ _ _ _ _ _ _ w (sub64_run _ _ 0 (Nat.zero_le _)) (sub64_run _ _ _ q0) (sub64_run _ _ _ q1) (sub64_run _ _ _ q2)

end Go.Proofs.Ytlobchkbkdjccaa
