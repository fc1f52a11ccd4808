/- What lengths cost. -/
import Derived.Test.YtdkjgpehlgejnaaG4
import Derived.Test.YtdkjgpehlgejnaaG3
namespace Go.Proofs.Ytdkjgpehlgejnaa
open Go.RowKit SmWord
set_option maxRecDepth 100000

theorem words_wd (n : Nat) (w : World) (hn : n < B) : Calls Try.prog 31 #[.int .u64 (n : Int)] w fun e w' => e = .returned (.int .u64 ((wn n : Nat) : Int)) ∧ w = w' := by
  simp only [B] at hn
  have e1 : (n : Int) / 32 + (((n : Int) % 32 + 32 - 1) / 32) = ((wn n : Nat) : Int) := by unfold wn; omega
  have e2 : 0 ≤ (n : Int) % 32 := by omega
  go_enter Try.func31, Try.ntmps31
  go_wp2_with fail
  go_ret
  exact ⟨rfl, rfl⟩
theorem words_ref (n : Nat) (w : World) (hn : n < B) : Calls Try.prog 9 #[.int .u64 (n : Int)] w fun e w' => e = .returned (.int .u64 ((wn n : Nat) : Int)) ∧ w = w' := by
  simp only [B] at hn
  by_cases h : n % 32 = 0
  · have e1 : (n : Int) / 32 = ((wn n : Nat) : Int) := by unfold wn; omega
    have e2 : (((n : Int) % 32) == 0) = true := by simp; omega
    go_enter Try.func9, Try.ntmps9
    go_wp2_with fail
    go_ret
    exact ⟨rfl, rfl⟩
  · have e1 : (n : Int) / 32 + 1 = ((wn n : Nat) : Int) := by unfold wn; omega
    have e2 : (((n : Int) % 32) == 0) = false := by rw [beq_eq_false_iff_ne]; omega
    go_enter Try.func9, Try.ntmps9
    go_wp2_with fail
    go_ret
    exact ⟨rfl, rfl⟩
theorem copy_walk (n : Nat) (w : World) (hn : n ≤ 4294967296) : Calls Try.prog 13 #[.int .u64 (n : Int)] w fun e w' => e = .returned (.int .u64 ((3 * wn n : Nat) : Int)) ∧ w = w' := by
  have KW := Lib.hid fun w => words_wd n w (by simp only [B]; omega)
  have hb : wn n ≤ 134217728 := by unfold wn; omega
  go_enter Try.func13, Try.ntmps13
  go_wp2_with (go_at_call 31; refine (KW.out _).mono ?_; rintro e w1 ⟨rfl, rfl⟩)
  go_ret
  exact ⟨by simp, rfl⟩
theorem keccak_walk (n : Nat) (w : World) (hn : n ≤ 4294967296) : Calls Try.prog 14 #[.int .u64 (n : Int)] w fun e w' => e = .returned (.int .u64 ((30 + 6 * wn n : Nat) : Int)) ∧ w = w' := by
  have KW := Lib.hid fun w => words_wd n w (by simp only [B]; omega)
  have hb : wn n ≤ 134217728 := by unfold wn; omega
  go_enter Try.func14, Try.ntmps14
  go_wp2_with (go_at_call 31; refine (KW.out _).mono ?_; rintro e w1 ⟨rfl, rfl⟩)
  go_ret
  exact ⟨by simp, rfl⟩
theorem log_walk (t n : Nat) (w : World) (ht : t < 5) (hn : n ≤ 4294967296) : Calls Try.prog 15 #[.int .i64 (t : Int), .int .u64 (n : Int)] w fun e w' => e = .returned (.int .u64 ((375 + 375 * t + 8 * n : Nat) : Int)) ∧ w = w' := by
  go_enter Try.func15, Try.ntmps15
  go_wp2_with fail
  go_ret
  exact ⟨by simp, rfl⟩
theorem deposit_walk (n : Nat) (w : World) (hn : n ≤ 4294967296) : Calls Try.prog 16 #[.int .u64 (n : Int)] w fun e w' => e = .returned (.int .u64 ((200 * n : Nat) : Int)) ∧ w = w' := by
  go_enter Try.func16, Try.ntmps16
  go_wp2_with fail
  go_ret
  exact ⟨by simp, rfl⟩
/-- What a creation costs. -/
def crV (n : Nat) (s : Bool) : Nat := 32000 + 2 * wn n + (if s then 6 * wn n else 0)
theorem create_walk (n : Nat) (s : Bool) (w : World) (hn : n ≤ 4294967296) : Calls Try.prog 17 #[.int .u64 (n : Int), .bool s] w fun e w' => e = .returned (.int .u64 ((crV n s : Nat) : Int)) ∧ w = w' := by
  have KW := Lib.hid fun w => words_wd n w (by simp only [B]; omega)
  have hb : wn n ≤ 134217728 := by unfold wn; omega
  unfold crV
  cases s <;>
  · have KS := Lib.hid fun p c w => when_walk p c w
    go_enter Try.func17, Try.ntmps17
    go_wp2_with (first
      | (go_at_call 31; refine (KW.out _).mono ?_; rintro e w1 ⟨rfl, rfl⟩)
      | (go_at_call 32; refine (KS.out _ _ _).mono ?_; rintro e w2 ⟨rfl, rfl⟩))
    go_ret
    exact ⟨by simp, rfl⟩
/-- What a power costs. -/
def exV (e : Nat) : Nat := 10 + 50 * ((bl (e % M) + 7) / 8)
theorem exp_core (e k : Nat) (w : World) (hk : k ≤ 256) (H : Hid (∀ w : World, Calls Try.prog 28 #[wd e] w fun e w' => e = .returned (.int .i64 (((k + 7) / 8 : Nat) : Int)) ∧ Below w.heap.size w w')) : Calls Try.prog 11 #[wd e] w fun e w' => e = .returned (.int .u64 ((10 + 50 * ((k + 7) / 8) : Nat) : Int)) ∧ Below w.heap.size w w' := by
  have hz := wa_size
  have hq : (k + 7) / 8 ≤ 32 := by omega
  generalize (k + 7) / 8 = q at *
  go_enter Try.func11, Try.ntmps11
  go_wp2_with fail
  refine (H.out _).mono ?_
  rintro e w1 ⟨rfl, b1⟩
  go_wp2_with fail
  go_ret
  refine ⟨by simp, ?_⟩
  exact ((Below.refl _ _).alloc (Nat.le_refl _) _).trans (b1.mono (by simp))
theorem bl_M (e : Nat) : bl (e % M) ≤ 256 := bl_le (by rw [← M_2]; exact Nat.mod_lt _ (by decide))
theorem exp_wd (e : Nat) (w : World) : Calls Try.prog 11 #[wd e] w fun e' w' => e' = .returned (.int .u64 ((exV e : Nat) : Int)) ∧ Below w.heap.size w w' :=
  exp_core e _ w (bl_M e) (Lib.hid fun w => size_wd e w)
theorem rexp_core (e k : Nat) (w : World) (hk : k ≤ 256) (H : Hid (∀ w : World, Calls Try.prog 30 #[.agg (da e)] w fun e w' => e = .returned (.int .i64 (k : Int)) ∧ Below w.heap.size w w')) : Calls Try.prog 12 #[wd e] w fun e w' => e = .returned (.int .u64 ((10 + 50 * ((k + 7) / 8) : Nat) : Int)) ∧ Below w.heap.size w w' := by
  have hz := wa_size
  have hq : (k + 7) / 8 ≤ 32 := by omega
  have e1 : ((k : Int) + 7) / 8 = (((k + 7) / 8 : Nat) : Int) := by omega
  obtain ⟨q, hq2⟩ : ∃ q, (k + 7) / 8 = q := ⟨_, rfl⟩
  rw [hq2] at e1 hq ⊢
  clear hq2
  go_enter Try.func12, Try.ntmps12
  go_wp2_with fail
  refine (of_ref e _).mono ?_
  rintro e' w1 ⟨rfl, b1⟩
  have HB := Lib.hid (((Below.refl _ _).alloc (Nat.le_refl _) (.cells (wa e) 24)).trans (b1.mono (by simp)))
  clear b1
  go_wp2_with fail
  refine (H.out _).mono ?_
  rintro e2 w2 ⟨rfl, b2⟩
  go_wp2_with fail
  go_ret
  refine ⟨by simp, ?_⟩
  exact HB.out.trans (b2.mono HB.out.size)
theorem rexp_wd (e : Nat) (w : World) : Calls Try.prog 12 #[wd e] w fun e' w' => e' = .returned (.int .u64 ((exV e : Nat) : Int)) ∧ Below w.heap.size w w' :=
  rexp_core e _ w (bl_M e) (Lib.hid fun w => len_ref e w)
end Go.Proofs.Ytdkjgpehlgejnaa
/- The statement on lengths: its walk. -/
namespace Go.Proofs.Ytdkjgpehlgejnaa
open Go.RowKit SmWord
set_option maxRecDepth 100000

theorem still {f : FuncId} {args : Array Value} {w : World} {v u : Value} (h : Calls Try.prog f args w fun e w' => e = .returned v ∧ w = w') (hu : v = u) : Calls Try.prog f args w fun e w' => e = .returned u ∧ Below w.heap.size w w' :=
  h.mono fun _ _ ⟨h1, h2⟩ => ⟨by rw [h1, hu], h2 ▸ Below.refl _ _⟩
set_option maxHeartbeats 4000000 in
theorem lengths_core (n k q X : Nat) (e : Nat) (s : Bool) (n0 t0 : Nat) (w : World) (hn : n ≤ 4294967296) (hk : k < 5) (hq : q ≤ 134217728) (ht0 : t0 < 256) (e0 : (n0 : Int) % 4294967297 = (n : Int)) (e1 : (t0 : Int) % 5 = (k : Int))
    (KF : Hid (∀ w : World, Calls Try.prog 10 #[] w fun e w' => e = .returned (.bool true) ∧ Below w.heap.size w w'))
    (KW : Hid (∀ w : World, Calls Try.prog 9 #[.int .u64 (n : Int)] w fun e w' => e = .returned (.int .u64 (q : Int)) ∧ w = w'))
    (KE : Hid (∀ w : World, Calls Try.prog 11 #[wd e] w fun e' w' => e' = .returned (.int .u64 (X : Int)) ∧ Below w.heap.size w w'))
    (KR : Hid (∀ w : World, Calls Try.prog 12 #[wd e] w fun e' w' => e' = .returned (.int .u64 (X : Int)) ∧ Below w.heap.size w w'))
    (KC : Hid (∀ w : World, Calls Try.prog 13 #[.int .u64 (n : Int)] w fun e w' => e = .returned (.int .u64 (3 * (q : Int))) ∧ Below w.heap.size w w'))
    (KK : Hid (∀ w : World, Calls Try.prog 14 #[.int .u64 (n : Int)] w fun e w' => e = .returned (.int .u64 (30 + 6 * (q : Int))) ∧ Below w.heap.size w w'))
    (KL : Hid (∀ w : World, Calls Try.prog 15 #[.int .i64 (k : Int), .int .u64 (n : Int)] w fun e w' => e = .returned (.int .u64 (375 + 375 * (k : Int) + 8 * (n : Int))) ∧ Below w.heap.size w w'))
    (KD : Hid (∀ w : World, Calls Try.prog 16 #[.int .u64 (n : Int)] w fun e w' => e = .returned (.int .u64 (200 * (n : Int))) ∧ Below w.heap.size w w'))
    (KA : Hid (∀ w : World, Calls Try.prog 17 #[.int .u64 (n : Int), .bool s] w fun e w' => e = .returned (.int .u64 (32000 + 2 * (q : Int) + (if s then 6 * (q : Int) else 0))) ∧ Below w.heap.size w w')) :
    Calls Try.prog 3 #[.int .u64 (n0 : Int), .int .u8 (t0 : Int), wd e, .bool s] w fun e w' => e = .returned (.bool true) ∧ Below w.heap.size w w' := by
  have hs := wa_size
  have fo := fold_wa
  obtain ⟨W, hW⟩ : ∃ W, w.alloc (.cells (wa e) 24) = W := ⟨_, rfl⟩
  have f0 : W.heap[w.heap.size]? = some (.cells (wa e) 24) := hW ▸ heap_alloc_new _ _
  have HB : Hid (Below w.heap.size w W) := Lib.hid (hW ▸ (Below.refl _ _).alloc (Nat.le_refl _) _)
  cases s <;>
  · simp only [if_true, if_false, Bool.false_eq_true, Int.add_zero] at KA
    go_enter Try.func3, Try.ntmps3
    go_upto_region 1 with fail
    clear hW
    go_upto_region 7 with (go_at_call 9; refine (KW.out _).mono ?_; rintro e w1 ⟨rfl, rfl⟩)
    clear KW e0 e1 ht0
    have gf0 := fun g : Ext W => g.word f0
    refine region_ext (by kernel_rfl) (by kernel_rfl) ?_
    repeat (go_big_quiet_step (first
      | (go_at_call 10; with_reducible exact calls_ext (KF.out _))
      | (go_at_call 11; with_reducible exact calls_ext (KE.out _))
      | (go_at_call 12; with_reducible exact calls_ext (KR.out _))
      | (go_at_call 13; with_reducible exact calls_ext (KC.out _))
      | (go_at_call 14; with_reducible exact calls_ext (KK.out _))
      | (go_at_call 15; with_reducible exact calls_ext (KL.out _))
      | (go_at_call 16; with_reducible exact calls_ext (KD.out _))
      | (go_at_call 17; with_reducible exact calls_ext (KA.out _))))
    refine wpQuiet_nil ?_
    rintro _ ⟨g, rfl⟩
    replace HB := Lib.hid (HB.out.trans (g.below.mono HB.out.size))
    go_wp2_with fail
    go_ret
    exact ⟨rfl, HB.out⟩
theorem lengths_walk (n t e : Nat) (s : Bool) (w : World) (_hn : n < B) (ht : t < 256) : Calls Try.prog 3 #[.int .u64 (n : Int), .int .u8 (t : Int), wd e, .bool s] w fun e w' => e = .returned (.bool true) ∧ Below w.heap.size w w' := by
  have hm : n % 4294967297 ≤ 4294967296 := by omega
  have hk : t % 5 < 5 := by omega
  refine lengths_core (n % 4294967297) (t % 5) (wn (n % 4294967297)) (exV e) e s n t w hm hk (by unfold wn; omega) ht (by omega) (by omega)
    (Lib.hid gfixed_walk) (Lib.hid fun w => words_ref _ w (by simp only [B]; omega)) (Lib.hid (exp_wd e)) (Lib.hid (rexp_wd e))
    (Lib.hid fun w => still (copy_walk _ w hm) (by simp)) (Lib.hid fun w => still (keccak_walk _ w hm) (by simp)) (Lib.hid fun w => still (log_walk _ _ w hk hm) (by simp))
    (Lib.hid fun w => still (deposit_walk _ w hm) (by simp)) (Lib.hid fun w => still (create_walk _ s w hm) (by unfold crV; cases s <;> simp))
end Go.Proofs.Ytdkjgpehlgejnaa
/- What a transaction costs ahead of all. -/
namespace Go.Proofs.Ytdkjgpehlgejnaa
open Go.RowKit SmWord
set_option maxRecDepth 100000

set_option maxHeartbeats 1000000 in
theorem bytesPrice_walk (A : Option Addr) (n c : Nat) (f : Nat → Nat) (w : World) (hn : n ≤ 5000) (hs : Sl w A n f) : Calls Try.prog 35 #[.slice A n c] w fun e w' => e = .returned (.int .u64 ((bP f n : Nat) : Int)) ∧ w = w' := by
  have HS := Lib.hid hs
  have HP := Lib.hid (bP_le f)
  have hn63 : n ≤ 9223372036854775807 := by omega
  clear hs
  go_enter Try.func35, Try.ntmps35
  go_wp2_with fail
  go_loop [3, 8] (fun v i => ∃ k : Nat, k ≤ n ∧ i = .int .i64 (k : Int) ∧ v = .int .u64 ((bP f k : Nat) : Int)) (fun _ i => n - (intOf i).toNat)
  case atStart => exact ⟨0, Nat.zero_le _, rfl, rfl⟩
  case round =>
    obtain ⟨k, hk, rfl, rfl⟩ := hrel
    have hp := HP.out k
    by_cases hlt : k < n
    · obtain ⟨b, off, rfl, hbl, hc⟩ := HS.out.cells (by omega)
      have c1 := hc k hlt
      have hsm := HS.out.small k hlt
      have hkn : (k : Int) < (n : Int) := by omega
      clear hc
      by_cases hz : f k = 0
      · have e1 : bP f (k + 1) = bP f k + 4 := by show bP f k + (if f k = 0 then 4 else 16) = _; rw [if_pos hz]
        rw [hz] at c1
        go_wp2_with fail
        exact ⟨⟨k + 1, by omega, by go_num, by rw [e1]; go_num⟩, by simp only [intOf]; omega⟩
      · have e1 : bP f (k + 1) = bP f k + 16 := by show bP f k + (if f k = 0 then 4 else 16) = _; rw [if_neg hz]
        have h0 : ((f k : Nat) : Int) ≠ 0 := by omega
        have h1 : (((f k : Nat) : Int) == 0) = false := by rw [beq_eq_false_iff_ne]; exact h0
        generalize f k = y at *
        go_wp2_with fail
        exact ⟨⟨k + 1, by omega, by go_num, by rw [e1]; go_num⟩, by simp only [intOf]; omega⟩
    · obtain rfl : k = n := by omega
      go_wp2_with fail
      go_ret
      exact ⟨rfl, rfl⟩
/-- What a transaction costs. -/
def inV (p n a s : Nat) (create : Bool) : Nat := 21000 + p + 2400 * a + 1900 * s + (if create then 32000 + 2 * wn n else 0)
set_option maxHeartbeats 1000000 in
theorem intrinsic_core (f : Nat → Nat) (A : Option Addr) (n c p a s : Nat) (create : Bool) (w : World) (hn : n ≤ 5000) (hp : p ≤ 80000) (ha : a ≤ 4294967296) (hs : s ≤ 4294967296) (KB : Hid (∀ w, Hid (Sl w A n f) → Calls Try.prog 35 #[.slice A n c] w fun e w' => e = .returned (.int .u64 (p : Int)) ∧ w = w')) (HS : Hid (Sl w A n f)) :
    Calls Try.prog 24 #[.slice A n c, .bool create, .int .u64 (a : Int), .int .u64 (s : Int)] w fun e w' => e = .returned (.int .u64 ((inV p n a s create : Nat) : Int)) ∧ w = w' := by
  have KW := Lib.hid fun w => words_wd n w (by simp only [B]; omega)
  have KN := Lib.hid fun p c w => when_walk p c w
  have hb : wn n ≤ 157 := by unfold wn; omega
  have hn63 : n ≤ 9223372036854775807 := by omega
  unfold inV
  generalize wn n = q at *
  cases create <;>
  · go_enter Try.func24, Try.ntmps24
    go_wp2_with (first
      | (go_at_call 35; refine (KB.out _ HS).mono ?_; rintro e w1 ⟨rfl, rfl⟩)
      | (go_at_call 31; refine (KW.out _).mono ?_; rintro e w2 ⟨rfl, rfl⟩)
      | (go_at_call 32; refine (KN.out _ _ _).mono ?_; rintro e w3 ⟨rfl, rfl⟩))
    go_ret
    exact ⟨by simp, rfl⟩
set_option maxHeartbeats 2000000 in
theorem rintrinsic_core (A : Option Addr) (n c a s : Nat) (create : Bool) (f : Nat → Nat) (w : World) (hn : n ≤ 5000) (ha : a ≤ 4294967296) (hs : s ≤ 4294967296) (HS : Hid (Sl w A n f)) :
    Calls Try.prog 25 #[.slice A n c, .bool create, .int .u64 (a : Int), .int .u64 (s : Int)] w fun e w' => e = .returned (.int .u64 ((inV (bP f n) n a s create : Nat) : Int)) ∧ w = w' := by
  have KW := Lib.hid fun w => words_ref n w (by simp only [B]; omega)
  have HP := Lib.hid (bP_le f)
  have hb : wn n ≤ 157 := by unfold wn; omega
  have hn63 : n ≤ 9223372036854775807 := by omega
  unfold inV
  generalize wn n = q at *
  go_enter Try.func25, Try.ntmps25
  go_wp2_with fail
  go_loop [9, 13] (fun v i => ∃ k : Nat, k ≤ n ∧ i = .int .i64 (k : Int) ∧ v = .int .u64 ((21000 + bP f k : Nat) : Int)) (fun _ i => n - (intOf i).toNat)
  case atStart => exact ⟨0, Nat.zero_le _, rfl, rfl⟩
  case round =>
    obtain ⟨k, hk, rfl, rfl⟩ := hrel
    have hp := HP.out k
    by_cases hlt : k < n
    · obtain ⟨b, off, rfl, hbl, hc⟩ := HS.out.cells (by omega)
      have c1 := hc k hlt
      have hsm := HS.out.small k hlt
      have hkn : (k : Int) < (n : Int) := by omega
      clear hc
      by_cases hz : f k = 0
      · have e1 : bP f (k + 1) = bP f k + 4 := by show bP f k + (if f k = 0 then 4 else 16) = _; rw [if_pos hz]
        rw [hz] at c1
        go_wp2_with fail
        exact ⟨⟨k + 1, by omega, by go_num, by rw [e1]; go_num⟩, by simp only [intOf]; omega⟩
      · have e1 : bP f (k + 1) = bP f k + 16 := by show bP f k + (if f k = 0 then 4 else 16) = _; rw [if_neg hz]
        have h0 : ((f k : Nat) : Int) ≠ 0 := by omega
        have h1 : (((f k : Nat) : Int) != 0) = true := by simpa using hz
        generalize f k = y at *
        go_wp2_with fail
        exact ⟨⟨k + 1, by omega, by go_num, by rw [e1]; go_num⟩, by simp only [intOf]; omega⟩
    · obtain rfl : k = n := by omega
      clear HS HP
      cases create <;>
      · go_wp2_with (go_at_call 9; refine (KW.out _).mono ?_; rintro e w2 ⟨rfl, rfl⟩)
        go_ret
        exact ⟨by simp; omega, rfl⟩
end Go.Proofs.Ytdkjgpehlgejnaa
/- The statement on what a transaction costs ahead of all: its walk. -/
namespace Go.Proofs.Ytdkjgpehlgejnaa
open Go.RowKit SmWord
set_option maxRecDepth 100000

theorem intrinsic_far (A : Option Addr) (n c a s : Nat) (create : Bool) (w : World) (hn : 5000 < n) (hn2 : n ≤ maxLen) : Calls Try.prog 7 #[.slice A n c, .bool create, .int .u64 (a : Int), .int .u64 (s : Int)] w fun e w' => e = .returned (.bool true) ∧ Below w.heap.size w w' := by
  have KF := Lib.hid gfixed_walk
  have hn3 : n ≤ 9223372036854775807 := hn2
  have hc : decide (5000 < (n : Int)) = true := by rw [decide_eq_true_eq]; omega
  go_enter Try.func7, Try.ntmps7
  go_wp2_with (go_at_call 10; refine (KF.out _).mono ?_; rintro e w3 ⟨rfl, b3⟩; have HB := Lib.hid b3; clear b3)
  go_ret
  exact ⟨rfl, HB.out⟩
set_option maxHeartbeats 1000000 in
theorem intrinsic_near (A : Option Addr) (n c a s : Nat) (create : Bool) (f : Nat → Nat) (w : World) (hn : n ≤ 5000) (hs : Sl w A n f) : Calls Try.prog 7 #[.slice A n c, .bool create, .int .u64 (a : Int), .int .u64 (s : Int)] w fun e w' => e = .returned (.bool true) ∧ Below w.heap.size w w' := by
  have KF := Lib.hid gfixed_walk
  have hp : bP f n ≤ 80000 := by have := bP_le f n; omega
  have hn3 : n ≤ 9223372036854775807 := by omega
  have hc : decide (5000 < (n : Int)) = false := by rw [decide_eq_false_iff_not]; omega
  have e1 : (a : Int) % 4294967297 = ((a % 4294967297 : Nat) : Int) := by omega
  have e2 : (s : Int) % 4294967297 = ((s % 4294967297 : Nat) : Int) := by omega
  have ha : a % 4294967297 ≤ 4294967296 := by omega
  have hsl : s % 4294967297 ≤ 4294967296 := by omega
  have HS := Lib.hid hs
  generalize a % 4294967297 = a1 at *
  generalize s % 4294967297 = s1 at *
  have KI := Lib.hid fun w (h : Hid (Sl w A n f)) => intrinsic_core f A n c (bP f n) a1 s1 create w hn hp ha hsl (Lib.hid fun w h => bytesPrice_walk A n c f w hn h.out) h
  have KR := Lib.hid fun w (h : Hid (Sl w A n f)) => rintrinsic_core A n c a1 s1 create f w hn ha hsl h
  generalize inV (bP f n) n a1 s1 create = v at *
  clear hs hp
  go_enter Try.func7, Try.ntmps7
  go_wp2_with (first
    | (go_at_call 10; refine (KF.out _).mono ?_; rintro e w3 ⟨rfl, b3⟩; have HB := Lib.hid b3; have HS3 := Lib.hid (HS.out.below b3); clear b3)
    | (go_at_call 24; refine (KI.out _ HS3).mono ?_; rintro e w4 ⟨rfl, rfl⟩)
    | (go_at_call 25; refine (KR.out _ HS3).mono ?_; rintro e w5 ⟨rfl, rfl⟩))
  go_ret
  exact ⟨rfl, HB.out⟩
theorem intrinsiclaw_walk (A : Option Addr) (n c a s : Nat) (create : Bool) (f : Nat → Nat) (w : World) (hn : n ≤ maxLen) (hs : Sl w A n f) : Calls Try.prog 7 #[.slice A n c, .bool create, .int .u64 (a : Int), .int .u64 (s : Int)] w fun e w' => e = .returned (.bool true) ∧ Below w.heap.size w w' := by
  by_cases h : n ≤ 5000
  · exact intrinsic_near A n c a s create f w h hs
  · exact intrinsic_far A n c a s create w (by omega) hn
end Go.Proofs.Ytdkjgpehlgejnaa
