/- What the function Run of package modexp does. -/
import Derived.Test.YtflpdlpfclbcgaaMyF
namespace Go.Proofs.Ytflpdlpfclbcgaa
open Go.RowKit SmWord
set_option maxRecDepth 100000

/-- What answers a power, new bytes or not. -/
def PowSl (n V : Nat) (w : World) (e : Ending) (w' : World) : Prop := ∃ A, e = .returned (.tuple #[.slice A n n, .int .i64 0]) ∧ (A = none → n = 0 ∧ n = 0) ∧ Sl w' A n (fun i => dig V (n - 1 - i)) ∧ Below w.heap.size w w'
set_option maxHeartbeats 4000000 in
theorem run_none (A : Option Addr) (n c : Nat) (V : Nat → Nat) (w : World)
    (HL : Hid (Calls Try.prog 29 #[.slice A n c] w fun e w' => e = .returned (.agg (ww V)) ∧ Below w.heap.size w w'))
    (HN : Hid (∀ w, Calls Try.prog 30 #[.agg (ww V)] w fun e w' => e = .returned (.bool true) ∧ Below w.heap.size w w')) :
    Calls Try.prog 19 #[.slice A n c] w fun e w' => e = .returned (.tuple #[.slice none 0 0, .int .i64 0]) ∧ Below w.heap.size w w' := by
  go_enter Try.func19, Try.ntmps19
  go_wp2_with fail
  refine (HL.out).mono ?_
  rintro _ w1 ⟨rfl, b1⟩
  go_upto_region 2 with (first | (refine wpList_alloc_row rfl 60 rfl zX zX_run ?_) | (refine wpList_store_row rfl 60 (.tmp 4) _ rfl _ zX (ww V) rfl rfl (heap_alloc_new _ _) (infoX _) rfl (arr_one _ _ _) ?_))
  rw [World.setRow_alloc_new]
  simp only [Act.put, List.setIfInBounds_toArray, List.set_cons_succ, List.set_cons_zero]
  have f3 : (w1.alloc (.cells (ww V) 60)).heap[w1.heap.size]? = some (.cells (ww V) 60) := heap_alloc_new _ _
  have bW : Below w.heap.size w (w1.alloc (.cells (ww V) 60)) := b1.alloc b1.size _
  clear b1 HL
  generalize w1.alloc (.cells (ww V) 60) = w2 at *
  generalize w1.heap.size = b3 at *
  go_wp2_with (refine wpList_load_row rfl 60 _ rfl _ rfl 60 (ww V) (0, 0) _ f3 Try.underlying60 rfl (infoX _) ?_)
  refine (HN.out _).mono ?_
  rintro _ w3 ⟨rfl, b1⟩
  replace bW := bW.trans (b1.mono bW.size)
  clear b1 HN f3
  go_wp2_with fail
  go_ret2
  exact ⟨rfl, bW⟩
set_option maxHeartbeats 4000000 in
theorem run_long (A : Option Addr) (n c : Nat) (V : Nat → Nat) (w : World)
    (HL : Hid (Calls Try.prog 29 #[.slice A n c] w fun e w' => e = .returned (.agg (ww V)) ∧ Below w.heap.size w w'))
    (HN : Hid (∀ w, Calls Try.prog 30 #[.agg (ww V)] w fun e w' => e = .returned (.bool false) ∧ Below w.heap.size w w'))
    (HU : Hid (∀ w, Calls Try.prog 31 #[.agg (ww V), .int .u64 64] w fun e w' => e = .returned (.tuple #[.agg zY3, .bool false]) ∧ Below w.heap.size w w')) :
    Calls Try.prog 19 #[.slice A n c] w fun e w' => e = .returned (.tuple #[.slice none 0 0, .int .i64 4]) ∧ Below w.heap.size w w' := by
  go_enter Try.func19, Try.ntmps19
  go_wp2_with fail
  refine (HL.out).mono ?_
  rintro _ w1 ⟨rfl, b1⟩
  go_upto_region 2 with (first | (refine wpList_alloc_row rfl 60 rfl zX zX_run ?_) | (refine wpList_store_row rfl 60 (.tmp 4) _ rfl _ zX (ww V) rfl rfl (heap_alloc_new _ _) (infoX _) rfl (arr_one _ _ _) ?_))
  rw [World.setRow_alloc_new]
  simp only [Act.put, List.setIfInBounds_toArray, List.set_cons_succ, List.set_cons_zero]
  have f3 : (w1.alloc (.cells (ww V) 60)).heap[w1.heap.size]? = some (.cells (ww V) 60) := heap_alloc_new _ _
  have bW : Below w.heap.size w (w1.alloc (.cells (ww V) 60)) := b1.alloc b1.size _
  clear b1 HL
  generalize w1.alloc (.cells (ww V) 60) = w2 at *
  generalize w1.heap.size = b3 at *
  go_wp2_with (refine wpList_load_row rfl 60 _ rfl _ rfl 60 (ww V) (0, 0) _ f3 Try.underlying60 rfl (infoX _) ?_)
  refine (HN.out _).mono ?_
  rintro _ w3 ⟨rfl, b1⟩
  replace f3 := Below.stays b1 f3
  replace bW := bW.trans (b1.mono bW.size)
  clear b1 HN
  go_wp2_with (refine wpList_load_row rfl 60 _ rfl _ rfl 60 (ww V) (0, 0) _ f3 Try.underlying60 rfl (infoX _) ?_)
  refine (HU.out _).mono ?_
  rintro _ w4 ⟨rfl, b1⟩
  replace bW := bW.trans (b1.mono bW.size)
  clear b1 HU f3
  go_wp2_with (first | (refine wpList_alloc_row rfl 63 rfl zY3 zY3_run ?_) | (refine wpList_store_row rfl 63 (.tmp 5) _ rfl _ zY3 zY3 rfl rfl (heap_alloc_new _ _) (infoY3 _) rfl (arr_one _ _ _) ?_))
  rw [World.setRow_alloc_new]
  go_ret2
  exact ⟨rfl, bW.alloc bW.size _⟩
set_option maxHeartbeats 4000000 in
theorem run_near (A : Option Addr) (n c x0 x1 x2 x3 q R : Nat) (V g0 g1 g2 g3 : Nat → Nat) (w : World)
    (h0 : V 0 = x0) (h1 : V 1 = x1) (h2 : V 2 = x2) (l0 : x0 ≤ 64) (l1 : x1 ≤ 64) (l2 : x2 ≤ 64) (h3 : x0 + x1 = x3)
    (HBeh : Hid (∀ w', Below w.heap.size w w' → Calls Try.prog 33 #[.slice A n c] w' fun e w'' => (∃ A' c', e = .returned (.slice A' q c') ∧ q ≤ c' ∧ Sl w' A' q g0) ∧ w' = w''))
    (HP1 : Hid (∀ w' A' c', q ≤ c' → Sl w' A' q g0 → Calls Try.prog 32 #[.slice A' q c', .int .u64 0, .int .i64 (x0 : Int)] w' (RetB x0 g1 w')))
    (HP2 : Hid (∀ w' A' c', q ≤ c' → Sl w' A' q g0 → Calls Try.prog 32 #[.slice A' q c', .int .u64 (x0 : Int), .int .i64 (x1 : Int)] w' (RetB x1 g2 w')))
    (HP3 : Hid (∀ w' A' c', q ≤ c' → Sl w' A' q g0 → Calls Try.prog 32 #[.slice A' q c', .int .u64 (x3 : Int), .int .i64 (x2 : Int)] w' (RetB x2 g3 w')))
    (HPow : Hid (∀ w' A1 A2 A3 c1 c2 c3, Sl w' A1 x0 g1 → Sl w' A2 x1 g2 → Sl w' A3 x2 g3 → Calls Try.prog 8 #[.slice A1 x0 c1, .slice A2 x1 c2, .slice A3 x2 c3] w' (PowIs x2 R w')))
    (HL : Hid (Calls Try.prog 29 #[.slice A n c] w fun e w' => e = .returned (.agg (ww V)) ∧ Below w.heap.size w w'))
    (HN : Hid (∀ w, Calls Try.prog 30 #[.agg (ww V)] w fun e w' => e = .returned (.bool false) ∧ Below w.heap.size w w'))
    (HU : Hid (∀ w, Calls Try.prog 31 #[.agg (ww V), .int .u64 64] w fun e w' => e = .returned (.tuple #[.agg (ua 3 V), .bool true]) ∧ Below w.heap.size w w')) :
    Calls Try.prog 19 #[.slice A n c] w (PowSl x2 R w) := by
  go_enter Try.func19, Try.ntmps19
  go_wp2_with fail
  refine (HL.out).mono ?_
  rintro _ w1 ⟨rfl, b1⟩
  go_upto_region 2 with (first | (refine wpList_alloc_row rfl 60 rfl zX zX_run ?_) | (refine wpList_store_row rfl 60 (.tmp 4) _ rfl _ zX (ww V) rfl rfl (heap_alloc_new _ _) (infoX _) rfl (arr_one _ _ _) ?_))
  rw [World.setRow_alloc_new]
  simp only [Act.put, List.setIfInBounds_toArray, List.set_cons_succ, List.set_cons_zero]
  have f3 : (w1.alloc (.cells (ww V) 60)).heap[w1.heap.size]? = some (.cells (ww V) 60) := heap_alloc_new _ _
  have bW : Below w.heap.size w (w1.alloc (.cells (ww V) 60)) := b1.alloc b1.size _
  clear b1 HL
  generalize w1.alloc (.cells (ww V) 60) = w2 at *
  generalize w1.heap.size = b3 at *
  go_wp2_with (refine wpList_load_row rfl 60 _ rfl _ rfl 60 (ww V) (0, 0) _ f3 Try.underlying60 rfl (infoX _) ?_)
  refine (HN.out _).mono ?_
  rintro _ w3 ⟨rfl, b1⟩
  replace f3 := Below.stays b1 f3
  replace bW := bW.trans (b1.mono bW.size)
  clear b1 HN
  go_wp2_with (refine wpList_load_row rfl 60 _ rfl _ rfl 60 (ww V) (0, 0) _ f3 Try.underlying60 rfl (infoX _) ?_)
  refine (HU.out _).mono ?_
  rintro _ w4 ⟨rfl, b1⟩
  replace bW := bW.trans (b1.mono bW.size)
  clear b1 HU f3
  go_upto_region 5 with (first | (refine wpList_alloc_row rfl 63 rfl zY3 zY3_run ?_) | (refine wpList_store_row rfl 63 (.tmp 5) _ rfl _ zY3 (ua 3 V) rfl rfl (heap_alloc_new _ _) (infoY3 _) rfl (arr_one _ _ _) ?_))
  rw [World.setRow_alloc_new]
  have f4 : (w4.alloc (.cells (ua 3 V) 63)).heap[w4.heap.size]? = some (.cells (ua 3 V) 63) := heap_alloc_new _ _
  replace bW : Below w.heap.size w (w4.alloc (.cells (ua 3 V) 63)) := bW.alloc bW.size _
  generalize w4.alloc (.cells (ua 3 V) 63) = w5 at *
  generalize w4.heap.size = b4 at *
  have HF := Lib.hid f4
  have BW := Lib.hid bW
  have cell : ∀ w' : World, w'.heap[b4]? = some (.cells (ua 3 V) 63) → w'.cell? ⟨b4, 0, none⟩ = some (.int .u64 (x0 : Int)) ∧ w'.cell? ⟨b4, 1, none⟩ = some (.int .u64 (x1 : Int)) ∧ w'.cell? ⟨b4, 2, none⟩ = some (.int .u64 (x2 : Int)) := fun w' hw => by
    rw [← h0, ← h1, ← h2]
    exact ⟨blk_cell hw (ua_get V (show 0 < 3 by omega)), blk_cell hw (ua_get V (show 1 < 3 by omega)), blk_cell hw (ua_get V (show 2 < 3 by omega))⟩
  have HC := Lib.hid cell
  clear h0 h1 h2 bW f4 cell
  go_wp2_with fail
  refine (HBeh.out _ BW.out).mono ?_
  rintro _ w6 ⟨⟨A1, k1, rfl, hqc, hs1⟩, rfl⟩
  have HS := Lib.hid hs1
  have HQ := Lib.hid hqc
  clear HBeh hs1 hqc
  have wk0 : IntKind.i64.wrap (x0 : Int) = (x0 : Int) := by rw [IntKind.wrap_i64]; omega
  have wk1 : IntKind.i64.wrap (x1 : Int) = (x1 : Int) := by rw [IntKind.wrap_i64]; omega
  have wk2 : IntKind.i64.wrap (x2 : Int) = (x2 : Int) := by rw [IntKind.wrap_i64]; omega
  have wk3 : (x0 : Int) + (x1 : Int) = (x3 : Int) := by omega
  have wk4 : IntKind.u64.wrap (x3 : Int) = (x3 : Int) := by rw [IntKind.wrap_u64]; omega
  clear h3
  have HP := Lib.hid (HP1.out _ A1 k1 HQ.out HS.out)
  obtain ⟨cc, _, _⟩ := HC.out _ HF.out
  clear HP1
  go_wp2_with fail
  refine (HP.out).mono ?_
  rintro _ w7 ⟨A2, k2, rfl, _, _, hs2, b1⟩
  have HS2 := Lib.hid hs2
  have HF2 := Lib.hid (Below.stays b1 HF.out)
  have BW2 := Lib.hid (BW.out.trans (b1.mono BW.out.size))
  have HSA := Lib.hid (HS.out.below b1)
  clear HP hs2 b1 cc HF BW HS
  have HP := Lib.hid (HP2.out _ A1 k1 HQ.out HSA.out)
  obtain ⟨cc, cd, _⟩ := HC.out _ HF2.out
  clear HP2
  go_wp2_with fail
  refine (HP.out).mono ?_
  rintro _ w8 ⟨A3, k3, rfl, _, _, hs3, b1⟩
  have HS3 := Lib.hid hs3
  have HF := Lib.hid (Below.stays b1 HF2.out)
  have BW := Lib.hid (BW2.out.trans (b1.mono BW2.out.size))
  have HS := Lib.hid (HSA.out.below b1)
  have HSB := Lib.hid (HS2.out.below b1)
  clear HP hs3 b1 cc cd HF2 BW2 HSA HS2
  have HP := Lib.hid (HP3.out _ A1 k1 HQ.out HS.out)
  obtain ⟨cc, cd, ce⟩ := HC.out _ HF.out
  clear HP3 HC
  go_wp2_with fail
  refine (HP.out).mono ?_
  rintro _ w9 ⟨A4, k4, rfl, _, _, hs4, b1⟩
  have BW2 := Lib.hid (BW.out.trans (b1.mono BW.out.size))
  have HO := Lib.hid (HPow.out _ A2 A3 A4 k2 k3 k4 (HSB.out.below b1) (HS3.out.below b1) hs4)
  clear HP hs4 b1 cc cd ce HF BW HPow HSB HS3 HS
  go_wp2_with fail
  refine (HO.out).mono ?_
  intro _ w10 hp
  obtain ⟨A5, rfl, ha, hs5, b1⟩ := powIs_sl hp
  have HA5 := Lib.hid ha
  have HS5 := Lib.hid hs5
  have BW := Lib.hid (BW2.out.trans (b1.mono BW2.out.size))
  clear HO hp ha hs5 b1 BW2
  go_wp2_with fail
  go_ret2
  exact ⟨A5, rfl, HA5.out, HS5.out, BW.out⟩
/-- What an input asks for. -/
def askV (f : Nat → Nat) (n i : Nat) : Nat := bvl (pf f n (32 * i)) 32
theorem pf_behind {f : Nat → Nat} {n a : Nat} : pf (fun i => f (min n 96 + i)) (n - min n 96) a = pf f n (96 + a) := funext fun i => by
  unfold pf
  by_cases h96 : 96 ≤ n
  · rw [show min n 96 = 96 by omega]
    by_cases hlt : 96 + a + i < n
    · rw [if_pos hlt, if_pos (by omega)]
      exact congrArg f (by omega)
    · rw [if_neg hlt, if_neg (by omega)]
  · rw [if_neg (by omega), if_neg (by omega)]
theorem askV_lt {f : Nat → Nat} {n : Nat} (h : ∀ i, i < n → f i < 256) (i : Nat) : askV f n i < M := bvl_wordlt (fun j _ => pf_lt h _ j) (Nat.le_refl _)
section
variable (A : Option Addr) (n c : Nat) (f : Nat → Nat) (w : World) (hn : n ≤ 100000) (hnc : n ≤ c) (hA : A = none → n = 0 ∧ c = 0) (hs : Sl w A n f)
include hn hnc hs
theorem run_lengths : Calls Try.prog 29 #[.slice A n c] w fun e w' => e = .returned (.agg (ww (askV f n))) ∧ Below w.heap.size w w' := lengths_walk A n c f w hn hnc hs
omit hn hnc in
theorem run_room (w : World) : Calls Try.prog 30 #[.agg (ww (askV f n))] w fun e w' => e = .returned (.bool (decide (askV f n 0 = 0 ∧ askV f n 2 = 0))) ∧ Below w.heap.size w w' := by
  have := noRoom_walk (askV f n) _ w (Lib.hid fun w => or_wd (askV f n 0) (askV f n 2) w)
  rw [show decide ((num (l0 (askV f n 0) ||| l0 (askV f n 2)) (l1 (askV f n 0) ||| l1 (askV f n 2)) (l2 (askV f n 0) ||| l2 (askV f n 2)) (l3 (askV f n 0) ||| l3 (askV f n 2))) % M = 0) = decide (askV f n 0 = 0 ∧ askV f n 2 = 0) from decide_eq_decide.2 (or_zero_iff _ _ (askV_lt hs.small 0) (askV_lt hs.small 2))] at this
  exact this
theorem run_is_none (hz : askV f n 0 = 0 ∧ askV f n 2 = 0) : Calls Try.prog 19 #[.slice A n c] w fun e w' => e = .returned (.tuple #[.slice none 0 0, .int .i64 0]) ∧ Below w.heap.size w w' :=
  run_none A n c _ w (Lib.hid (run_lengths A n c f w hn hnc hs)) (Lib.hid fun w' => by
    have := run_room A n f w hs w'
    rwa [decide_eq_true hz] at this)
theorem run_is_long (hz : ¬ (askV f n 0 = 0 ∧ askV f n 2 = 0)) (hk : okL (askV f n) 64 = false) : Calls Try.prog 19 #[.slice A n c] w fun e w' => e = .returned (.tuple #[.slice none 0 0, .int .i64 4]) ∧ Below w.heap.size w w' :=
  run_long A n c _ w (Lib.hid (run_lengths A n c f w hn hnc hs)) (Lib.hid fun w' => by
    have := run_room A n f w hs w'
    rwa [decide_eq_false hz] at this) (Lib.hid fun w' => by
    have := upTo_walk (askV f n) 64 w' (askV_lt hs.small) (by decide)
    rwa [hk] at this)
include hA
theorem run_is_near (hz : ¬ (askV f n 0 = 0 ∧ askV f n 2 = 0)) (hk : okL (askV f n) 64 = true) : Calls Try.prog 19 #[.slice A n c] w
    (PowSl (askV f n 2) (pw (bvl (pf f n 96) (askV f n 0)) (bvl (pf f n (96 + askV f n 0)) (askV f n 1)) (bvl (pf f n (96 + (askV f n 0 + askV f n 1))) (askV f n 2))) w) := by
  have hall := (okL_iff (askV f n) 64).1 hk
  have l0 := hall 0 (by omega)
  have l1 := hall 1 (by omega)
  have l2 := hall 2 (by omega)
  have HR := run_room A n f w hs
  rw [decide_eq_false hz] at HR
  have HU := fun w' => upTo_walk (askV f n) 64 w' (askV_lt hs.small) (by decide)
  rw [hk] at HU
  have HL := run_lengths A n c f w hn hnc hs
  clear hk hz hall
  generalize h0 : askV f n 0 = x0 at *
  generalize h1 : askV f n 1 = x1 at *
  generalize h2 : askV f n 2 = x2 at *
  have HP : ∀ at' m, at' ≤ 128 → m ≤ 64 → ∀ w' A' c', n - min n 96 ≤ c' → Sl w' A' (n - min n 96) (fun i => f (min n 96 + i)) → Calls Try.prog 32 #[.slice A' (n - min n 96) c', .int .u64 ((at' : Nat) : Int), .int .i64 ((m : Nat) : Int)] w' (RetB m (pf f n (96 + at')) w') := fun at' m ha hm w' A' c' hq hS => by
    have h := part_walk A' (n - min n 96) c' at' m (fun i => f (min n 96 + i)) w' (by omega) (by omega) (by simp only [B]; omega) hq hS
    rwa [pf_behind] at h
  exact run_near A n c x0 x1 x2 (x0 + x1) (n - min n 96) _ (askV f n) (fun i => f (min n 96 + i)) (pf f n 96) (pf f n (96 + x0)) (pf f n (96 + (x0 + x1))) w h0 h1 h2 l0 l1 l2 rfl
    (Lib.hid fun w' hb => behind_walk A n c (min n 96) f w' hn hnc (hs.below hb) hA (by omega)) (Lib.hid (HP 0 x0 (by omega) l0)) (Lib.hid (HP x0 x1 (by omega) l1)) (Lib.hid (HP (x0 + x1) x2 (by omega) l2))
    (Lib.hid fun w' A1 A2 A3 c1 c2 c3 s1 s2 s3 => pow_walk x0 x1 x2 c1 c2 c3 A1 A2 A3 _ _ _ w' l0 l1 l2 s1 s2 s3) (Lib.hid HL) (Lib.hid HR) (Lib.hid HU)
end
end Go.Proofs.Ytflpdlpfclbcgaa
