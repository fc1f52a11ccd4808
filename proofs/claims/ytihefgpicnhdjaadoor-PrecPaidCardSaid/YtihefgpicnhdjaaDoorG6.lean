/- What the functions numberOf, size and write of package modexp do. -/
import Derived.Test.YtihefgpicnhdjaaDoorG5
import Derived.Test.YtihefgpicnhdjaaDoorG0
import Derived.Deep.DeepCutAuto
namespace Go.Proofs.YtihefgpicnhdjaaDoor
open Go.RowKit SmWord
set_option maxRecDepth 100000

theorem ua_none (g : Nat → Nat) : ua 8 (lb (val g 0)) = zU := ua_congr fun i _ => by simp [val, lb]
theorem ua_byte {g : Nat → Nat} {k x : Nat} (h : ∀ i, i < k + 1 → g i < 256) (hk : k / 8 < 8) (hx : x = lb (val g (k + 1)) (k / 8)) :
    (ua 8 (lb (val g k))).setIfInBounds (k / 8) (.int .u64 (x : Int)) = ua 8 (lb (val g (k + 1))) := by
  rw [ua_set _ _ hk]
  refine ua_congr fun i _ => ?_
  by_cases e : i = k / 8
  · rw [if_pos e, hx, e]
  · rw [if_neg e, lb_other h e]
set_option maxHeartbeats 2000000 in
theorem numberOf_walk (A : Option Addr) (n c : Nat) (f : Nat → Nat) (w : World) (hn : n ≤ 64) (hs : Sl w A n f) :
    Calls Tryd.prog 68 #[.slice A n c] w fun e w' => e = .returned (.agg (ua 8 (lb (val (gd f n) n)))) ∧ Below w.heap.size w w' := by
  go_enter Tryd.func68, Tryd.ntmps68
  go_upto_region 2 with fail
  rw [← zU_eq]
  have b0 : Below w.heap.size w ((w.alloc (.cells zU 107)).alloc (.cells zU 107)) := ((Below.refl _ _).alloc (Nat.le_refl _) _).alloc (by simp) _
  have f0 : ((w.alloc (.cells zU 107)).alloc (.cells zU 107)).heap[w.heap.size]? = some (.cells zU 107) := blk_alloc (heap_alloc_new _ _)
  have f1 : ((w.alloc (.cells zU 107)).alloc (.cells zU 107)).heap[w.heap.size + 1]? = some (.cells zU 107) := blk_fresh _ (by simp)
  generalize ((w.alloc (.cells zU 107)).alloc (.cells zU 107)) = W at *
  go_wp2_with fail
  go_loopw [8] (fun i wr => ∃ k : Nat, k ≤ n ∧ i = .int .i64 (k : Int) ∧ Below w.heap.size w wr ∧ wr.heap[w.heap.size]? = some (.cells zU 107) ∧ wr.heap[w.heap.size + 1]? = some (.cells (ua 8 (lb (val (gd f n) k))) 107)) (fun i _ => n - (intOf i).toNat)
  case atStart => exact ⟨0, Nat.zero_le _, rfl, b0, f0, f1.trans (by rw [ua_none])⟩
  case round =>
    obtain ⟨k, hk, rfl, hb, hr, hd⟩ := hrel
    clear f0 f1 b0
    by_cases hlt : k < n
    · have hq : k / 8 < 8 := by omega
      have c1 := blk_cell hd (ua_get _ hq)
      have c3 := blk_frozen (j := k / 8) hd
      obtain ⟨b, off, rfl, hbl, hc⟩ := (hs.below hb).cells (by omega)
      have c2 := hc (n - 1 - k) (by omega)
      have hgs := gd_small hs (show k + 1 ≤ n by omega)
      have HH := Lib.hid (lb_here (g := gd f n) (k := k) hgs)
      have HU := Lib.hid fun x hx => ua_byte (x := x) hgs hq hx
      have hf := hs.small (n - 1 - k) (by omega)
      have HR := Lib.hid hr
      have HD := Lib.hid hd
      have HB := Lib.hid hb
      clear hr hd hb hc hs hgs
      have e1 : (n : Int) - 1 - (k : Int) = ((n - 1 - k : Nat) : Int) := by omega
      have i1 : n - 1 - k < n := by omega
      have hg : gd f n k = f (n - 1 - k) := rfl
      rw [hg] at HH
      clear hg
      generalize n - 1 - k = j at *
      have hor := or_put (show lb (val (gd f n) k) (k / 8) < B from lb_lt _ _) HH.out.2.2
      rw [← HH.out.2.1] at hor
      obtain ⟨k8, h8⟩ : ∃ x, x = k / 8 := ⟨_, rfl⟩
      obtain ⟨km, hm⟩ : ∃ x, x = k % 8 := ⟨_, rfl⟩
      obtain ⟨sh, hsh⟩ : ∃ x, x = 8 * (k % 8) := ⟨_, rfl⟩
      have w8 : IntKind.i64.wrap (k8 : Int) = (k8 : Int) := by rw [IntKind.wrap_i64]; omega
      have wm : IntKind.i64.wrap (km : Int) = (km : Int) := by rw [IntKind.wrap_i64]; omega
      have ws : IntKind.i64.wrap (sh : Int) = (sh : Int) := by rw [IntKind.wrap_i64]; omega
      have v8 : ((k : Int) / 8) = (k8 : Int) := by omega
      have v9 : ((k : Int) % 8) = (km : Int) := by omega
      have v10 : (k : Int).tmod 8 = (km : Int) := by rw [Int.tmod_eq_emod_of_nonneg (by omega)]; omega
      have v11 : IntKind.i64.wrap (8 * (km : Int)) = (sh : Int) := by rw [IntKind.wrap_i64]; omega
      have v12 : (8 * (km : Int)) = (sh : Int) := by omega
      have hk8 : (k8 : Int) < 8 := by omega
      have hsh64 : sh < 64 := by omega
      rw [← hsh] at hor
      rw [← h8] at hor c1 c3 hq
      have HK := Lib.hid h8
      clear h8 hm hsh
      go_wp2_with fail
      refine region_tail 12 (by kernel_rfl) (by kernel_rfl) ?_
      simp only [List.take_succ_cons, List.take_zero, List.drop_succ_cons, List.drop_zero]
      repeat still_step
      refine wpStill_nil ?_
      go_wp2_with fail
      have HK' := HK.out
      subst HK'
      refine ⟨⟨k + 1, by omega, by go_num, (HB.out.setCell (by simp) _).drew, blk_other HR.out (by omega) _, ?_⟩, by simp only [intOf]; omega⟩
      refine (blk_set HD.out _).trans ?_
      rw [HU.out _ rfl]
    · obtain rfl : k = n := by omega
      have HB := Lib.hid hb
      clear hb hs
      go_wp2_with (first | (refine wpList_load_row rfl 107 _ rfl _ rfl 107 (ua 8 (lb (val (gd f k) k))) (0, 0) _ hd Tryd.underlying107 rfl (infoU _) ?_) | (refine wpList_store_row rfl 107 _ _ rfl _ zU (ua 8 (lb (val (gd f k) k))) rfl rfl hr (infoU _) rfl (arr_one _ _ _) ?_))
      refine bodyPost_ret (v := .agg (ua 8 (lb (val (gd f k) k)))) (results_cell_row rfl _ _ _ 107 (ua 8 (lb (val (gd f k) k))) (0, 0) _ rfl (blk_row hr) Tryd.underlying107 rfl (infoU _)) rfl ⟨rfl, below_setRow HB.out (by omega) _⟩

/-- So many parts has a number without noughts ahead. -/
def psz (X : Nat) : Nat → Nat
  | 0 => 0
  | k + 1 => if lb X k = 0 then psz X k else k + 1
theorem psz_le (X k : Nat) : psz X k ≤ k := by
  induction k with
  | zero => exact Nat.le_refl _
  | succ k ih => rw [psz]; split <;> omega
theorem psz_lt {X : Nat} : ∀ {k : Nat}, X < B ^ k → X < B ^ psz X k
  | 0, h => by simpa [psz] using h
  | k + 1, h => by
    rw [psz]
    split
    · rename_i h0
      refine psz_lt (k := k) ?_
      have := lb_low X k
      rw [Nat.mod_eq_of_lt h, h0, Nat.mul_zero, Nat.add_zero] at this
      rw [this]
      exact Nat.mod_lt _ (Bp k)
    · exact h
theorem psz_top {X : Nat} : ∀ {k j : Nat}, psz X k = j + 1 → lb X j ≠ 0
  | 0, j, h => by simp [psz] at h
  | k + 1, j, h => by
    rw [psz] at h
    split at h
    · exact psz_top h
    · rename_i h0
      obtain rfl : j = k := by omega
      exact h0
theorem psz_zero {X k : Nat} (h : X < B ^ k) : psz X k = 0 ↔ X = 0 := by
  constructor
  · intro h0
    have := psz_lt h
    rw [h0] at this
    simpa using this
  · intro h0
    subst h0
    induction k with
    | zero => rfl
    | succ k ih => rw [psz, if_pos (by simp [lb])]; exact ih (Bp k)

set_option maxHeartbeats 1000000 in
theorem size_walk8 (X : Nat) (w : World) :
    Calls Tryd.prog 76 #[.agg (ua 8 (lb X))] w fun e w' => e = .returned (.int .i64 ((psz X 8 : Nat) : Int)) ∧ Below w.heap.size w w' := by
  go_enter Tryd.func76, Tryd.ntmps76
  go_upto_region 1 with fail
  have b0 : Below w.heap.size w (w.alloc (.cells (ua 8 (lb X)) 107)) := ((Below.refl _ _).alloc (Nat.le_refl _) _)
  have f0 : (w.alloc (.cells (ua 8 (lb X)) 107)).heap[w.heap.size]? = some (.cells (ua 8 (lb X)) 107) := heap_alloc_new _ _
  generalize (w.alloc (.cells (ua 8 (lb X)) 107)) = W at *
  go_wp2_with fail
  go_loopw [3] (fun i wr => ∃ k : Nat, k ≤ 8 ∧ i = .int .i64 (k : Int) ∧ Hid (psz X k = psz X 8) ∧ wr = W) (fun i _ => (intOf i).toNat)
  case atStart => exact ⟨8, Nat.le_refl _, rfl, Lib.hid rfl, rfl⟩
  case round =>
    obtain ⟨k, hk, rfl, hp, rfl⟩ := hrel
    cases k with
    | zero =>
      go_wp2_with fail
      go_ret
      exact ⟨by rw [← hp.out]; rfl, b0⟩
    | succ k =>
      have e1 : ((k + 1 : Nat) : Int) - 1 = (k : Int) := by omega
      have c1 := blk_cell f0 (ua_get (lb X) (show k < 8 by omega))
      have hk8 : (k : Int) < 8 := by omega
      have hk8' : k < 8 := by omega
      obtain ⟨j, hj⟩ : ∃ j, j = k + 1 := ⟨_, rfl⟩
      rw [← hj] at e1 hp ⊢
      have hj0 : 0 < (j : Int) := by omega
      have HJ := Lib.hid hj
      clear hj f0
      by_cases h0 : lb X k = 0
      · rw [h0] at c1
        have h0' := Lib.hid h0
        clear h0
        go_wp2_with fail
        refine ⟨⟨k, by omega, rfl, Lib.hid ?_, trivial⟩, by simp only [intOf]; have := HJ.out; omega⟩
        rw [← hp.out, HJ.out, psz, if_pos h0'.out]
      · have h0' := Lib.hid h0
        have cn : (((lb X k : Nat) : Int) == 0) = false := by rw [beq_eq_false_iff_ne]; omega
        go_wp2_with fail
        go_ret
        exact ⟨by rw [← hp.out, HJ.out, psz, if_neg h0'.out]; rfl, b0⟩

set_option maxHeartbeats 2000000 in
theorem write_walk (X b n c : Nat) (Z : Nat → Nat) (t : TypeId) (w : World) (hn : n ≤ 64) (ha : w.heap[b]? = some (.cells (arr .u8 n fun i => ((Z i : Nat) : Int)) t)) :
    Calls Tryd.prog 70 #[.agg (ua 8 (lb X)), .slice (some ⟨b, 0, none⟩) n c] w fun e w' => e = .returned (.tuple #[]) ∧ w'.heap[b]? = some (.cells (arr .u8 n fun i => ((dig X (n - 1 - i) : Nat) : Int)) t) ∧ Wrote b w w' := by
  go_enter Tryd.func70, Tryd.ntmps70
  go_upto_region 1 with fail
  have b0 : Below w.heap.size w (w.alloc (.cells (ua 8 (lb X)) 107)) := ((Below.refl _ _).alloc (Nat.le_refl _) _)
  have f0 : (w.alloc (.cells (ua 8 (lb X)) 107)).heap[w.heap.size]? = some (.cells (ua 8 (lb X)) 107) := heap_alloc_new _ _
  have hbl : b < w.heap.size := (Array.getElem?_eq_some_iff.1 ha).1
  have ha' := blk_alloc (o' := .cells (ua 8 (lb X)) 107) ha
  generalize (w.alloc (.cells (ua 8 (lb X)) 107)) = W at *
  generalize hnb : w.heap.size = nb at *
  have HNB := Lib.hid hnb
  clear hnb ha
  have HB0 := Lib.hid b0
  clear b0
  go_wp2_with fail
  go_loopw [7] (fun i wr => ∃ k : Nat, k ≤ n ∧ i = .int .i64 (k : Int) ∧ wr.heap[b]? = some (.cells (arr .u8 n fun i => if n ≤ i + k then ((dig X (n - 1 - i) : Nat) : Int) else ((Z i : Nat) : Int)) t) ∧ Wrote b W wr) (fun i _ => n - (intOf i).toNat)
  case atStart =>
    refine ⟨0, Nat.zero_le _, rfl, ha'.trans (congrArg (fun c => some (Obj.cells c t)) (arr_congr fun i hi => by rw [if_neg (by omega)])), Wrote.refl _ _⟩
  case round =>
    obtain ⟨k, hk, rfl, h1, h2⟩ := hrel
    by_cases hlt : k < n
    · have hq : k / 8 < 8 := by omega
      have c1 := blk_cell (h2.other f0 (by omega)) (ua_get (lb X) hq)
      have c2 := blk_cell h1 (arr_get .u8 _ (show n - 1 - k < n by omega))
      have c3 := blk_frozen (j := n - 1 - k) h1
      have e1 : (n : Int) - 1 - (k : Int) = ((n - 1 - k : Nat) : Int) := by omega
      have i1 : n - 1 - k < n := by omega
      have hset : (arr .u8 n fun i => if n ≤ i + k then ((dig X (n - 1 - i) : Nat) : Int) else ((Z i : Nat) : Int)).setIfInBounds (n - 1 - k) (.int .u8 ((dig X k : Nat) : Int)) = arr .u8 n fun i => if n ≤ i + (k + 1) then ((dig X (n - 1 - i) : Nat) : Int) else ((Z i : Nat) : Int) := by
        rw [arr_set _ _ _ i1]
        refine arr_congr fun i hi => ?_
        by_cases e : i = n - 1 - k
        · rw [if_pos e, if_pos (by omega), show n - 1 - i = k by omega]
        · rw [if_neg e]
          by_cases g : n ≤ i + k
          · rw [if_pos g, if_pos (by omega)]
          · rw [if_neg g, if_neg (by omega)]
      have HS := Lib.hid hset
      have H1 := Lib.hid h1
      have H2 := Lib.hid h2
      clear hset h1 h2 f0 ha'
      generalize n - 1 - k = j at *
      have hv : IntKind.u8.wrap (((lb X (k / 8) : Nat) : Int) / 2 ^ (8 * (k % 8))) = ((dig X k : Nat) : Int) := by
        have e : ((lb X (k / 8) : Nat) : Int) / 2 ^ (8 * (k % 8)) = ((lb X (k / 8) / 2 ^ (8 * (k % 8)) : Nat) : Int) := by simp
        rw [e, IntKind.wrap_u8, ← lb_dig]
        omega
      obtain ⟨k8, h8⟩ : ∃ x, x = k / 8 := ⟨_, rfl⟩
      obtain ⟨km, hm⟩ : ∃ x, x = k % 8 := ⟨_, rfl⟩
      obtain ⟨sh, hsh⟩ : ∃ x, x = 8 * (k % 8) := ⟨_, rfl⟩
      have w8 : IntKind.i64.wrap (k8 : Int) = (k8 : Int) := by rw [IntKind.wrap_i64]; omega
      have wm : IntKind.i64.wrap (km : Int) = (km : Int) := by rw [IntKind.wrap_i64]; omega
      have ws : IntKind.i64.wrap (sh : Int) = (sh : Int) := by rw [IntKind.wrap_i64]; omega
      have v8 : ((k : Int) / 8) = (k8 : Int) := by omega
      have v9 : ((k : Int) % 8) = (km : Int) := by omega
      have v10 : (k : Int).tmod 8 = (km : Int) := by rw [Int.tmod_eq_emod_of_nonneg (by omega)]; omega
      have v11 : IntKind.i64.wrap (8 * (km : Int)) = (sh : Int) := by rw [IntKind.wrap_i64]; omega
      have v12 : (8 * (km : Int)) = (sh : Int) := by omega
      have hk8 : (k8 : Int) < 8 := by omega
      have hsh64 : sh < 64 := by omega
      rw [← hsh, ← h8] at hv
      rw [← h8] at c1 hq
      clear h8 hm hsh
      go_wp2_with fail
      refine ⟨⟨k + 1, by omega, by go_num, ?_, H2.out.trans (Wrote.put _ _)⟩, by simp only [intOf]; omega⟩
      rw [← HS.out]
      exact blk_set H1.out _
    · obtain rfl : k = n := by omega
      have H1 := Lib.hid h1
      have H2 := Lib.hid h2
      clear h1 h2
      go_wp2_with fail
      go_end0
      refine ⟨rfl, H1.out.trans (congrArg (fun c => some (Obj.cells c t)) (arr_congr fun i _ => by rw [if_pos (by omega)])), ?_⟩
      exact (Wrote.of_below (by rw [HNB.out]; exact HB0.out)).trans H2.out
end Go.Proofs.YtihefgpicnhdjaaDoor
/- What the function ringOf of package modexp does. -/
namespace Go.Proofs.YtihefgpicnhdjaaDoor
open Go.RowKit SmWord
set_option maxRecDepth 100000

set_option maxHeartbeats 2000000 in
theorem ringOf_none (w : World)  :
    Calls Tryd.prog 67 #[.agg (ua 8 (lb 0))] w fun e w' => e = .returned (.tuple #[.pointer none, .bool false]) ∧ Below w.heap.size w w' := by
  have hsz := fun w => size_walk8 0 w
  rw [(psz_zero (X := 0) (k := 8) (Bp 8)).2 rfl] at hsz
  have HZ := Lib.hid hsz
  clear hsz
  go_enter Tryd.func67, Tryd.ntmps67
  go_upto_region 1 with fail
  have b0 : Below w.heap.size w (w.alloc (.cells (ua 8 (lb 0)) 107)) := ((Below.refl _ _).alloc (Nat.le_refl _) _)
  have f0 : (w.alloc (.cells (ua 8 (lb 0)) 107)).heap[w.heap.size]? = some (.cells (ua 8 (lb 0)) 107) := heap_alloc_new _ _
  generalize (w.alloc (.cells (ua 8 (lb 0)) 107)) = W at *
  go_wp2_with (refine wpList_load_row rfl 107 _ rfl _ rfl 107 (ua 8 (lb 0)) (0, 0) _ f0 Tryd.underlying107 rfl (infoU _) ?_)
  refine (HZ.out _).mono ?_
  rintro e w1 ⟨rfl, b1⟩
  have b2 := b0.trans (b1.mono b0.size)
  clear b1 f0 b0
  go_wp2_with fail
  go_ret2
  exact ⟨rfl, b2⟩

/-- A part of a number that is shifted up. -/
theorem up_part0 (X s : Nat) : slo (lb X 0) s = lb (X * 2 ^ s) 0 := by
  unfold slo lb
  rw [Nat.pow_zero, Nat.div_one, Nat.div_one, Nat.mul_mod, Nat.mod_mod, ← Nat.mul_mod]
theorem up_part (X i : Nat) {s : Nat} (hs : s ≤ 63) : slo (lb X (i + 1)) s ||| lb X i / 2 ^ (64 - s) = lb (X * 2 ^ s) (i + 1) := by
  have h := down_part (X * 2 ^ s * B) (i + 1) (s := 0) (by omega)
  have hB : B = 2 ^ (64 - s) * 2 ^ s := by rw [← Nat.pow_add, show 64 - s + s = 64 by omega]
  have h1 : lb X i / 2 ^ (64 - s) < 2 ^ s := by
    rw [Nat.div_lt_iff_lt_mul (Nat.two_pow_pos _), Nat.mul_comm, ← hB]
    exact lb_lt _ _
  rw [Go.nat_join s _ _ (slo_mod (by omega)) h1]
  have hp : 0 < 2 ^ s := Nat.two_pow_pos _
  have hr : 0 < 2 ^ (64 - s) := Nat.two_pow_pos _
  have e0 : X * 2 ^ s / B ^ (i + 1) = X / B ^ i / 2 ^ (64 - s) := by
    rw [Nat.pow_succ, hB, ← Nat.mul_assoc, Nat.mul_div_mul_right _ _ hp, Nat.div_div_eq_div_mul]
  have e1 : lb X (i + 1) = X / B ^ i / B % B := by unfold lb; rw [Nat.pow_succ, ← Nat.div_div_eq_div_mul]
  rw [e1]
  unfold lb
  rw [e0]
  generalize X / B ^ i = y
  unfold slo
  clear h h1 e0 e1
  generalize 2 ^ s = p at *
  generalize 2 ^ (64 - s) = r at *
  have e3 : y / B % B * p % B = y / B * p % B := by
    rw [Nat.mul_mod, Nat.mod_mod, ← Nat.mul_mod]
  have e4 : y / r = y % B / r + y / B * p := by
    have h5 := Nat.mod_add_div y B
    have e5 : r * (y / B * p) = B * (y / B) := by
      rw [Nat.mul_left_comm, ← hB, Nat.mul_comm]
    rw [← e5] at h5
    conv => lhs; rw [← h5]
    rw [Nat.add_mul_div_left _ _ hr]
  have hlt : y % B / r < p := by
    rw [Nat.div_lt_iff_lt_mul hr, Nat.mul_comm, ← hB]
    exact Nat.mod_lt _ (by decide)
  rw [e3, e4]
  generalize y % B / r = q at *
  generalize y / B = z at *
  have e6 : z * p = z % r * p + B * (z / r) := by
    have := Nat.mod_add_div z r
    rw [hB]
    conv => lhs; rw [← this, Nat.add_mul, Nat.mul_right_comm]
  have h7 : (z % r + 1) * p ≤ r * p := Nat.mul_le_mul_right _ (Nat.mod_lt _ hr)
  rw [Nat.add_mul, ← hB] at h7
  have a1 : z * p % B = z % r * p := by rw [e6, Nat.add_mul_mod_self_left, Nat.mod_eq_of_lt (by omega)]
  have a2 : (q + z * p) % B = q + z % r * p := by rw [e6, ← Nat.add_assoc, Nat.add_mul_mod_self_left, Nat.mod_eq_of_lt (by omega)]
  rw [a1, a2, Nat.add_comm]

/-- The cells of a ring. -/
def rgc (F : Nat → Nat) (s k : Nat) : Array Value := ua 8 F ++ #[.int .u64 (s : Int), .int .i64 (k : Int)]
theorem rgc_part (F : Nat → Nat) (s k : Nat) {i : Nat} (h : i < 8) : (rgc F s k)[i]? = some (.int .u64 ((F i : Nat) : Int)) := by
  unfold rgc
  rw [Array.getElem?_append_left (by rw [ua_size]; exact h), ua_get _ h]
theorem rgc_set (F : Nat → Nat) (s k x : Nat) {i : Nat} (h : i < 8) : (rgc F s k).setIfInBounds i (.int .u64 (x : Int)) = rgc (fun j => if j = i then x else F j) s k := by
  unfold rgc
  rw [Array.setIfInBounds_append_left (by rw [ua_size]; exact h), ua_set _ _ h]
theorem rgc_zero (s k : Nat) : rgc (fun _ => 0) s k = #[.int .u64 0, .int .u64 0, .int .u64 0, .int .u64 0, .int .u64 0, .int .u64 0, .int .u64 0, .int .u64 0, .int .u64 (s : Int), .int .i64 (k : Int)] := rfl

set_option maxHeartbeats 2000000 in
theorem ringOf_core (G Y U D : Nat → Nat) (k j s v r : Nat) (w : World) (hk8 : k ≤ 8) (hj : k = j + 1) (hv : v = G j) (hs : s ≤ 63) (_hr64 : r ≤ 64) (e64 : (64 : Int) - (s : Int) = (r : Int))
    (HZ : Hid (∀ w : World, Calls Tryd.prog 76 #[.agg (ua 8 G)] w fun e w' => e = .returned (.int .i64 (k : Int)) ∧ Below w.heap.size w w'))
    (hz : Hid (∀ w : World, Calls Tryd.prog 77 #[.int .u64 (v : Int)] w fun e w' => e = .returned (.int .i64 (s : Int)) ∧ w = w'))
    (hU : Hid (∀ i, IntKind.u64.wrap (((G i : Nat) : Int) * 2 ^ s) = ((U i : Nat) : Int))) (hD : Hid (∀ i, ((G i : Nat) : Int) / 2 ^ r = ((D i : Nat) : Int)))
    (hO : Hid (∀ i, bits .or .u64 ((U (i + 1) : Nat) : Int) ((D i : Nat) : Int) = ((Y (i + 1) : Nat) : Int))) (h00 : Hid (U 0 = Y 0)) :
    Calls Tryd.prog 67 #[.agg (ua 8 G)] w fun e w' => ∃ rb, e = .returned (.tuple #[.pointer (some ⟨rb, 0, none⟩), .bool true]) ∧ w.heap.size ≤ rb ∧
      w'.heap[rb]? = some (.cells (rgc (fun i => if i < k then Y i else 0) s k) 116) ∧ Below w.heap.size w w' := by
  go_enter Tryd.func67, Tryd.ntmps67
  go_upto_region 1 with fail
  have b0 : Below w.heap.size w (w.alloc (.cells (ua 8 G) 107)) := ((Below.refl _ _).alloc (Nat.le_refl _) _)
  have f0 : (w.alloc (.cells (ua 8 G) 107)).heap[w.heap.size]? = some (.cells (ua 8 G) 107) := heap_alloc_new _ _
  generalize (w.alloc (.cells (ua 8 G) 107)) = W at *
  go_wp2_with (refine wpList_load_row rfl 107 _ rfl _ rfl 107 (ua 8 G) (0, 0) _ f0 Tryd.underlying107 rfl (infoU _) ?_)
  refine (HZ.out _).mono ?_
  rintro e w1 ⟨rfl, b1⟩
  replace f0 := Below.stays b1 f0
  replace b0 := b0.trans (b1.mono b0.size)
  clear b1
  have hn : w.heap.size < w1.heap.size := (Array.getElem?_eq_some_iff.1 f0).1
  generalize hnb : w.heap.size = nb at *
  have HNB := Lib.hid hnb
  clear hnb
  have e1 : (k : Int) - 1 = (j : Int) := by omega
  have c1 := blk_cell f0 (ua_get G (show j < 8 by omega))
  rw [← hv] at c1
  have hjk : j < 8 := by omega
  have hk0 : ((k : Int) == 0) = false := by rw [beq_eq_false_iff_ne]; omega
  have HJ := Lib.hid hj
  have HV := Lib.hid hv
  clear hj hv
  go_wp2_with (go_at_call 77; refine (hz.out _).mono ?_; rintro e w' ⟨rfl, rfl⟩)
  rw [← rgc_zero]
  have b3 : Below nb w (w1.alloc (.cells (rgc (fun _ => 0) s k) 116)) := b0.alloc (by omega) _
  have f3 : (w1.alloc (.cells (rgc (fun _ => 0) s k) 116)).heap[w1.heap.size]? = some (.cells (rgc (fun _ => 0) s k) 116) := heap_alloc_new _ _
  replace f0 := blk_alloc (o' := .cells (rgc (fun _ => 0) s k) 116) f0
  have hs3 : w1.heap.size < (w1.alloc (.cells (rgc (fun _ => 0) s k) 116)).heap.size := (Array.getElem?_eq_some_iff.1 f3).1
  generalize w1.alloc (.cells (rgc (fun _ => 0) s k) 116) = V at *
  generalize w1.heap.size = rb at *
  have HB := Lib.hid b3
  clear b0 b3 c1 hk0 e1 hjk HZ hz
  go_loopw [21] (fun i wr => ∃ i' : Nat, i' ≤ k ∧ i = .int .i64 (i' : Int) ∧ wr.heap[rb]? = some (.cells (rgc (fun x => if x < i' then Y x else 0) s k) 116) ∧ Wrote rb V wr) (fun i _ => k - (intOf i).toNat)
  case atStart => exact ⟨0, Nat.zero_le _, rfl, by simpa using f3, Wrote.refl _ _⟩
  case round =>
    obtain ⟨i, hi, rfl, h1, h2⟩ := hrel
    by_cases hlt : i < k
    · have c1 := blk_cell (h2.other f0 (by omega)) (ua_get G (show i < 8 by omega))
      have zs : wr.cell? ⟨rb, 8, none⟩ = some (.int .u64 (s : Int)) := blk_cell h1 rfl
      have c3 := blk_frozen (j := i) h1
      have c2 := blk_cell h1 (rgc_part (fun x => if x < i then Y x else 0) s k (show i < 8 by omega))
      rw [if_neg (Nat.lt_irrefl _)] at c2
      have H1 := Lib.hid h1
      have H2 := Lib.hid h2
      have hi8 : (i : Int) < 8 := by omega
      have hi8' : i < 8 := by omega
      have ew := hU.out i
      cases i with
      | zero =>
        have HU := h00
        clear h1 h2
        generalize U 0 = x0 at *
        generalize G 0 = y0 at *
        go_wp2_with fail
        refine region_tail 13 (by kernel_rfl) (by kernel_rfl) ?_
        simp only [List.take_succ_cons, List.take_zero, List.drop_succ_cons, List.drop_zero]
        repeat still_step
        refine wpStill_nil ?_
        go_wp2_with fail
        refine ⟨⟨1, by omega, rfl, ?_, (H2.out.trans (Wrote.put _ _)).drew⟩, by simp only [intOf]; omega⟩
        refine (blk_set H1.out _).trans ?_
        rw [rgc_set _ _ _ _ (by omega), HU.out]
        exact congrArg (fun c => some (Obj.cells c 116)) (congrArg (fun F => rgc F s k) (funext fun x => by
          by_cases e : x = 0
          · subst e; rw [if_pos rfl, if_pos (by omega)]
          · rw [if_neg e, if_neg (by omega), if_neg (by omega)]))
      | succ i =>
        have c5 := blk_cell (h2.other f0 (by omega)) (ua_get G (show i < 8 by omega))
        have e0 := hD.out i
        have w64 : IntKind.u64.wrap ((r : Int)) = (r : Int) := by rw [IntKind.wrap_u64]; omega
        have e2 := hO.out i
        clear h1 h2
        obtain ⟨v0, hv0⟩ : ∃ y, y = Y (i + 1) := ⟨_, rfl⟩
        rw [← hv0] at e2
        generalize D i = x1 at *
        generalize U (i + 1) = x0 at *
        generalize G (i + 1) = y0 at *
        generalize G i = y1 at *
        obtain ⟨i1, hi1⟩ : ∃ x, x = i + 1 := ⟨_, rfl⟩
        have ei : (i1 : Int) - 1 = (i : Int) := by omega
        have wi : IntKind.i64.wrap (i : Int) = (i : Int) := by rw [IntKind.wrap_i64]; omega
        have hi0 : (i : Int) < 8 := by omega
        have hi0' : i < 8 := by omega
        have hp0 : decide (0 < (i1 : Int)) = true := by simp; omega
        have hp1 : 0 < i1 := by omega
        rw [← hi1] at hv0 hi hlt c1 c2 c3 H1 hi8 hi8' ⊢
        have HI := Lib.hid hi1
        have HV0 := Lib.hid hv0
        clear hi1 hv0
        go_wp2_with fail
        refine region_tail 13 (by kernel_rfl) (by kernel_rfl) ?_
        simp only [List.take_succ_cons, List.take_zero, List.drop_succ_cons, List.drop_zero]
        repeat still_step
        refine wpStill_nil ?_
        go_wp2_with fail
        refine region_tail 20 (by kernel_rfl) (by kernel_rfl) ?_
        simp only [List.take_succ_cons, List.take_zero, List.drop_succ_cons, List.drop_zero]
        repeat still_step
        refine wpStill_nil ?_
        go_wp2_with fail
        refine ⟨⟨i1 + 1, by omega, by go_num, ?_, ((H2.out.trans (Wrote.put _ _)).trans (Wrote.put _ _)).drew.drew⟩, by simp only [intOf]; omega⟩
        refine (blk_set (blk_set H1.out _) _).trans ?_
        rw [rgc_set _ _ _ _ (by omega), rgc_set _ _ _ _ (by omega), HV0.out]
        exact congrArg (fun c => some (Obj.cells c 116)) (congrArg (fun F => rgc F s k) (funext fun x => by
          by_cases e : x = i1
          · subst e; simp only [if_true]; rw [if_pos (by omega)]
          · simp only [if_neg e]
            by_cases g : x < i1
            · rw [if_pos g, if_pos (by omega)]
            · rw [if_neg g, if_neg (by omega)]))
    · obtain rfl : i = k := by omega
      have H1 := Lib.hid h1
      have H2 := Lib.hid h2
      clear h1 h2
      go_wp2_with fail
      go_ret2
      exact ⟨rb, rfl, by rw [HNB.out]; omega, H1.out, by rw [HNB.out]; exact HB.out.trans (H2.out.below (by omega) (by omega))⟩

theorem ringOf_some {X : Nat} (hX : X < B ^ 8) (h0 : X ≠ 0) : ∃ s k, s ≤ 63 ∧ 2 ^ s < B ^ k ∧ ∀ w, Calls Tryd.prog 67 #[.agg (ua 8 (lb X))] w fun e w' => ∃ rb, e = .returned (.tuple #[.pointer (some ⟨rb, 0, none⟩), .bool true]) ∧ w.heap.size ≤ rb ∧
      Rg w' rb (X * 2 ^ s) s k ∧ Below w.heap.size w w' := by
  have hk0 : psz X 8 ≠ 0 := fun h => h0 ((psz_zero hX).1 h)
  have hk8 := psz_le X 8
  have hlt := psz_lt hX
  obtain ⟨j, hj⟩ : ∃ j, psz X 8 = j + 1 := ⟨psz X 8 - 1, by omega⟩
  have hv := psz_top hj
  have hvB := lb_lt X j
  obtain ⟨t, ht, h1, h2⟩ := bl_spec hv
  have ht63 : t ≤ 63 := by
    have : 2 ^ t < 2 ^ 64 := Nat.lt_of_le_of_lt h1 hvB
    have := (Nat.pow_lt_pow_iff_right (by decide : 1 < 2)).1 this
    omega
  have hs : 63 - t ≤ 63 := by omega
  have e2 : 2 ^ (t + 1) * 2 ^ (63 - t) = B := by rw [← Nat.pow_add, show t + 1 + (63 - t) = 64 by omega]
  have e3 : 2 * (2 ^ t * 2 ^ (63 - t)) = B := by rw [← Nat.mul_assoc, ← Nat.pow_succ', e2]
  have eX : X = X % B ^ j + B ^ j * lb X j := by
    rw [← lb_low, ← hj, Nat.mod_eq_of_lt hlt]
  have hXj := Nat.mod_lt X (Bp j)
  have hlow : X * 2 ^ (63 - t) < B ^ (j + 1) := by
    have a1 : X < B ^ j * 2 ^ (t + 1) := by
      have : B ^ j * (lb X j + 1) ≤ B ^ j * 2 ^ (t + 1) := Nat.mul_le_mul_left _ h2
      rw [Nat.mul_add] at this
      generalize 2 ^ (t + 1) = q at *
      omega
    have a2 := Nat.mul_lt_mul_of_pos_right a1 (Nat.two_pow_pos (63 - t))
    rw [Nat.mul_assoc, e2, ← Nat.pow_succ] at a2
    exact a2
  have hhigh : B ^ (j + 1) ≤ 2 * (X * 2 ^ (63 - t)) := by
    have a1 : B ^ j * 2 ^ t ≤ X := by
      have h3 : B ^ j * 2 ^ t ≤ B ^ j * lb X j := Nat.mul_le_mul_left _ h1
      have h4 := Nat.le_add_left (B ^ j * lb X j) (X % B ^ j)
      rw [← eX] at h4
      exact Nat.le_trans h3 h4
    have a2 := Nat.mul_le_mul_right (2 ^ (63 - t)) a1
    rw [Nat.pow_succ]
    generalize B ^ j = P at *
    have a3 : P * B = 2 * (P * 2 ^ t * 2 ^ (63 - t)) := by
      rw [← e3, Nat.mul_left_comm, Nat.mul_assoc]
    omega
  refine ⟨63 - t, j + 1, hs, ?_, fun w => ?_⟩
  · have : 2 ^ (63 - t) < 2 ^ 64 := (Nat.pow_lt_pow_iff_right (by decide : 1 < 2)).2 (by omega)
    refine Nat.lt_of_lt_of_le this ?_
    rw [Nat.pow_succ]
    exact Nat.le_mul_of_pos_left _ (Bp j)
  · have HZ : Hid (∀ w : World, Calls Tryd.prog 76 #[.agg (ua 8 (lb X))] w fun e w' => e = .returned (.int .i64 ((j + 1 : Nat) : Int)) ∧ Below w.heap.size w w') := Lib.hid fun w => by
      rw [← hj]; exact size_walk8 X w
    have hz : Hid (∀ w : World, Calls Tryd.prog 77 #[.int .u64 ((lb X j : Nat) : Int)] w fun e w' => e = .returned (.int .i64 ((63 - t : Nat) : Int)) ∧ w = w') := Lib.hid fun w => by
      refine (Tryd.bits_LeadingZeros64 (lb X j : Nat) w (by omega) (by simp only [B] at hvB; omega)).mono fun e w' ⟨h1, h2⟩ => ⟨?_, h2.symm⟩
      rw [h1, Int.toNat_natCast, bl_lib hvB, ht]
      congr 2
      omega
    refine (ringOf_core (lb X) (lb (X * 2 ^ (63 - t))) (fun i => slo (lb X i) (63 - t)) (fun i => lb X i / 2 ^ (64 - (63 - t))) (j + 1) j (63 - t) (lb X j) (64 - (63 - t)) w (by omega) rfl rfl hs (by omega) (by omega) HZ hz
      (Lib.hid fun i => ?_) (Lib.hid fun i => by simp) (Lib.hid fun i => ?_) (Lib.hid (up_part0 X _))).mono ?_
    · have e : ((lb X i : Nat) : Int) * 2 ^ (63 - t) = ((lb X i * 2 ^ (63 - t) : Nat) : Int) := by simp
      rw [e, IntKind.wrap_u64]
      unfold slo
      simp only [B]
      omega
    · rw [u64_or_nat _ _ (slo_lt _ _) (Nat.lt_of_le_of_lt (Nat.div_le_self _ _) (lb_lt _ _)), up_part X i hs]
    · rintro e w' ⟨rb, rfl, hb, hc, hbel⟩
      refine ⟨rb, rfl, hb, ⟨(Array.getElem?_eq_some_iff.1 hc).1, fun i hi => ?_, blk_cell hc rfl, blk_cell hc rfl, hlow, hhigh, by omega, by omega, hs⟩, hbel⟩
      have := blk_cell hc (rgc_part (fun i => if i < j + 1 then lb (X * 2 ^ (63 - t)) i else 0) (63 - t) (j + 1) hi)
      rw [this]
      congr 3
      by_cases h : i < j + 1
      · rw [if_pos h]
      · rw [if_neg h, lb_high hlow (by omega)]
end Go.Proofs.YtihefgpicnhdjaaDoor
/- What the method power of package modexp's ring does. -/
namespace Go.Proofs.YtihefgpicnhdjaaDoor
open Go.RowKit SmWord
set_option maxRecDepth 100000

theorem Tryd.num9 : Tryd.prog.underlying 117 = some (.array (Tryd.prog.arrayLen 117) (Tryd.prog.elem 117)) := by kernel_rfl
theorem Tryd.len9 : Tryd.prog.arrayLen 117 = 9 := by kernel_rfl
theorem Tryd.siz9 (w : World) : (sizeOf (Tryd.prog.elem 117)).run Tryd.prog w = .ok 1 w := by rw [show Tryd.prog.elem 117 = 23 by kernel_rfl, Tryd.sizeOf23]
/-- Nine noughts. -/
def zW : Array Value := ua 9 (fun _ => 0)
theorem zW_eq : zW = #[Value.int .u64 0, Value.int .u64 0, Value.int .u64 0, Value.int .u64 0, Value.int .u64 0, Value.int .u64 0, Value.int .u64 0, Value.int .u64 0, Value.int .u64 0] := rfl

theorem whole_top {b m k : Nat} (hb : b < B ^ 8) (h1 : 1 ≤ k) (h8 : k ≤ 8) (ht : B ^ k ≤ 2 * m) : b / B ^ (9 - k) < m := by
  obtain ⟨j, rfl⟩ : ∃ j, k = j + 1 := ⟨k - 1, by omega⟩
  have e : B ^ 8 = B ^ j * B ^ (9 - (j + 1)) := by rw [← Nat.pow_add]; congr 1; omega
  have h2 : b / B ^ (9 - (j + 1)) < B ^ j := by
    rw [Nat.div_lt_iff_lt_mul (Bp _), ← e]
    exact hb
  rw [Nat.pow_succ] at ht
  have h3 : B ^ j * 2 ≤ B ^ j * B := Nat.mul_le_mul_left _ (by decide)
  omega
theorem zU_run (w : World) : (zeroValue 107).run Tryd.prog w = .ok (.agg zU) w := by kernel_rfl
set_option maxHeartbeats 2000000 in
theorem power_core (rb m s k b n1 n2 c1 c2 : Nat) (e : Nat → Nat) (A1 A2 : Option Addr) (f1 f2 : Nat → Nat) (w : World) (hr : Rg w rb m s k) (h1 : Sl w A1 n1 f1) (h2 : Sl w A2 n2 f2) (hn2 : n2 ≤ 1000)
    (hb : b < B ^ 8) (hN : Hid (∀ w, Sl w A1 n1 f1 → Calls Tryd.prog 68 #[.slice A1 n1 c1] w fun e w' => e = .returned (.agg (ua 8 (lb b))) ∧ Below w.heap.size w w'))
    (he0 : Hid (e 0 = 0)) (he : Hid (∀ j, e (j + 1) = e j * 256 + f2 j)) (R q : Nat) (p : Nat → Nat) (hq : Hid (q = b % m)) (hpm : Hid (∀ E, p E < m)) (hp0 : Hid (p 0 = 1)) (hp1 : Hid (∀ E, p E * p E % m = p (2 * E))) (hp2 : Hid (∀ E, p (2 * E) * q % m = p (2 * E + 1)))
    (hun : Hid (∀ w, Rg w rb m s k → Calls Tryd.prog 80 #[.pointer (some ⟨rb, 0, none⟩), .agg (ua 8 (lb (p (e n2))))] w fun e w' => e = .returned (.agg (ua 8 (lb R))) ∧ Below w.heap.size w w')) :
    Calls Tryd.prog 69 #[.pointer (some ⟨rb, 0, none⟩), .slice A1 n1 c1, .slice A2 n2 c2] w fun e w' => e = .returned (.agg (ua 8 (lb R))) ∧ Below w.heap.size w w' := by
  go_enter Tryd.func69, Tryd.ntmps69
  go_upto_region 2 with fail
  rw [← zU_eq, ← zW_eq]
  have b0 : Below w.heap.size w ((w.alloc (.cells zU 107)).alloc (.cells zW 117)) := ((Below.refl _ _).alloc (Nat.le_refl _) _).alloc (by simp) _
  have f0 : ((w.alloc (.cells zU 107)).alloc (.cells zW 117)).heap[w.heap.size]? = some (.cells zU 107) := blk_alloc (heap_alloc_new _ _)
  have fw : ((w.alloc (.cells zU 107)).alloc (.cells zW 117)).heap[w.heap.size + 1]? = some (.cells zW 117) := blk_fresh _ (by simp)
  have hrb : rb < w.heap.size := hr.here
  have HR0 := Lib.hid hr
  have HS0 := Lib.hid h2
  have hlt := hr.lt
  have htop := hr.top
  have hpos := hr.pos
  have hk8 := hr.most
  clear hr h2
  replace h1 := h1.below b0
  generalize ((w.alloc (.cells zU 107)).alloc (.cells zW 117)) = W at *
  have hs1 : w.heap.size + 1 < W.heap.size := (Array.getElem?_eq_some_iff.1 fw).1
  generalize hnb : w.heap.size = nb at *
  have HNB := Lib.hid hnb
  clear hnb
  go_wp2_with fail
  refine (hN.out _ h1).mono ?_
  rintro e w1 ⟨rfl, b1⟩
  replace f0 := Below.stays b1 f0
  replace fw := Below.stays b1 fw
  replace b0 := b0.trans (b1.mono (by omega))
  replace hs1 := Nat.lt_of_lt_of_le hs1 b1.size
  clear b1 h1
  go_upto_region 3 with (first | (refine wpList_alloc_row rfl 107 rfl zU zU_run ?_) | (refine wpList_store_row rfl 107 (.tmp 8) _ rfl _ zU (ua 8 (lb b)) rfl rfl (heap_alloc_new _ _) (infoU _) rfl (arr_one _ _ _) ?_))
  rw [World.setRow_alloc_new]
  simp only [Act.put, List.setIfInBounds_toArray, List.set_cons_succ, List.set_cons_zero]
  have fa : (w1.alloc (.cells (ua 8 (lb b)) 107)).heap[w1.heap.size]? = some (.cells (ua 8 (lb b)) 107) := heap_alloc_new _ _
  replace f0 := blk_alloc (o' := .cells (ua 8 (lb b)) 107) f0
  replace fw := blk_alloc (o' := .cells (ua 8 (lb b)) 107) fw
  have ba : Below w1.heap.size w1 (w1.alloc (.cells (ua 8 (lb b)) 107)) := (Below.refl _ _).alloc (Nat.le_refl _) _
  replace b0 := b0.trans (ba.mono (by omega))
  have hs2 : w1.heap.size < (w1.alloc (.cells (ua 8 (lb b)) 107)).heap.size := (Array.getElem?_eq_some_iff.1 fa).1
  clear ba
  generalize w1.alloc (.cells (ua 8 (lb b)) 107) = w2 at *
  generalize w1.heap.size = na at *
  have ea := fun w => arr_all Tryd.num9 Tryd.siz9 Tryd.len9 (nb + 1) w
  have eb := fun w => arr_all Tryd.num8 Tryd.siz8 Tryd.len8 na w
  have hus : Us w2.drew na 0 8 (lb b) := ⟨fun i _ => lb_lt _ _, hs2, fun i hi => by rw [Nat.zero_add]; exact blk_cell fa (ua_get (lb b) hi)⟩
  have er : ua 9 (fun i => if i < 8 then lb b i else 0) = ua 9 (lb b) := ua_congr fun i _ => by
    by_cases h : i < 8
    · rw [if_pos h]
    · rw [if_neg h, lb_high hb (by omega)]
  refine region_tail 2 (by kernel_rfl) (by kernel_rfl) ?_
  simp only [List.take_succ_cons, List.take_zero, List.drop_succ_cons, List.drop_zero]
  repeat still_step
  refine wpStill_nil ?_
  refine copy_ua rfl (.tmp 16) (.tmp 17) rfl (nb + 1) na 0 9 8 8 9 117 rfl rfl (by decide) (fun _ => 0) (lb b) hus fw (fun w3 h3 b3 => ?_)
  rw [er] at h3
  replace f0 : w3.heap[nb]? = some (.cells zU 107) := by
    rw [b3.block nb (by omega)]
    exact f0
  replace b0 : Below nb w w3 := (b0.drew).trans (b3.mono (by omega))
  have hs3 : nb + 1 < w3.heap.size := (Array.getElem?_eq_some_iff.1 h3).1
  clear hus er fa fw b3 hs2 hs1
  have hr3 := HR0.out.below (by rw [HNB.out]; exact b0)
  have HL := Lib.hid fun w' h3 h4 => left_walk rb m s k (nb + 1) 9 9 9 b (lb b) 117 w' h3 (by decide) (fun i _ => lb_lt _ _) h4 (by omega) (by omega) (by decide) (by decide) (by rw [vp_lb, Nat.mod_eq_of_lt (Nat.lt_of_lt_of_le hb (Nat.pow_le_pow_right (by decide) (by decide)))]) (whole_top hb hpos hk8 htop)
  rw [← hq.out] at HL
  have HR3 := Lib.hid hr3
  have H3 := Lib.hid h3
  have HB0 := Lib.hid b0
  clear hr3 h3 b0
  go_wp2_with fail
  refine (HL.out w3 HR3.out H3.out).mono ?_
  rintro e w4 ⟨rfl, hw⟩
  replace f0 := hw.other f0 (by omega)
  have b4 : Hid (Below nb w w4) := Lib.hid (HB0.out.trans (hw.below (by omega) (by omega)))
  have hs4 : nb + 1 < w4.heap.size := Nat.lt_of_lt_of_le hs3 hw.size
  clear hw HL HR3 H3 HB0 hs3
  go_upto_region 5 with (first | (refine wpList_alloc_row rfl 107 rfl zU zU_run ?_) | (refine wpList_store_row rfl 107 (.tmp 9) _ rfl _ zU (ua 8 (lb q)) rfl rfl (heap_alloc_new _ _) (infoU _) rfl (arr_one _ _ _) ?_))
  rw [World.setRow_alloc_new]
  simp only [Act.put, List.setIfInBounds_toArray, List.set_cons_succ, List.set_cons_zero]
  have ff : (w4.alloc (.cells (ua 8 (lb q)) 107)).heap[w4.heap.size]? = some (.cells (ua 8 (lb q)) 107) := heap_alloc_new _ _
  replace f0 := blk_alloc (o' := .cells (ua 8 (lb q)) 107) f0
  have b5 : Hid (Below nb w (w4.alloc (.cells (ua 8 (lb q)) 107))) := Lib.hid (b4.out.alloc (by omega) _)
  have hs5 : w4.heap.size < (w4.alloc (.cells (ua 8 (lb q)) 107)).heap.size := (Array.getElem?_eq_some_iff.1 ff).1
  clear b4 ea eb
  generalize w4.alloc (.cells (ua 8 (lb q)) 107) = w5 at *
  generalize w4.heap.size = nf at *
  go_upto_region 6 with fail
  have e1 : #[Value.int .u64 1, Value.int .u64 0, Value.int .u64 0, Value.int .u64 0, Value.int .u64 0, Value.int .u64 0, Value.int .u64 0, Value.int .u64 0] = ua 8 (lb 1) := (one_ua (x := 1) (by decide)).symm
  rw [e1]
  have fp : (w5.alloc (.cells (ua 8 (lb 1)) 107)).heap[w5.heap.size]? = some (.cells (ua 8 (lb 1)) 107) := heap_alloc_new _ _
  replace f0 := blk_alloc (o' := .cells (ua 8 (lb 1)) 107) f0
  replace ff := blk_alloc (o' := .cells (ua 8 (lb 1)) 107) ff
  have b6 : Hid (Below nb w (w5.alloc (.cells (ua 8 (lb 1)) 107))) := Lib.hid (b5.out.alloc (by omega) _)
  have hs6 : w5.heap.size < (w5.alloc (.cells (ua 8 (lb 1)) 107)).heap.size := (Array.getElem?_eq_some_iff.1 fp).1
  clear b5 e1
  generalize w5.alloc (.cells (ua 8 (lb 1)) 107) = w6 at *
  generalize w5.heap.size = np at *
  go_wp2_with fail
  clear hlt hpos hk8 hb hN
  replace fp : w6.heap[np]? = some (.cells (ua 8 (lb (p (e 0)))) 107) := by rw [he0.out, hp0.out]; exact fp
  have hqm : q < m := by rw [hq.out]; exact Nat.mod_lt _ (by have := Bp k; omega)
  have hmk := HR0.out.lt
  have HP := Lib.hid fun w' x y (h : Rg w' rb m s k) (hx : x < m) (hy : y < m) => product_walk rb m s k x y w' h hx (Nat.lt_trans hy hmk)
  clear htop hmk
  go_loopw [25] (fun i wr => ∃ j : Nat, j ≤ n2 ∧ i = .int .i64 (j : Int) ∧ wr.heap[np]? = some (.cells (ua 8 (lb (p (e j)))) 107) ∧ wr.heap[nf]? = some (.cells (ua 8 (lb q)) 107) ∧ wr.heap[nb]? = some (.cells zU 107) ∧ Hid (Below nb w wr)) (fun i _ => n2 - (intOf i).toNat)
  case atStart => exact ⟨0, Nat.zero_le _, rfl, fp, ff, f0, b6⟩
  case round =>
    clear f0 ff fp b6 hs6
    obtain ⟨j, hj, rfl, fp, ff, f0, b6⟩ := hrel
    by_cases hlt : j < n2
    · have hS := HS0.out.below (by rw [HNB.out]; exact b6.out)
      obtain ⟨bb, off, rfl, hbl, hc⟩ := hS.cells (by omega)
      have c1 := hc j hlt
      have hf := HS0.out.small j hlt
      have hE := he.out j
      have HE := Lib.hid hE
      clear hc hS hE hbl
      generalize f2 j = x at *
      go_wp2_with fail
      go_loopw [13] (fun i wr => ∃ i' : Nat, i' ≤ 8 ∧ i = .int .i64 ((i' : Int) - 1) ∧ wr.heap[np]? = some (.cells (ua 8 (lb (p (e j * 2 ^ (8 - i') + x / 2 ^ i')))) 107) ∧ wr.heap[nf]? = some (.cells (ua 8 (lb q)) 107) ∧ wr.heap[nb]? = some (.cells zU 107) ∧ Hid (Below nb w wr)) (fun i _ => (intOf i + 1).toNat)
      case atStart =>
        refine ⟨8, Nat.le_refl _, rfl, ?_, ff, f0, b6⟩
        rw [show e j * 2 ^ (8 - 8) + x / 2 ^ 8 = e j by omega]
        exact fp
      case round =>
        clear fp ff f0 b6
        obtain ⟨i', hi, rfl, fp, ff, f0, b6⟩ := hrel
        cases i' with
        | zero =>
          rw [show e j * 2 ^ (8 - 0) + x / 2 ^ 0 = e (j + 1) by rw [HE.out]; omega] at fp
          go_wp2_with fail
          exact ⟨⟨j + 1, by omega, by go_num, fp, ff, f0, b6⟩, by simp only [intOf]; omega⟩
        | succ i =>
          have en : e j * 2 ^ (8 - i) + x / 2 ^ i = 2 * (e j * 2 ^ (8 - (i + 1)) + x / 2 ^ (i + 1)) + x / 2 ^ i % 2 := by
            rw [show 8 - i = (8 - (i + 1)) + 1 by omega, Nat.pow_succ, Nat.pow_succ, ← Nat.div_div_eq_div_mul]
            generalize 2 ^ (8 - (i + 1)) = y
            rw [← Nat.mul_assoc]
            omega
          have hx2 : x / 2 ^ i < 256 := Nat.lt_of_le_of_lt (Nat.div_le_self _ _) hf
          have ex : ((x : Nat) : Int) / 2 ^ i = ((x / 2 ^ i : Nat) : Int) := by simp
          have ea : bits .and .u8 ((x / 2 ^ i : Nat) : Int) 1 = ((x / 2 ^ i % 2 : Nat) : Int) := by
            have := u8_and_nat (x / 2 ^ i) 1 hx2 (by decide)
            rw [Nat.and_one_is_mod] at this
            exact this
          have hbit : x / 2 ^ i % 2 < 2 := Nat.mod_lt _ (by decide)
          have HEN := Lib.hid en
          clear en
          obtain ⟨bit, hbe⟩ : ∃ y, y = x / 2 ^ i % 2 := ⟨_, rfl⟩
          rw [← hbe] at ea hbit HEN
          have HBE := Lib.hid hbe
          obtain ⟨xs, hxs⟩ : ∃ y, y = x / 2 ^ i := ⟨_, rfl⟩
          rw [← hxs] at ea ex hx2
          clear hbe hxs
          obtain ⟨E, hE⟩ : ∃ E, E = e j * 2 ^ (8 - (i + 1)) + x / 2 ^ (i + 1) := ⟨_, rfl⟩
          rw [← hE] at fp
          have HEE := Lib.hid hE
          clear hE
          have e1 : ((i + 1 : Nat) : Int) - 1 = (i : Int) := by omega
          have hi7 : i < 8 := by omega
          rw [e1]
          have hr6 := HR0.out.below (by rw [HNB.out]; exact b6.out)
          have HP1 := Lib.hid (HP.out wr (p E) (p E) hr6 (hpm.out _) (hpm.out _))
          rw [hp1.out] at HP1
          clear hr6
          go_wp2_with (refine wpList_load_row rfl 107 _ rfl _ rfl 107 _ (0, 0) _ (by assumption) Tryd.underlying107 rfl (infoU _) ?_)
          refine (HP1.out).mono ?_
          rintro _ w7 ⟨rfl, b7⟩
          have hsp : np < wr.heap.size := (Array.getElem?_eq_some_iff.1 fp).1
          replace fp := Below.stays b7 fp
          replace ff := Below.stays b7 ff
          replace f0 := Below.stays b7 f0
          have b8 : Hid (Below nb w w7) := Lib.hid (b6.out.trans (b7.mono (by omega)))
          clear b7 b6
          go_upto_region 13 with (refine wpList_store_row rfl 107 _ _ rfl _ _ (ua 8 (lb (p (2 * E)))) rfl rfl fp (infoU _) rfl (arr_one _ _ _) ?_)
          simp only [Act.put]
          replace fp := blk_row (c' := ua 8 (lb (p (2 * E)))) fp
          replace ff := blk_row_other (b := np) (c' := ua 8 (lb (p (2 * E)))) ff (by omega)
          replace f0 := blk_row_other (b := np) (c' := ua 8 (lb (p (2 * E)))) f0 (by omega)
          have b9 : Hid (Below nb w (w7.setRow np (ua 8 (lb (p (2 * E)))))) := Lib.hid (below_setRow b8.out (by omega) _)
          clear b8 hsp
          generalize w7.setRow np (ua 8 (lb (p (2 * E)))) = w8 at *
          by_cases hb1 : bit = 1
          · subst hb1
            have hr8 := HR0.out.below (by rw [HNB.out]; exact b9.out)
            have HP2 := Lib.hid (HP.out w8 (p (2 * E)) q hr8 (hpm.out _) hqm)
            rw [hp2.out] at HP2
            clear hr8
            go_wp2_with (refine wpList_load_row rfl 107 _ rfl _ rfl 107 _ (0, 0) _ (by assumption) Tryd.underlying107 rfl (infoU _) ?_)
            refine (HP2.out).mono ?_
            rintro _ w9 ⟨rfl, b7⟩
            have hsp : np < w8.heap.size := (Array.getElem?_eq_some_iff.1 fp).1
            replace fp := Below.stays b7 fp
            replace ff := Below.stays b7 ff
            replace f0 := Below.stays b7 f0
            have b10 : Hid (Below nb w w9) := Lib.hid (b9.out.trans (b7.mono (by omega)))
            clear b7
            go_upto_region 11 with (refine wpList_store_row rfl 107 _ _ rfl _ _ (ua 8 (lb (p (2 * E + 1)))) rfl rfl fp (infoU _) rfl (arr_one _ _ _) ?_)
            simp only [Act.put]
            replace fp := blk_row (c' := ua 8 (lb (p (2 * E + 1)))) fp
            replace ff := blk_row_other (b := np) (c' := ua 8 (lb (p (2 * E + 1)))) ff (by omega)
            replace f0 := blk_row_other (b := np) (c' := ua 8 (lb (p (2 * E + 1)))) f0 (by omega)
            have b11 : Hid (Below nb w (w9.setRow np (ua 8 (lb (p (2 * E + 1)))))) := Lib.hid (below_setRow b10.out (by omega) _)
            generalize w9.setRow np (ua 8 (lb (p (2 * E + 1)))) = w10 at *
            go_wp2_with fail
            refine ⟨⟨i, by omega, rfl, ?_, ff, f0, b11⟩, by simp only [intOf]; omega⟩
            rw [HEN.out, ← HEE.out]
            exact fp
          · obtain rfl : bit = 0 := by omega
            go_wp2_with fail
            refine ⟨⟨i, by omega, rfl, ?_, ff, f0, b9⟩, by simp only [intOf]; omega⟩
            rw [HEN.out, ← HEE.out]
            exact fp
    · obtain rfl : j = n2 := by omega
      have hr6 := HR0.out.below (by rw [HNB.out]; exact b6.out)
      have HU := Lib.hid (hun.out wr hr6)
      clear hr6
      go_wp2_with (refine wpList_load_row rfl 107 _ rfl _ rfl 107 _ (0, 0) _ (by assumption) Tryd.underlying107 rfl (infoU _) ?_)
      refine (HU.out).mono ?_
      rintro _ w7 ⟨rfl, b7⟩
      have hsp : np < wr.heap.size := (Array.getElem?_eq_some_iff.1 fp).1
      replace f0 := Below.stays b7 f0
      have b8 : Hid (Below nb w w7) := Lib.hid (b6.out.trans (b7.mono (by omega)))
      clear b7
      go_upto_region 17 with (refine wpList_store_row rfl 107 _ _ rfl _ _ (ua 8 (lb R)) rfl rfl f0 (infoU _) rfl (arr_one _ _ _) ?_)
      refine bodyPost_ret (v := .agg (ua 8 (lb R))) (results_cell_row rfl _ _ _ 107 (ua 8 (lb R)) (0, 0) _ rfl (blk_row f0) Tryd.underlying107 rfl (infoU _)) rfl ⟨rfl, ?_⟩
      rw [HNB.out]
      exact below_setRow b8.out (Nat.le_refl _) _

/-- What is left, shifted up and down again. -/
theorem unsh_num (E X s : Nat) : E % (X * 2 ^ s) * 2 ^ s % (X * 2 ^ s) / 2 ^ s = E % X := by
  rw [Nat.mul_mod_mul_right, Nat.mul_div_cancel _ (Nat.two_pow_pos s), Nat.mod_mul_right_mod]
/-- What the bytes ahead make. -/
def bvl (f : Nat → Nat) (n : Nat) : Nat := bval (bf f 0 n)
theorem bvl_val (f : Nat → Nat) (n : Nat) : bvl f n = val (gd f n) n := bval_val f n
theorem bvl_succ (f : Nat → Nat) (n : Nat) : bvl f (n + 1) = bvl f n * 256 + f n := by
  unfold bvl
  have h := bf_app f 0 n 1
  rw [← h, bval_app, bf_length, Nat.pow_one]
  simp [bf, bval]
theorem bvl_lt {f : Nat → Nat} {n : Nat} (h : ∀ i, i < n → f i < 256) : bvl f n < 256 ^ n := by
  rw [bvl_val]
  exact val_lt fun i hi => h _ (by omega)
theorem bvl_small {f : Nat → Nat} {n : Nat} (h : ∀ i, i < n → f i < 256) (hn : n ≤ 64) : bvl f n < B ^ 8 := by
  refine Nat.lt_of_lt_of_le (bvl_lt h) ?_
  rw [B_pow]
  exact Nat.pow_le_pow_right (by decide) (by omega)
theorem power_walk (rb X s k n1 n2 c1 c2 : Nat) (A1 A2 : Option Addr) (f1 f2 : Nat → Nat) (w : World) (hr : Rg w rb (X * 2 ^ s) s k) (hs : 2 ^ s < B ^ k) (h1 : Sl w A1 n1 f1) (h2 : Sl w A2 n2 f2) (hn1 : n1 ≤ 64) (hn2 : n2 ≤ 1000) :
    Calls Tryd.prog 69 #[.pointer (some ⟨rb, 0, none⟩), .slice A1 n1 c1, .slice A2 n2 c2] w fun e w' => e = .returned (.agg (ua 8 (lb (bvl f1 n1 ^ bvl f2 n2 % X)))) ∧ Below w.heap.size w w' := by
  have hk := Bp k
  have hm1 : 1 < X * 2 ^ s := by
    have h3 := hr.top
    obtain ⟨j, hj⟩ : ∃ j, k = j + 1 := ⟨k - 1, by have := hr.pos; omega⟩
    rw [hj, Nat.pow_succ] at h3
    have h4 : 4 ≤ B ^ j * B := Nat.le_trans (by decide : 4 ≤ 1 * B) (Nat.mul_le_mul_right _ (Bp j))
    omega
  have hb := bvl_small h1.small hn1
  have hmod : ∀ E, (bvl f1 n1 ^ E % (X * 2 ^ s)) * (bvl f1 n1 ^ E % (X * 2 ^ s)) % (X * 2 ^ s) = bvl f1 n1 ^ (2 * E) % (X * 2 ^ s) := fun E => by
    rw [← Nat.mul_mod, ← Nat.pow_add, Nat.two_mul]
  have hmod2 : ∀ E, (bvl f1 n1 ^ (2 * E) % (X * 2 ^ s)) * (bvl f1 n1 % (X * 2 ^ s)) % (X * 2 ^ s) = bvl f1 n1 ^ (2 * E + 1) % (X * 2 ^ s) := fun E => by
    rw [← Nat.mul_mod, ← Nat.pow_succ]
  refine power_core rb (X * 2 ^ s) s k (bvl f1 n1) n1 n2 c1 c2 (bvl f2) A1 A2 f1 f2 w hr h1 h2 hn2 hb (Lib.hid fun w hw => ?_) (Lib.hid rfl) (Lib.hid (bvl_succ f2)) _ _ (fun E => bvl f1 n1 ^ E % (X * 2 ^ s)) (Lib.hid rfl) (Lib.hid fun E => Nat.mod_lt _ (by omega)) (Lib.hid ?_) (Lib.hid hmod) (Lib.hid hmod2) (Lib.hid fun w hw => ?_)
  · rw [bvl_val]
    exact numberOf_walk A1 n1 c1 f1 w hn1 hw
  · show bvl f1 n1 ^ 0 % (X * 2 ^ s) = 1
    rw [Nat.pow_zero, Nat.mod_eq_of_lt hm1]
  · have := unshifted_walk rb (X * 2 ^ s) s k (bvl f1 n1 ^ bvl f2 n2 % (X * 2 ^ s)) _ w hw (Nat.mod_lt _ (by omega)) rfl hs
    rw [unsh_num] at this
    exact this
end Go.Proofs.YtihefgpicnhdjaaDoor
/- What the function Pow of package modexp does. -/
namespace Go.Proofs.YtihefgpicnhdjaaDoor
open Go.RowKit SmWord
set_option maxRecDepth 100000

set_option maxHeartbeats 2000000 in
theorem pow_long (n1 n2 n3 c1 c2 c3 : Nat) (A1 A2 A3 : Option Addr) (w : World) (h : 64 < n1 ∨ 64 < n2 ∨ 64 < n3) (h1 : n1 ≤ maxLen) (h2 : n2 ≤ maxLen) (h3 : n3 ≤ maxLen) :
    Calls Tryd.prog 46 #[.slice A1 n1 c1, .slice A2 n2 c2, .slice A3 n3 c3] w fun e w' => e = .returned (.tuple #[.slice none 0 0, .int .i64 4]) ∧ w = w' := by
  have hl1 : n1 ≤ 9223372036854775807 := h1
  have hl2 : n2 ≤ 9223372036854775807 := h2
  have hl3 : n3 ≤ 9223372036854775807 := h3
  go_enter Tryd.func46, Tryd.ntmps46
  go_wp2_with fail
  all_goals
    go_ret2
    exact ⟨rfl, rfl⟩

theorem Tryd.make_bytes (n : Nat) (hn : n ≤ 140737488355328) (w : World) :
    (Instr.makeSlice 22 (.int .i64 (n : Int)) (.int .i64 (n : Int))).run Tryd.prog w = .ok (.slice (some ⟨w.heap.size, 0, none⟩) n n) (w.alloc (.cells (arr .u8 n (fun _ => 0)) 5)) := by
  have e : madeCells #[Value.int .u8 0] n = arr .u8 n (fun _ => 0) := by
    apply Array.ext
    · simp [arr_size, size_madeCells]
    · intro i h1 h2
      simp [arr, madeCells, Nat.mod_one]
  rw [← e]
  exact _root_.Go.run_make_row' 22 5 (.int .u8 0) 1 Tryd.underlying22 Tryd.info8 rfl .i64 .i64 n (by omega) (by omega) w

/-- What Pow answers with short numbers. -/
def PowIs (n : Nat) (V : Nat) (w : World) (e : Ending) (w' : World) : Prop := ∃ g, e = .returned (.tuple #[.slice (some ⟨g, 0, none⟩) n n, .int .i64 0]) ∧ w.heap.size ≤ g ∧ w'.heap[g]? = some (.cells (arr .u8 n fun i => ((dig V (n - 1 - i) : Nat) : Int)) 5) ∧ Below w.heap.size w w'
set_option maxHeartbeats 2000000 in
theorem pow_core0 (n1 n2 n3 c1 c2 c3 : Nat) (A1 A2 A3 : Option Addr) (f3 : Nat → Nat) (w : World) (h1 : n1 ≤ 64) (h2 : n2 ≤ 64) (h3 : n3 ≤ 64) (s3 : Sl w A3 n3 f3)
    (hN : Hid (∀ w, Sl w A3 n3 f3 → Calls Tryd.prog 68 #[.slice A3 n3 c3] w fun e w' => e = .returned (.agg (ua 8 (lb 0))) ∧ Below w.heap.size w w')) :
    Calls Tryd.prog 46 #[.slice A1 n1 c1, .slice A2 n2 c2, .slice A3 n3 c3] w (PowIs n3 0 w) := by
  have hmk := Tryd.make_bytes n3 (by omega)
  go_enter Tryd.func46, Tryd.ntmps46
  go_upto_region 4 with fail
  have b0 : Below w.heap.size w (w.alloc (.cells (arr .u8 n3 fun _ => 0) 5)) := (Below.refl _ _).alloc (Nat.le_refl _) _
  have f0 : (w.alloc (.cells (arr .u8 n3 fun _ => 0) 5)).heap[w.heap.size]? = some (.cells (arr .u8 n3 fun _ => 0) 5) := heap_alloc_new _ _
  clear hmk
  generalize w.alloc (.cells (arr .u8 n3 fun _ => 0) 5) = W at *
  rename_i hmx
  generalize (if (if n1 < n2 then (n2 : Int) else n1) < n3 then (n3 : Int) else if n1 < n2 then (n2 : Int) else n1) = mx at *
  go_wp2_with fail
  refine (hN.out _ (s3.below b0)).mono ?_
  rintro e w1 ⟨rfl, b1⟩
  replace f0 := Below.stays b1 f0
  replace b0 := b0.trans (b1.mono b0.size)
  clear b1
  go_wp2_with fail
  refine (ringOf_none _).mono ?_
  rintro e w2 ⟨rfl, b1⟩
  replace f0 := Below.stays b1 f0
  replace b0 := b0.trans (b1.mono b0.size)
  clear b1
  have F0 := Lib.hid f0
  have B0 := Lib.hid b0
  clear f0 b0
  go_wp2_with fail
  go_ret2
  refine ⟨w.heap.size, rfl, Nat.le_refl _, F0.out.trans (congrArg (fun c => some (Obj.cells c 5)) (arr_congr fun i _ => by simp [dig])), B0.out⟩
set_option maxHeartbeats 2000000 in
theorem pow_core1 (n1 n2 n3 c1 c2 c3 X V s k : Nat) (A1 A2 A3 : Option Addr) (f1 f2 f3 : Nat → Nat) (w : World) (h1 : n1 ≤ 64) (h2 : n2 ≤ 64) (h3 : n3 ≤ 64) (s1 : Sl w A1 n1 f1) (s2 : Sl w A2 n2 f2) (s3 : Sl w A3 n3 f3)
    (hN : Hid (∀ w, Sl w A3 n3 f3 → Calls Tryd.prog 68 #[.slice A3 n3 c3] w fun e w' => e = .returned (.agg (ua 8 (lb X))) ∧ Below w.heap.size w w'))
    (hR : Hid (∀ w, Calls Tryd.prog 67 #[.agg (ua 8 (lb X))] w fun e w' => ∃ rb, e = .returned (.tuple #[.pointer (some ⟨rb, 0, none⟩), .bool true]) ∧ w.heap.size ≤ rb ∧ Rg w' rb (X * 2 ^ s) s k ∧ Below w.heap.size w w'))
    (hP : Hid (∀ rb w, Rg w rb (X * 2 ^ s) s k → Sl w A1 n1 f1 → Sl w A2 n2 f2 → Calls Tryd.prog 69 #[.pointer (some ⟨rb, 0, none⟩), .slice A1 n1 c1, .slice A2 n2 c2] w fun e w' => e = .returned (.agg (ua 8 (lb V))) ∧ Below w.heap.size w w')) :
    Calls Tryd.prog 46 #[.slice A1 n1 c1, .slice A2 n2 c2, .slice A3 n3 c3] w (PowIs n3 V w) := by
  have hmk := Tryd.make_bytes n3 (by omega)
  go_enter Tryd.func46, Tryd.ntmps46
  go_upto_region 4 with fail
  have b0 : Below w.heap.size w (w.alloc (.cells (arr .u8 n3 fun _ => 0) 5)) := (Below.refl _ _).alloc (Nat.le_refl _) _
  have f0 : (w.alloc (.cells (arr .u8 n3 fun _ => 0) 5)).heap[w.heap.size]? = some (.cells (arr .u8 n3 fun _ => 0) 5) := heap_alloc_new _ _
  clear hmk
  generalize w.alloc (.cells (arr .u8 n3 fun _ => 0) 5) = W at *
  rename_i hmx
  generalize (if (if n1 < n2 then (n2 : Int) else n1) < n3 then (n3 : Int) else if n1 < n2 then (n2 : Int) else n1) = mx at *
  go_wp2_with fail
  refine (hN.out _ (s3.below b0)).mono ?_
  rintro e w1 ⟨rfl, b1⟩
  replace f0 := Below.stays b1 f0
  replace b0 := b0.trans (b1.mono b0.size)
  clear b1
  go_wp2_with fail
  refine (hR.out _).mono ?_
  rintro e w2 ⟨rb, rfl, hrb, hrg, b1⟩
  replace f0 := Below.stays b1 f0
  replace b0 := b0.trans (b1.mono b0.size)
  clear b1 hN hR
  have HP := Lib.hid (hP.out rb w2 hrg (s1.below b0) (s2.below b0))
  have F0 := Lib.hid f0
  have B0 := Lib.hid b0
  have hsz : w.heap.size < w2.heap.size := (Array.getElem?_eq_some_iff.1 f0).1
  clear f0 b0 hrg hP
  go_wp2_with fail
  refine (HP.out).mono ?_
  rintro _ w3 ⟨rfl, b1⟩
  have f1 := Below.stays b1 F0.out
  have b2 := B0.out.trans (b1.mono (by omega))
  clear b1 F0 B0 HP
  go_wp2_with fail
  refine (write_walk V w.heap.size n3 n3 (fun _ => 0) 5 w3 h3 (by simpa using f1)).mono ?_
  rintro _ w4 ⟨rfl, f2, b3⟩
  have hsz3 : w.heap.size < w3.heap.size := (Array.getElem?_eq_some_iff.1 f1).1
  have F0 := Lib.hid f2
  have B0 := Lib.hid (b2.trans (b3.below (Nat.le_refl _) (by omega)))
  clear f1 b2 f2 b3
  go_wp2_with fail
  go_ret2
  exact ⟨w.heap.size, rfl, Nat.le_refl _, F0.out, B0.out⟩
theorem pow_walk (n1 n2 n3 c1 c2 c3 : Nat) (A1 A2 A3 : Option Addr) (f1 f2 f3 : Nat → Nat) (w : World) (h1 : n1 ≤ 64) (h2 : n2 ≤ 64) (h3 : n3 ≤ 64) (s1 : Sl w A1 n1 f1) (s2 : Sl w A2 n2 f2) (s3 : Sl w A3 n3 f3) :
    Calls Tryd.prog 46 #[.slice A1 n1 c1, .slice A2 n2 c2, .slice A3 n3 c3] w (PowIs n3 (pw (bvl f1 n1) (bvl f2 n2) (bvl f3 n3)) w) := by
  have hX := bvl_small s3.small h3
  have hN : Hid (∀ w, Sl w A3 n3 f3 → Calls Tryd.prog 68 #[.slice A3 n3 c3] w fun e w' => e = .returned (.agg (ua 8 (lb (bvl f3 n3)))) ∧ Below w.heap.size w w') := Lib.hid fun w hw => by
    rw [bvl_val]
    exact numberOf_walk A3 n3 c3 f3 w h3 hw
  by_cases h0 : bvl f3 n3 = 0
  · rw [h0] at hN ⊢
    rw [pw_none]
    exact pow_core0 n1 n2 n3 c1 c2 c3 A1 A2 A3 f3 w h1 h2 h3 s3 hN
  · obtain ⟨s, k, hs, hsk, hR⟩ := ringOf_some hX h0
    rw [show pw (bvl f1 n1) (bvl f2 n2) (bvl f3 n3) = bvl f1 n1 ^ bvl f2 n2 % bvl f3 n3 from if_neg h0]
    exact pow_core1 n1 n2 n3 c1 c2 c3 _ _ s k A1 A2 A3 f1 f2 f3 w h1 h2 h3 s1 s2 s3 hN (Lib.hid hR) (Lib.hid fun rb w hr hs1 hs2 => power_walk rb _ s k n1 n2 c1 c2 A1 A2 f1 f2 w hr hsk hs1 hs2 h1 (by omega))
end Go.Proofs.YtihefgpicnhdjaaDoor
