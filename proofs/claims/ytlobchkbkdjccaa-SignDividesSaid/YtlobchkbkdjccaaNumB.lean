/- What the functions Word, High, Zero, Less, Plus and Minus of the document's numbers of any length do; all older memory is as it was. -/
import Derived.Test.YtlobchkbkdjccaaNum
import Derived.Test.YtlobchkbkdjccaaFixed
import Derived.Deep.CutBlock
import Derived.Deep.RegionWith
namespace Go.Proofs.Ytlobchkbkdjccaa
open Go.RowKit SmWord
set_option maxRecDepth 100000

namespace SmWord
theorem dig_up (X j : Nat) : X / 256 ^ j = 256 * (X / 256 ^ (j + 1)) + dig X j := by
  unfold dig
  rw [Nat.pow_succ, ← Nat.div_div_eq_div_mul]
  exact (Nat.div_add_mod _ _).symm
theorem low_succ (X j : Nat) : X % 256 ^ (j + 1) = X % 256 ^ j + 256 ^ j * dig X j := by
  unfold dig; rw [Nat.pow_succ, Nat.mod_mul]
theorem less_here {X Y j : Nat} (h : X / 256 ^ (j + 1) = Y / 256 ^ (j + 1)) (hne : dig X j ≠ dig Y j) : (X < Y) ↔ dig X j < dig Y j := by
  have hp : 0 < 256 ^ j := Nat.pow_pos (by decide)
  have hx := dig_up X j
  have hy := dig_up Y j
  have dx := Nat.div_add_mod X (256 ^ j)
  have dy := Nat.div_add_mod Y (256 ^ j)
  have mx := Nat.mod_lt X hp
  have my := Nat.mod_lt Y hp
  rw [h] at hx
  generalize 256 * (Y / 256 ^ (j + 1)) = z at *
  constructor
  · intro hlt
    apply Classical.byContradiction
    intro hn
    have h3 : Y / 256 ^ j + 1 ≤ X / 256 ^ j := by rw [hx, hy]; omega
    have h4 := Nat.mul_le_mul_left (256 ^ j) h3
    rw [Nat.mul_add, Nat.mul_one] at h4
    omega
  · intro hlt
    have h3 : X / 256 ^ j + 1 ≤ Y / 256 ^ j := by rw [hx, hy]; omega
    have h4 := Nat.mul_le_mul_left (256 ^ j) h3
    rw [Nat.mul_add, Nat.mul_one] at h4
    omega
theorem less_same {X Y j : Nat} (h : X / 256 ^ (j + 1) = Y / 256 ^ (j + 1)) (he : dig X j = dig Y j) : X / 256 ^ j = Y / 256 ^ j := by
  rw [dig_up X j, dig_up Y j, h, he]
end SmWord

theorem setRow_alloc2 (w : World) (o : Obj) (c c' : Array Value) (t : TypeId) : ((w.alloc o).alloc (.cells c t)).setRow (w.heap.size + 1) c' = (w.alloc o).alloc (.cells c' t) := by
  have := World.setRow_alloc_new (w.alloc o) c c' t
  rw [World.size_alloc] at this
  exact this

set_option maxHeartbeats 1000000 in
theorem nword_ref (v : Value) (n X : Nat) (w : World) (h : NumS w v n X) : Calls Try.prog 33 #[v] w fun e w' => e = .returned (wd X) ∧ Below w.heap.size w w' := by
  have HN := Lib.hid h
  clear h
  go_enter Try.func33, Try.ntmps33
  go_upto_block 0 with (first | (refine wpList_alloc_row rfl 31 rfl zD zD_run ?_) | (refine wpList_build_zero rfl 31 rfl Try.underlying31 Try.sizeOf3 zD zD_run ?_) | (refine wpList_store_row rfl 31 (.tmp 3) _ rfl _ zD zD rfl rfl (heap_alloc_new _ _) (infoArr _) rfl (arr_one _ _ _) ?_))
  rw [setRow_alloc2]
  have f2 : ((w.alloc (.cells (wa 0) 24)).alloc (.cells zD 31)).heap[w.heap.size]? = some (.cells (wa 0) 24) := blk_alloc (heap_alloc_new _ _)
  have f3 : ((w.alloc (.cells (wa 0) 24)).alloc (.cells zD 31)).heap[w.heap.size + 1]? = some (.cells zD 31) := heap_alloc2_new _ _ _
  have bW : Below w.heap.size w ((w.alloc (.cells (wa 0) 24)).alloc (.cells zD 31)) := ((Below.refl _ _).alloc (Nat.le_refl _) _).alloc (by simp) _
  have ez : (w.alloc (.cells #[.int .u64 0, .int .u64 0, .int .u64 0, .int .u64 0] 24)).alloc (.cells zD 31) = (w.alloc (.cells (wa 0) 24)).alloc (.cells zD 31) := rfl
  rw [ez]
  clear ez
  generalize (w.alloc (.cells (wa 0) 24)).alloc (.cells zD 31) = W at *
  go_wp2_with fail
  go_loopw [4] (fun i wr => ∃ k : Nat, k ≤ 32 ∧ i = .int .i64 (k : Int) ∧ Below w.heap.size w wr ∧ wr.heap[w.heap.size]? = some (.cells (wa 0) 24) ∧
      wr.heap[w.heap.size + 1]? = some (.cells (arr .i64 32 (fun j => if j < k then ((dig X j : Nat) : Int) else 0)) 31)) (fun i _ => 32 - (intOf i).toNat)
  case atStart => exact ⟨0, Nat.zero_le _, rfl, bW, f2, by rw [fill_start]; exact f3⟩
  case round =>
    clear f2 f3 bW
    obtain ⟨k, hk, rfl, bW, f2, f3⟩ := hrel
    by_cases hlt : k < 32
    · have c2 := blk_cell f3 (arr_get .i64 _ hlt)
      have c3 := blk_frozen (j := k) f3
      have HF := Lib.hid f3
      clear f3
      go_wp2_with fail
      refine (at_ref v n X k wr (HN.out.stays bW) (by omega)).mono ?_
      rintro e w1 ⟨rfl, rfl⟩
      go_wp2_with fail
      refine ⟨⟨k + 1, by omega, by go_num, bW.setCell (by simp) _, blk_other f2 (by omega) _, ?_⟩, by simp only [intOf]; omega⟩
      rw [← fill_step (fun j => ((dig X j : Nat) : Int)) k hlt _ rfl]
      exact blk_set HF.out _
    · obtain rfl : k = 32 := by omega
      rw [fill_end] at f3
      go_wp2_with (refine wpList_load_row rfl 31 (.tmp 3) rfl _ rfl 31 (da X) (0, 0) _ f3 Try.underlying31 rfl (infoArr _) ?_)
      refine (word_ref X _).mono ?_
      rintro e w1 ⟨rfl, b1⟩
      replace f2 := Below.stays b1 f2
      replace bW := bW.trans (b1.mono bW.size)
      go_wp2_with (refine wpList_store_row rfl 24 (.tmp 2) _ rfl _ _ (wa X) rfl rfl f2 Try.infoWa rfl wa_one ?_)
      exact bodyPost_ret (v := wd X) (results_cell_row rfl _ _ _ 24 (wa X) (0, 0) _ rfl (blk_row f2) Try.underlying24 rfl Try.infoWa) rfl ⟨rfl, below_setRow bW (by omega) _⟩

set_option maxHeartbeats 1000000 in
theorem zero_ref (v : Value) (n X : Nat) (w : World) (h : NumS w v n X) : Calls Try.prog 46 #[v] w fun e w' => e = .returned (.bool (decide (X = 0))) ∧ w = w' := by
  obtain ⟨⟨A, c, rfl, hnc, hs⟩, hl, hm⟩ := h
  have HL := Lib.hid hl
  have HS := Lib.hid hs
  clear hl hs
  go_enter Try.func46, Try.ntmps46
  go_wp2_with fail
  go_loop [6] (fun i => ∃ k : Nat, k ≤ n ∧ i = .int .i64 (k : Int) ∧ Hid (X % 256 ^ k = 0)) (fun i => n - (intOf i).toNat)
  case atStart => exact ⟨0, Nat.zero_le _, rfl, Lib.hid (by rw [Nat.pow_zero, Nat.mod_one])⟩
  case round =>
    obtain ⟨k, hk, rfl, hx⟩ := hrel
    by_cases hlt : k < n
    · obtain ⟨b, off, rfl, hb, hc⟩ := HS.out (by omega)
      have c1 := hc k hlt
      have hsx := Lib.hid (low_succ X k)
      clear hc
      by_cases hd : dig X k = 0
      · have hb1 : (((dig X k : Nat) : Int) != 0) = false := by simp [hd]
        have HD := Lib.hid hd
        clear hd
        go_wp2_with fail
        refine ⟨⟨k + 1, by omega, by go_num, Lib.hid ?_⟩, by simp only [intOf]; omega⟩
        rw [hsx.out, hx.out, HD.out, Nat.mul_zero]
      · have hb1 : (((dig X k : Nat) : Int) != 0) = true := by simp [hd]
        have HD := Lib.hid hd
        clear hd
        have HF : Hid (decide (X = 0) = false) := Lib.hid (decide_eq_false fun e => HD.out (by rw [e]; unfold dig; rw [Nat.zero_div]))
        go_wp2_with fail
        go_ret
        exact ⟨by rw [HF.out]; rfl, rfl⟩
    · obtain rfl : k = n := by omega
      have HF : Hid (decide (X = 0) = true) := Lib.hid (decide_eq_true (by rw [← hx.out, Nat.mod_eq_of_lt HL.out]))
      go_wp2_with fail
      go_ret
      exact ⟨by rw [HF.out]; rfl, rfl⟩

set_option maxHeartbeats 2000000 in
theorem less_ref (v u : Value) (n m X Y : Nat) (w : World) (h : NumS w v n X) (g : NumS w u m Y) : Calls Try.prog 47 #[v, u] w fun e w' => e = .returned (.bool (decide (X < Y))) ∧ w = w' := by
  have h' := h
  have g' := g
  obtain ⟨⟨A, c, rfl, hnc, _⟩, hl, hm⟩ := h
  obtain ⟨⟨A', c', rfl, hnc', _⟩, gl, gm⟩ := g
  obtain ⟨t, ht, h1, h2⟩ : ∃ t : Nat, max (n : Int) (m : Int) = (t : Int) ∧ n ≤ t ∧ m ≤ t := ⟨max n m, by omega, by omega, by omega⟩
  have ht2 : t ≤ 1000 := by omega
  have hx : X / 256 ^ t = Y / 256 ^ t := by
    rw [Nat.div_eq_of_lt (Nat.lt_of_lt_of_le hl (Nat.pow_le_pow_right (by decide) h1)), Nat.div_eq_of_lt (Nat.lt_of_lt_of_le gl (Nat.pow_le_pow_right (by decide) h2))]
  have HX := Lib.hid hx
  have HA := Lib.hid h'
  have HB := Lib.hid g'
  clear hx h' g' hl gl
  go_enter Try.func47, Try.ntmps47
  go_wp2_with fail
  clear ht
  go_loop [5] (fun i => ∃ k : Nat, k ≤ t ∧ i = .int .i64 ((k : Int) - 1) ∧ Hid (X / 256 ^ k = Y / 256 ^ k)) (fun i => (intOf i + 1).toNat)
  case atStart => exact ⟨t, Nat.le_refl _, rfl, HX⟩
  case round =>
    obtain ⟨k, hk, rfl, hx⟩ := hrel
    cases k with
    | zero =>
      have HF : Hid (decide (X < Y) = false) := Lib.hid (decide_eq_false (by have := hx.out; rw [Nat.pow_zero, Nat.div_one, Nat.div_one] at this; omega))
      go_wp2_with fail
      go_ret
      exact ⟨by rw [HF.out]; rfl, rfl⟩
    | succ j =>
      rw [show (((j + 1 : Nat) : Int) - 1) = (j : Int) by omega]
      by_cases hd : dig X j = dig Y j
      · have hb1 : (((dig X j : Nat) : Int) != ((dig Y j : Nat) : Int)) = false := by simp [hd]
        have HN := Lib.hid (less_same hx.out hd)
        clear hd
        go_wp2_with (first | (go_at_call_of 49 (Value.slice A n c); refine (at_ref _ n X j _ HA.out (by omega)).mono ?_; rintro e w' ⟨rfl, rfl⟩) | (go_at_call 49; refine (at_ref _ m Y j _ HB.out (by omega)).mono ?_; rintro e w' ⟨rfl, rfl⟩))
        exact ⟨⟨j, by omega, rfl, HN⟩, by simp only [intOf]; omega⟩
      · have hb1 : (((dig X j : Nat) : Int) != ((dig Y j : Nat) : Int)) = true := by simp; omega
        have HF : Hid (decide (X < Y) = decide (dig X j < dig Y j)) := Lib.hid (decide_eq_decide.2 (less_here hx.out hd))
        clear hd
        go_wp2_with (first | (go_at_call_of 49 (Value.slice A n c); refine (at_ref _ n X j _ HA.out (by omega)).mono ?_; rintro e w' ⟨rfl, rfl⟩) | (go_at_call 49; refine (at_ref _ m Y j _ HB.out (by omega)).mono ?_; rintro e w' ⟨rfl, rfl⟩))
        go_ret
        exact ⟨by rw [HF.out]; rfl, rfl⟩
end Go.Proofs.Ytlobchkbkdjccaa
