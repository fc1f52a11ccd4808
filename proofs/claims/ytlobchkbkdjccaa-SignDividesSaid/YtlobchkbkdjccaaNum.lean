/- Numbers of any length as the document's slices of digits to the base 256: how they lie in memory. -/
import Derived.Test.YtlobchkbkdjccaaRefW
import Derived.Laws.AppendOwn
import Derived.Deep.LoopGhost
import Derived.Deep.DeepCutAuto
import Derived.Deep.WholeRow
namespace Go.Proofs.Ytlobchkbkdjccaa
open Go.RowKit SmWord
set_option maxRecDepth 100000

/-- v is a slice of n digits, and their number is X. -/
structure NumS (w : World) (v : Value) (n X : Nat) : Prop where
  sl : ∃ A c, v = .slice A n c ∧ n ≤ c ∧ (0 < n → ∃ b off, A = some ⟨b, off, none⟩ ∧ b < w.heap.size ∧ ∀ i, i < n → w.cell? ⟨b, off + i, none⟩ = some (.int .i64 ((dig X i : Nat) : Int)))
  lt : X < 256 ^ n
  small : n ≤ 1000
theorem NumS.below {w w' : World} {v : Value} {n X : Nat} (h : NumS w v n X) {B : Nat} (hb : Below B w w') (hB : w.heap.size ≤ B) : NumS w' v n X := by
  obtain ⟨⟨A, c, rfl, hnc, hs⟩, hl, hm⟩ := h
  refine ⟨⟨A, c, rfl, hnc, fun hn => ?_⟩, hl, hm⟩
  obtain ⟨b, off, e, hlt, hc⟩ := hs hn
  exact ⟨b, off, e, Nat.lt_of_lt_of_le hlt hb.size, fun i hi => (hb.cell (p := ⟨b, off + i, none⟩) (Nat.lt_of_lt_of_le hlt hB)).trans (hc i hi)⟩
theorem NumS.stays {w w' : World} {v : Value} {n X : Nat} (h : NumS w v n X) (hb : Below w.heap.size w w') : NumS w' v n X := h.below hb (Nat.le_refl _)
/-- The n lowest digits, one behind the other. -/
def dg (X n : Nat) : List Value := (List.range n).map fun i => .int .i64 ((dig X i : Nat) : Int)
theorem dg_length (X n : Nat) : (dg X n).length = n := by simp [dg]
theorem dg_succ (X n : Nat) : dg X n ++ [.int .i64 ((dig X n : Nat) : Int)] = dg X (n + 1) := by simp [dg, List.range_succ]
theorem dg_get {X n i : Nat} (h : i < n) : (dg X n)[i]? = some (.int .i64 ((dig X i : Nat) : Int)) := by simp [dg, h]
theorem NumS.of_owns {w : World} {base : Nat} {v : Value} {n X : Nat} (h : w.ownsRow base 3 1 v n (dg X n)) (hl : X < 256 ^ n) (hn : n ≤ 1000) : NumS w v n X := by
  obtain ⟨hlen, h⟩ := h
  rcases h with ⟨rfl, rfl⟩ | ⟨g, cap, cur, rfl, hb, hc, h1, h2, h3, h4⟩
  · exact ⟨⟨none, 0, rfl, Nat.le_refl _, fun h => absurd h (by omega)⟩, hl, hn⟩
  · refine ⟨⟨_, cap, rfl, h1, fun _ => ⟨g, 0, rfl, (Array.getElem?_eq_some_iff.1 hc).1, fun i hi => ?_⟩⟩, hl, hn⟩
    rw [Nat.zero_add]
    refine blk_cell hc ?_
    have := dg_get (X := X) hi
    rw [← h4, Nat.mul_one, List.getElem?_take, if_pos hi] at this
    simpa using this
theorem Try.info3 : (Try.prog.info? 3).map (fun i => (i.zero, i.size, i.bytes)) = some (some (.int .i64 0), 1, 8) := by kernel_rfl
theorem dig_high {X n i : Nat} (h : X < 256 ^ n) (hi : n ≤ i) : dig X i = 0 := by
  unfold dig
  rw [Nat.div_eq_of_lt (Nat.lt_of_lt_of_le h (Nat.pow_le_pow_right (by decide) hi))]

set_option maxHeartbeats 1000000 in
theorem at_ref (v : Value) (n X i : Nat) (w : World) (h : NumS w v n X) (hi : i ≤ 1000000) :
    Calls Try.prog 49 #[v, .int .i64 (i : Int)] w fun e w' => e = .returned (.int .i64 ((dig X i : Nat) : Int)) ∧ w = w' := by
  obtain ⟨⟨A, c, rfl, _, hs⟩, hl, hm⟩ := h
  by_cases hlt : i < n
  · obtain ⟨b, off, rfl, hb, hc⟩ := hs (by omega)
    have c1 := hc i hlt
    clear hc hl
    go_enter Try.func49, Try.ntmps49
    go_wp2_with fail
    go_ret
    exact ⟨rfl, rfl⟩
  · rw [dig_high hl (by omega)]
    clear hs hl
    go_enter Try.func49, Try.ntmps49
    go_wp2_with fail
    go_ret
    exact ⟨rfl, rfl⟩

theorem own_empty (w : World) {base : Nat} (hb : base ≤ w.heap.size) : (w.alloc (.cells #[] 3)).ownsRow base 3 1 (.slice (some ⟨w.heap.size, 0, none⟩) 0 0) 0 [] :=
  ⟨rfl, .inr ⟨w.heap.size, 0, #[], rfl, hb, heap_alloc_new _ _, Nat.le_refl _, Nat.zero_le _, rfl, rfl⟩⟩
theorem own_one (w : World) (x : Value) : ∀ j u, [x][j]? = some u → (w.alloc (.cells #[x] 3)).cell? ((⟨w.heap.size, 0, none⟩ : Addr).add j) = some u := fun j u h => by
  cases j with
  | zero =>
    have hu : u = x := by simpa using h.symm
    subst hu
    exact blk_cell (heap_alloc_new _ _) rfl
  | succ j => simp at h
/-- What returns a number. -/
def RetN (n X : Nat) (w : World) (e : Ending) (w' : World) : Prop := ∃ v, e = .returned v ∧ NumS w' v n X ∧ Below w.heap.size w w'

set_option maxHeartbeats 1000000 in
theorem nof_ref (m : Nat) (w : World) : Calls Try.prog 32 #[wd m] w (RetN 32 (m % M) w) := by
  obtain ⟨i0, hi, hz0, hz1, hz2⟩ := info_parts Try.info3
  go_enter Try.func32, Try.ntmps32
  go_upto_region 1 with fail
  have f1 : (w.alloc (.cells (wa m) 24)).heap[w.heap.size]? = some (.cells (wa m) 24) := heap_alloc_new _ _
  have bW : Below w.heap.size w (w.alloc (.cells (wa m) 24)) := (Below.refl _ _).alloc (Nat.le_refl _) _
  generalize w.alloc (.cells (wa m) 24) = W at *
  go_wp2_with (refine wpList_load_row rfl 24 _ rfl _ rfl 24 _ (0, 0) _ (by assumption) Try.underlying24 rfl Try.infoWa ?_)
  refine (of_ref m _).mono ?_
  rintro e w1 ⟨rfl, b1⟩
  replace bW := bW.trans (b1.mono bW.size)
  clear b1 f1
  go_upto_region 2 with (first | (refine wpList_alloc_row rfl 31 rfl zD zD_run ?_) | (refine wpList_store_row rfl 31 (.tmp 3) _ rfl _ zD (da m) rfl rfl (heap_alloc_new _ _) (infoArr _) rfl (arr_one _ _ _) ?_))
  rw [World.setRow_alloc_new]
  simp only [Act.put]
  have f3 : (w1.alloc (.cells (da m) 31)).heap[w1.heap.size]? = some (.cells (da m) 31) := heap_alloc_new _ _
  have s3 : w1.heap.size + 1 ≤ (w1.alloc (.cells (da m) 31)).heap.size := by simp
  have l3 := bW.size
  replace bW : Below w.heap.size w (w1.alloc (.cells (da m) 31)) := bW.alloc bW.size _
  generalize w1.alloc (.cells (da m) 31) = w2 at *
  generalize w1.heap.size = b3 at *
  go_wp2_with fail
  go_loopw [4, 5] (fun v i wr => ∃ k : Nat, k ≤ 32 ∧ i = .int .i64 (k : Int) ∧ wr.ownsRow (b3 + 1) 3 1 v k (dg (m % M) k) ∧ wr.heap[b3]? = some (.cells (da m) 31) ∧ Below w.heap.size w wr ∧ b3 + 1 ≤ wr.heap.size) (fun _ i _ => 32 - (intOf i).toNat)
  case atStart => exact ⟨0, Nat.zero_le _, rfl, own_empty _ (by omega), blk_alloc f3, bW.alloc (by omega) _, by simp; omega⟩
  case round =>
    clear f3 bW s3
    obtain ⟨k, hk, rfl, hown, f3, bW, s3⟩ := hrel
    by_cases hlt : k < 32
    · have c1 := blk_cell f3 (arr_get .i64 (fun i => ((dig m i : Nat) : Int)) hlt)
      have hd : dig m k = dig (m % M) k := dig_congr (by rw [Nat.mod_mod]) hlt
      rw [hd] at c1
      have HD := Lib.hid hd
      clear hd
      go_wp2_with (at_builtin; refine wpList_append_own _ rfl _ _ 45 rfl (b3 + 1) 3 i0 (.int .i64 0) 1 8 Try.underlying45 hi hz0 hz1 hz2 rfl (by decide) _ _ _ rfl (hown.alloc _) ⟨wr.heap.size, 0, none⟩ 1 1 [.int .i64 ((dig (m % M) k : Nat) : Int)] rfl rfl ?c1 ?c2 ?c3 ?c4 ?c5 ?_)
      case c1 => exact own_one _ _
      case c2 => simp [Value.oneCell']
      case c3 => unfold maxLen; omega
      case c4 => omega
      case c5 => simp; omega
      intro v' w3 hown' hgrow _
      rw [dg_succ] at hown'
      have hr := fun g hg => (hown.lt g hg).1
      have f3' : w3.heap[b3]? = some (.cells (da m) 31) := by
        rw [hgrow.block b3 (by simp; omega) (fun e => by have := hr b3 e.symm; omega)]
        exact blk_alloc f3
      have bX : Below w.heap.size w w3 := (bW.alloc (o := .cells #[.int .i64 ((dig (m % M) k : Nat) : Int)] 3) (by omega)).grown hgrow (by simp; omega) (fun g hg => by have := hr g hg; omega)
      have s3' := hgrow.size
      simp only [World.size_alloc] at s3'
      clear hown hgrow f3 bW c1 hr
      go_wp2_with fail
      exact ⟨⟨k + 1, by omega, by go_num, hown', f3', bX, by omega⟩, by simp only [intOf]; omega⟩
    · obtain rfl : k = 32 := by omega
      go_wp2_with fail
      go_ret
      exact ⟨_, rfl, NumS.of_owns hown (by rw [← M_256]; exact Nat.mod_lt _ (by decide)) (by omega), bW⟩
end Go.Proofs.Ytlobchkbkdjccaa
