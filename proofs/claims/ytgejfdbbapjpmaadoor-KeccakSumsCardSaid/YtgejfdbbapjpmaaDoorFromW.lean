/- What the function From of package word, and the document's, do with any bytes: the word whose bytes end with them, the highest first; all older memory is as it was. -/
import Derived.Test.YtgejfdbbapjpmaaDoorRefW
import Derived.Test.YtgejfdbbapjpmaaDoorFromM
import Derived.Test.YtgejfdbbapjpmaaDoorShiftR
import Derived.Deep.LoopGhost
namespace Go.Proofs.YtgejfdbbapjpmaaDoor
open Go.RowKit SmWord
set_option maxRecDepth 100000

/-- What a slice of bytes holds, a nil one too. -/
structure Sl (w : World) (A : Option Addr) (n : Nat) (f : Nat → Nat) : Prop where
  small : ∀ i, i < n → f i < 256
  cells : 0 < n → ∃ b off, A = some ⟨b, off, none⟩ ∧ b < w.heap.size ∧ ∀ i, i < n → w.cell? ⟨b, off + i, none⟩ = some (.int .u8 ((f i : Nat) : Int))
theorem Sl.below {w w' : World} {A : Option Addr} {n : Nat} {f : Nat → Nat} (h : Sl w A n f) (hb : Below w.heap.size w w') : Sl w' A n f :=
  ⟨h.small, fun hn => by
    obtain ⟨b, off, e, hlt, hc⟩ := h.cells hn
    exact ⟨b, off, e, Nat.lt_of_lt_of_le hlt hb.size, fun i hi => (hb.cell (p := ⟨b, off + i, none⟩) hlt).trans (hc i hi)⟩⟩
/-- The digits of a slice of bytes, the lowest first. -/
def gd (f : Nat → Nat) (n i : Nat) : Nat := f (n - 1 - i)
theorem gd_small {w : World} {A : Option Addr} {n : Nat} {f : Nat → Nat} (h : Sl w A n f) {k : Nat} (hk : k ≤ n) : ∀ i, i < k → gd f n i < 256 := fun i hi => h.small _ (by omega)

theorem wa_set (x y q : Nat) (hq : q < 4) (h1 : ∀ j, j < 4 → j ≠ q → lb y j = lb x j) : (wa x).setIfInBounds q (.int .u64 ((lb y q : Nat) : Int)) = wa y := by
  apply Array.ext_getElem?
  intro j
  by_cases hj : j < 4
  · by_cases e : j = q
    · subst e; rw [Array.getElem?_setIfInBounds_self_of_lt (by rw [wa_size]; exact hj), wa_lb y j hj]
    · rw [Array.getElem?_setIfInBounds_ne (fun h => e h.symm), wa_lb x j hj, wa_lb y j hj, h1 j hj e]
  · rw [Array.getElem?_eq_none (by simp [wa_size]; omega), Array.getElem?_eq_none (by rw [wa_size]; omega)]

theorem val_none (f : Nat → Nat) (n : Nat) : wa (val (gd f n) 0) = #[Value.int .u64 0, .int .u64 0, .int .u64 0, .int .u64 0] := by rw [show val (gd f n) 0 = 0 from rfl]; rfl
theorem or_put {x d s : Nat} (hx : x < B) (h : d * 2 ^ s < B) : bits .or .u64 (x : Int) (IntKind.u64.wrap ((d : Int) * 2 ^ s)) = ((x ||| d * 2 ^ s : Nat) : Int) := by
  have e : ((d : Int) * 2 ^ s) = ((d * 2 ^ s : Nat) : Int) := by simp
  have e2 : IntKind.u64.wrap ((d * 2 ^ s : Nat) : Int) = ((d * 2 ^ s : Nat) : Int) := by
    rw [IntKind.wrap_u64]
    simp only [B] at h
    generalize d * 2 ^ s = y at *
    omega
  rw [e, e2, u64_or_nat _ _ hx h]
set_option maxHeartbeats 2000000 in
theorem from_wd (A : Option Addr) (n c mn : Nat) (f : Nat → Nat) (w : World) (hn : n ≤ maxLen) (hmin : min (n : Int) 32 = (mn : Int)) (hs : Sl w A n f) :
    Calls Tryd.prog 18 #[.slice A n c] w fun e w' => e = .returned (wd (val (gd f n) mn)) ∧ Below w.heap.size w w' := by
  have hm1 : mn ≤ n := by omega
  have hm2 : mn ≤ 32 := by omega
  have hn' : n ≤ 9223372036854775807 := hn
  go_enter Tryd.func18, Tryd.ntmps18
  go_wp2_with fail
  have f0 : ((w.alloc (.cells #[Value.int .u64 0, .int .u64 0, .int .u64 0, .int .u64 0] 32)).alloc (.cells #[Value.int .u64 0, .int .u64 0, .int .u64 0, .int .u64 0] 32)).heap[w.heap.size]? = some (.cells #[Value.int .u64 0, .int .u64 0, .int .u64 0, .int .u64 0] 32) := blk_alloc (heap_alloc_new _ _)
  have f1 : ((w.alloc (.cells #[Value.int .u64 0, .int .u64 0, .int .u64 0, .int .u64 0] 32)).alloc (.cells #[Value.int .u64 0, .int .u64 0, .int .u64 0, .int .u64 0] 32)).heap[w.heap.size + 1]? = some (.cells #[Value.int .u64 0, .int .u64 0, .int .u64 0, .int .u64 0] 32) := heap_alloc2_new _ _ _
  have bW : Below w.heap.size w ((w.alloc (.cells #[Value.int .u64 0, .int .u64 0, .int .u64 0, .int .u64 0] 32)).alloc (.cells #[Value.int .u64 0, .int .u64 0, .int .u64 0, .int .u64 0] 32)) := ((Below.refl _ _).alloc (Nat.le_refl _) _).alloc (by simp) _
  generalize ((w.alloc (.cells #[Value.int .u64 0, .int .u64 0, .int .u64 0, .int .u64 0] 32)).alloc (.cells #[Value.int .u64 0, .int .u64 0, .int .u64 0, .int .u64 0] 32)) = W at *
  clear hmin
  go_loopw [9] (fun i wr => ∃ k : Nat, k ≤ mn ∧ i = .int .i64 k ∧ Below w.heap.size w wr ∧ wr.heap[w.heap.size]? = some (.cells #[Value.int .u64 0, .int .u64 0, .int .u64 0, .int .u64 0] 32) ∧ wr.heap[w.heap.size + 1]? = some (.cells (wa (val (gd f n) k)) 32)) (fun i _ => mn - (intOf i).toNat)
  case atStart => exact ⟨0, Nat.zero_le _, rfl, bW, f0, f1.trans (by rw [val_none])⟩
  case round =>
    obtain ⟨k, hk, rfl, hb, hr, hd⟩ := hrel
    clear f0 f1 bW
    by_cases hlt : k < mn
    · have hq : k / 8 < 4 := by omega
      have c1 := blk_cell hd (wa_lb _ _ hq)
      have c3 := blk_frozen (j := k / 8) hd
      obtain ⟨b, off, rfl, hbl, hc⟩ := (hs.below hb).cells (by omega)
      have c2 := hc (n - 1 - k) (by omega)
      have HH := Lib.hid (lb_here (g := gd f n) (k := k) (gd_small hs (by omega)))
      have HO := Lib.hid (fun q => lb_other (g := gd f n) (k := k) (q := q) (gd_small hs (by omega)))
      have hf := hs.small (n - 1 - k) (by omega)
      have HR := Lib.hid hr
      have HD := Lib.hid hd
      have HB := Lib.hid hb
      have HS := Lib.hid hs
      clear hr hd hb hc hs
      have e1 : (n : Int) - 1 - (k : Int) = ((n - 1 - k : Nat) : Int) := by omega
      have i1 : n - 1 - k < n := by omega
      have hg : gd f n k = f (n - 1 - k) := rfl
      rw [hg] at HH
      clear hg
      generalize n - 1 - k = j at *
      go_wp2_with fail
      obtain ⟨H1, H2, H3⟩ := HH.out
      rw [or_put (show lb (val (gd f n) k) (k / 8) < B from Nat.mod_lt _ (by decide)) H3, ← H2]
      refine ⟨⟨k + 1, by omega, by go_num, HB.out.setCell (by simp) _, blk_other HR.out (by omega) _, ?_⟩, by simp [intOf]; omega⟩
      rw [← wa_set (val (gd f n) k) (val (gd f n) (k + 1)) (k / 8) hq (fun q _ hne => HO.out q hne)]
      exact blk_set HD.out _
    · obtain rfl : k = mn := by omega
      have HB := Lib.hid hb
      clear hb
      go_wp2_with (first | (refine wpList_load_row rfl 32 _ rfl _ rfl 32 (wa (val (gd f n) k)) (0, 0) _ hd Tryd.underlying32 rfl Tryd.infoWa ?_) | (refine wpList_store_row rfl 32 _ _ rfl _ #[Value.int .u64 0, .int .u64 0, .int .u64 0, .int .u64 0] (wa (val (gd f n) k)) rfl rfl hr Tryd.infoWa rfl wa_one ?_))
      refine bodyPost_ret (v := wd (val (gd f n) k)) (results_cell_row rfl _ _ _ 32 (wa (val (gd f n) k)) (0, 0) _ rfl (blk_row hr) Tryd.underlying32 rfl Tryd.infoWa) rfl ⟨rfl, below_setRow HB.out (by omega) _⟩

theorem val_digits {f : Nat → Nat} {n mn : Nat} (h : ∀ i, i < mn → gd f n i < 256) : arr .i64 32 (fun j => if j < mn then ((gd f n j : Nat) : Int) else 0) = da (val (gd f n) mn) :=
  arr_congr fun i _ => by
    by_cases hi : i < mn
    · rw [if_pos hi, dig_val h hi]
    · rw [if_neg hi, dig_val_high h (by omega)]; rfl
set_option maxHeartbeats 2000000 in
theorem from_ref_walk (A : Option Addr) (n c mn V : Nat) (f : Nat → Nat) (w : World) (hn : n ≤ maxLen) (hmin : mn = min n 32) (hs : Sl w A n f) (HV : Hid (arr .i64 32 (fun j => if j < mn then ((gd f n j : Nat) : Int) else 0) = da V)) :
    Calls Tryd.prog 19 #[.slice A n c] w fun e w' => e = .returned (.agg (da V)) ∧ Below w.heap.size w w' := by
  have hm1 : mn ≤ n := by omega
  have hm2 : mn ≤ 32 := by omega
  have hn' : n ≤ 9223372036854775807 := hn
  go_enter Tryd.func19, Tryd.ntmps19
  go_wp2_with (first | (refine wpList_alloc_row rfl 45 rfl zD zD_run ?_) | (refine wpList_build_zero rfl 45 rfl Tryd.underlying45 Tryd.sizeOf3 zD zD_run ?_) | (refine wpList_store_row rfl 45 _ _ rfl _ zD zD rfl rfl (heap_alloc_new _ _) (infoArr _) rfl (arr_one _ _ _) ?_))
  have f0 : (((w.alloc (.cells zD 45)).alloc (.cells zD 45)).setRow (w.heap.size + 1) zD).heap[w.heap.size]? = some (.cells zD 45) := blk_row_other (blk_alloc (by have := heap_alloc_new w (.cells zD 45); simpa using this)) (by omega)
  have f1 : (((w.alloc (.cells zD 45)).alloc (.cells zD 45)).setRow (w.heap.size + 1) zD).heap[w.heap.size + 1]? = some (.cells zD 45) := blk_row (by have := heap_alloc_new (w.alloc (.cells zD 45)) (.cells zD 45); simpa using this)
  have bW : Below w.heap.size w (((w.alloc (.cells zD 45)).alloc (.cells zD 45)).setRow (w.heap.size + 1) zD) := below_setRow (((Below.refl _ _).alloc (by simp; try omega) _).alloc (by simp; try omega) _) (by omega) _
  generalize (((w.alloc (.cells zD 45)).alloc (.cells zD 45)).setRow (w.heap.size + 1) zD) = W at *
  go_loopw [4] (fun i wr => ∃ k : Nat, k ≤ mn ∧ i = .int .i64 k ∧ Below w.heap.size w wr ∧ wr.heap[w.heap.size]? = some (.cells zD 45) ∧ wr.heap[w.heap.size + 1]? = some (.cells (arr .i64 32 (fun j => if j < k then ((gd f n j : Nat) : Int) else 0)) 45)) (fun i _ => mn - (intOf i).toNat)
  case atStart => exact ⟨0, Nat.zero_le _, rfl, bW, f0, by rw [fill_start]; exact f1⟩
  case round =>
    obtain ⟨k, hk, rfl, hb, hr, hd⟩ := hrel
    clear f0 f1 bW
    by_cases hlt : k < mn
    · have hk32 : k < 32 := by omega
      have hkn : k < n := by omega
      have c1 := blk_cell hd (arr_get .i64 _ hk32)
      have c3 := blk_frozen (j := k) hd
      obtain ⟨b, off, rfl, hbl, hc⟩ := (hs.below hb).cells (by omega)
      have c2 := hc (n - 1 - k) (by omega)
      have hf := hs.small (n - 1 - k) (by omega)
      have HR := Lib.hid hr
      have HD := Lib.hid hd
      have HB := Lib.hid hb
      have HS := Lib.hid hs
      clear hr hd hb hc hs hmin HV
      have e1 : (n : Int) - 1 - (k : Int) = ((n - 1 - k : Nat) : Int) := by omega
      have i1 : n - 1 - k < n := by omega
      have HG : Hid (f (n - 1 - k) = gd f n k) := Lib.hid rfl
      generalize n - 1 - k = j at *
      go_wp2_with fail
      refine ⟨⟨k + 1, by omega, by go_num, HB.out.setCell (by simp) _, blk_other HR.out (by omega) _, ?_⟩, by simp [intOf]; omega⟩
      rw [← fill_step (fun j => ((gd f n j : Nat) : Int)) k hk32 ((f j : Nat) : Int) (by rw [HG.out])]
      exact blk_set HD.out _
    · obtain rfl : k = mn := by omega
      rw [HV.out] at hd
      clear HV hs
      have HB := Lib.hid hb
      clear hb
      have h32 : k = 32 ∨ (n = k ∧ k < 32) := by omega
      clear hmin hlt hk
      rcases h32 with rfl | ⟨rfl, h32⟩
      · go_wp2_with (first | (refine wpList_load_row rfl 45 _ rfl _ rfl 45 (da V) (0, 0) _ hd Tryd.underlying45 rfl (infoArr _) ?_) | (refine wpList_store_row rfl 45 _ _ rfl _ zD (da V) rfl rfl hr (infoArr _) rfl (arr_one _ _ _) ?_))
        refine bodyPost_ret (v := .agg (da V)) (results_cell_row rfl _ _ _ 45 (da V) (0, 0) _ rfl (blk_row hr) Tryd.underlying45 rfl (infoArr _)) rfl ⟨rfl, below_setRow HB.out (by omega) _⟩
      · go_wp2_with (first | (refine wpList_load_row rfl 45 _ rfl _ rfl 45 (da V) (0, 0) _ hd Tryd.underlying45 rfl (infoArr _) ?_) | (refine wpList_store_row rfl 45 _ _ rfl _ zD (da V) rfl rfl hr (infoArr _) rfl (arr_one _ _ _) ?_))
        refine bodyPost_ret (v := .agg (da V)) (results_cell_row rfl _ _ _ 45 (da V) (0, 0) _ rfl (blk_row hr) Tryd.underlying45 rfl (infoArr _)) rfl ⟨rfl, below_setRow HB.out (by omega) _⟩
theorem from_ref (A : Option Addr) (n c mn : Nat) (f : Nat → Nat) (w : World) (hn : n ≤ maxLen) (hmin : mn = min n 32) (hs : Sl w A n f) :
    Calls Tryd.prog 19 #[.slice A n c] w fun e w' => e = .returned (.agg (da (val (gd f n) mn))) ∧ Below w.heap.size w w' :=
  from_ref_walk A n c mn _ f w hn hmin hs (val_digits (gd_small hs (by omega)))
end Go.Proofs.YtgejfdbbapjpmaaDoor
