/- What the function From of package word, and the document's, do with any bytes: the word whose bytes end with them, the highest first; all older memory is as it was. -/
import Derived.Test.YtfpeliolngfkpaaRefW
import Derived.Test.YtfpeliolngfkpaaFromM
import Derived.Test.YtfpeliolngfkpaaShiftR
import Derived.Deep.LoopGhost
namespace Go.Proofs.Ytfpeliolngfkpaa
open Go.RowKit SmWord
set_option maxRecDepth 100000

/-- What a slice of bytes holds, a nil one too. -/
structure Sl (w : World) (A : Option Addr) (n : Nat) (f : Nat → Nat) : Prop where
  small : ∀ i, i < n → f i < 256
  cells : 0 < n → ∃ b off, A = some ⟨b, off, none⟩ ∧ b < w.heap.size ∧ ∀ i, i < n → w.cell? ⟨b, off + i, none⟩ = some (.int .u8 ((f i : Nat) : Int))
theorem Sl.below {w w' : World} {A : Option Addr} {n : Nat} {f : Nat → Nat} (h : Sl w A n f) (hb : Below w.heap.size w w') : Sl w' A n f :=
  ⟨h.small, fun hn => by
    obtain ⟨b, off, e, hlt, hc⟩ := h.cells hn
    exact ⟨b, off, e, Nat.lt_of_lt_of_le hlt hb.size, fun i hi => (hb.cell (p := ⟨b, off + i, none⟩) hlt).trans (hc i hi)⟩⟩
/-- The digits of a slice of bytes, the lowest first. -/
def gd (f : Nat → Nat) (n i : Nat) : Nat := f (n - 1 - i)
theorem gd_small {w : World} {A : Option Addr} {n : Nat} {f : Nat → Nat} (h : Sl w A n f) {k : Nat} (hk : k ≤ n) : ∀ i, i < k → gd f n i < 256 := fun i hi => h.small _ (by omega)

theorem wa_set (x y q : Nat) (hq : q < 4) (h1 : ∀ j, j < 4 → j ≠ q → lb y j = lb x j) : (wa x).setIfInBounds q (.int .u64 ((lb y q : Nat) : Int)) = wa y := by
  apply Array.ext_getElem?
  intro j
  by_cases hj : j < 4
  · by_cases e : j = q
    · subst e; rw [Array.getElem?_setIfInBounds_self_of_lt (by rw [wa_size]; exact hj), wa_lb y j hj]
    · rw [Array.getElem?_setIfInBounds_ne (fun h => e h.symm), wa_lb x j hj, wa_lb y j hj, h1 j hj e]
  · rw [Array.getElem?_eq_none (by simp [wa_size]; omega), Array.getElem?_eq_none (by rw [wa_size]; omega)]

theorem val_none (f : Nat → Nat) (n : Nat) : wa (val (gd f n) 0) = #[Value.int .u64 0, .int .u64 0, .int .u64 0, .int .u64 0] := by rw [show val (gd f n) 0 = 0 from rfl]; rfl
theorem or_put {x d s : Nat} (hx : x < B) (h : d * 2 ^ s < B) : bits .or .u64 (x : Int) (IntKind.u64.wrap ((d : Int) * 2 ^ s)) = ((x ||| d * 2 ^ s : Nat) : Int) := by
  have e : ((d : Int) * 2 ^ s) = ((d * 2 ^ s : Nat) : Int) := by simp
  have e2 : IntKind.u64.wrap ((d * 2 ^ s : Nat) : Int) = ((d * 2 ^ s : Nat) : Int) := by
    rw [IntKind.wrap_u64]
    simp only [B] at h
    generalize d * 2 ^ s = y at *
    omega
  rw [e, e2, u64_or_nat _ _ hx h]
set_option maxHeartbeats 2000000 in
theorem from_wd (A : Option Addr) (n c mn : Nat) (f : Nat → Nat) (w : World) (hn : n ≤ maxLen) (hmin : min (n : Int) 32 = (mn : Int)) (hs : Sl w A n f) :
    Calls Try.prog 44 #[.slice A n c] w fun e w' => e = .returned (wd (val (gd f n) mn)) ∧ Below w.heap.size w w' := by
  have hm1 : mn ≤ n := by omega
  have hm2 : mn ≤ 32 := by omega
  have hn' : n ≤ 9223372036854775807 := hn
  go_enter Try.func44, Try.ntmps44
  go_wp2_with fail
  have f0 : ((w.alloc (.cells #[Value.int .u64 0, .int .u64 0, .int .u64 0, .int .u64 0] 39)).alloc (.cells #[Value.int .u64 0, .int .u64 0, .int .u64 0, .int .u64 0] 39)).heap[w.heap.size]? = some (.cells #[Value.int .u64 0, .int .u64 0, .int .u64 0, .int .u64 0] 39) := blk_alloc (heap_alloc_new _ _)
  have f1 : ((w.alloc (.cells #[Value.int .u64 0, .int .u64 0, .int .u64 0, .int .u64 0] 39)).alloc (.cells #[Value.int .u64 0, .int .u64 0, .int .u64 0, .int .u64 0] 39)).heap[w.heap.size + 1]? = some (.cells #[Value.int .u64 0, .int .u64 0, .int .u64 0, .int .u64 0] 39) := heap_alloc2_new _ _ _
  have bW : Below w.heap.size w ((w.alloc (.cells #[Value.int .u64 0, .int .u64 0, .int .u64 0, .int .u64 0] 39)).alloc (.cells #[Value.int .u64 0, .int .u64 0, .int .u64 0, .int .u64 0] 39)) := ((Below.refl _ _).alloc (Nat.le_refl _) _).alloc (by simp) _
  generalize ((w.alloc (.cells #[Value.int .u64 0, .int .u64 0, .int .u64 0, .int .u64 0] 39)).alloc (.cells #[Value.int .u64 0, .int .u64 0, .int .u64 0, .int .u64 0] 39)) = W at *
  clear hmin
  go_loopw [9] (fun i wr => ∃ k : Nat, k ≤ mn ∧ i = .int .i64 k ∧ Below w.heap.size w wr ∧ wr.heap[w.heap.size]? = some (.cells #[Value.int .u64 0, .int .u64 0, .int .u64 0, .int .u64 0] 39) ∧ wr.heap[w.heap.size + 1]? = some (.cells (wa (val (gd f n) k)) 39)) (fun i _ => mn - (intOf i).toNat)
  case atStart => exact ⟨0, Nat.zero_le _, rfl, bW, f0, f1.trans (by rw [val_none])⟩
  case round =>
    obtain ⟨k, hk, rfl, hb, hr, hd⟩ := hrel
    clear f0 f1 bW
    by_cases hlt : k < mn
    · have hq : k / 8 < 4 := by omega
      have c1 := blk_cell hd (wa_lb _ _ hq)
      have c3 := blk_frozen (j := k / 8) hd
      obtain ⟨b, off, rfl, hbl, hc⟩ := (hs.below hb).cells (by omega)
      have c2 := hc (n - 1 - k) (by omega)
      have HH := Lib.hid (lb_here (g := gd f n) (k := k) (gd_small hs (by omega)))
      have HO := Lib.hid (fun q => lb_other (g := gd f n) (k := k) (q := q) (gd_small hs (by omega)))
      have hf := hs.small (n - 1 - k) (by omega)
      have HR := Lib.hid hr
      have HD := Lib.hid hd
      have HB := Lib.hid hb
      have HS := Lib.hid hs
      clear hr hd hb hc hs
      have e1 : (n : Int) - 1 - (k : Int) = ((n - 1 - k : Nat) : Int) := by omega
      have i1 : n - 1 - k < n := by omega
      have hg : gd f n k = f (n - 1 - k) := rfl
      rw [hg] at HH
      clear hg
      generalize n - 1 - k = j at *
      go_wp2_with fail
      obtain ⟨H1, H2, H3⟩ := HH.out
      rw [or_put (show lb (val (gd f n) k) (k / 8) < B from Nat.mod_lt _ (by decide)) H3, ← H2]
      refine ⟨⟨k + 1, by omega, by go_num, HB.out.setCell (by simp) _, blk_other HR.out (by omega) _, ?_⟩, by simp [intOf]; omega⟩
      rw [← wa_set (val (gd f n) k) (val (gd f n) (k + 1)) (k / 8) hq (fun q _ hne => HO.out q hne)]
      exact blk_set HD.out _
    · obtain rfl : k = mn := by omega
      have HB := Lib.hid hb
      clear hb
      go_wp2_with (first | (refine wpList_load_row rfl 39 _ rfl _ rfl 39 (wa (val (gd f n) k)) (0, 0) _ hd Try.underlying39 rfl Try.infoWa ?_) | (refine wpList_store_row rfl 39 _ _ rfl _ #[Value.int .u64 0, .int .u64 0, .int .u64 0, .int .u64 0] (wa (val (gd f n) k)) rfl rfl hr Try.infoWa rfl wa_one ?_))
      refine bodyPost_ret (v := wd (val (gd f n) k)) (results_cell_row rfl _ _ _ 39 (wa (val (gd f n) k)) (0, 0) _ rfl (blk_row hr) Try.underlying39 rfl Try.infoWa) rfl ⟨rfl, below_setRow HB.out (by omega) _⟩

theorem val_digits {f : Nat → Nat} {n mn : Nat} (h : ∀ i, i < mn → gd f n i < 256) : arr .i64 32 (fun j => if j < mn then ((gd f n j : Nat) : Int) else 0) = da (val (gd f n) mn) :=
  arr_congr fun i _ => by
    by_cases hi : i < mn
    · rw [if_pos hi, dig_val h hi]
    · rw [if_neg hi, dig_val_high h (by omega)]; rfl
end Go.Proofs.Ytfpeliolngfkpaa
