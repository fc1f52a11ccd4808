/- What the functions Word of package keccak, and of the document's own answers, do: the hash as a word. -/
import Derived.Test.YtgejfdbbapjpmaaDoorKkH
import Derived.Test.YtgejfdbbapjpmaaDoorKkN
namespace Go.Proofs.YtgejfdbbapjpmaaDoor
open Go.RowKit SmWord
set_option maxRecDepth 100000

/-- The hash as a number. -/
def kw (f : Nat → Nat) (n : Nat) : Nat := val (gd (kk f n) 32) 32
theorem ha_sl {w : World} {b : Nat} {f : Nat → Nat} (h : w.heap[b]? = some (.cells (ha f) 29)) (hf : ∀ i, f i < 256) : Sl w (some ⟨b, 0, none⟩) 32 f :=
  ⟨fun i _ => hf i, fun _ => ⟨b, 0, rfl, (Array.getElem?_eq_some_iff.1 h).1, fun i hi => by rw [Nat.zero_add]; exact blk_cell h (arr_get .u8 (fun i => ((f i : Nat) : Int)) hi)⟩⟩
set_option maxHeartbeats 1000000 in
theorem word_core (A : Option Addr) (n c : Nat) (f : Nat → Nat) (w : World) (V : Nat) (hn : n ≤ maxLen) (hc : n ≤ c) (hT : Tab w) (hs : Sl w A n f) (HV : Hid (∀ (w : World) (b : Nat), w.heap[b]? = some (.cells (ha (kk f n)) 29) → Calls Tryd.prog 18 #[.slice (some ⟨b, 0, none⟩) 32 32] w fun e w' => e = .returned (wd V) ∧ Below w.heap.size w w')) :
    Calls Tryd.prog 11 #[.slice A n c] w fun e w' => e = .returned (wd V) ∧ Below w.heap.size w w' := by
  have HS := Lib.hid hs
  have bW : Below w.heap.size w (w.alloc (.cells #[Value.int .u64 0, .int .u64 0, .int .u64 0, .int .u64 0] 32)) := (Below.refl _ _).alloc (Nat.le_refl _) _
  have f0 : (w.alloc (.cells #[Value.int .u64 0, .int .u64 0, .int .u64 0, .int .u64 0] 32)).heap[w.heap.size]? = some (.cells #[Value.int .u64 0, .int .u64 0, .int .u64 0, .int .u64 0] 32) := heap_alloc_new _ _
  have HT := Lib.hid hT
  clear hT hs
  go_enter Tryd.func11, Tryd.ntmps11
  go_wp2_with fail
  generalize w.alloc (.cells #[Value.int .u64 0, .int .u64 0, .int .u64 0, .int .u64 0] 32) = W at *
  have F0 := Lib.hid f0
  have HB := Lib.hid bW
  clear f0 bW
  refine (sum_walk A n c f W hn hc (HT.out.below HB.out) (HS.out.below HB.out)).mono ?_
  rintro e w1 ⟨rfl, b1⟩
  replace F0 := Lib.hid (stay b1 F0.out)
  replace HB := Lib.hid (HB.out.trans (b1.mono HB.out.size))
  clear b1
  have h0 : w.heap.size < w1.heap.size := (Array.getElem?_eq_some_iff.1 F0.out).1
  have f1 : ((w1.alloc (.cells zH 29)).setRow w1.heap.size (ha (kk f n))).heap[w1.heap.size]? = some (.cells (ha (kk f n)) 29) := blk_row (heap_alloc_new _ _)
  have f0 : ((w1.alloc (.cells zH 29)).setRow w1.heap.size (ha (kk f n))).heap[w.heap.size]? = some (.cells #[Value.int .u64 0, .int .u64 0, .int .u64 0, .int .u64 0] 32) := blk_row_other (blk_alloc F0.out) (by omega)
  have bW : Below w.heap.size w ((w1.alloc (.cells zH 29)).setRow w1.heap.size (ha (kk f n))) := below_setRow (HB.out.alloc HB.out.size _) (by omega) _
  clear F0 HB
  go_wp2_with (first | (refine wpList_alloc_row rfl 29 rfl zH zH_run ?_) | (refine wpList_store_row rfl 29 _ _ rfl _ zH (ha (kk f n)) rfl rfl (heap_alloc_new _ _) (infoArrH _) rfl (arr_one _ _ _) ?_))
  generalize ((w1.alloc (.cells zH 29)).setRow w1.heap.size (ha (kk f n))) = W2 at *
  have F1 := Lib.hid f1
  have F0 := Lib.hid f0
  have HB := Lib.hid bW
  clear f0 f1 bW
  refine (HV.out W2 w1.heap.size F1.out).mono ?_
  rintro e w3 ⟨rfl, b3⟩
  have f3 := stay b3 F0.out
  replace HB := Lib.hid (HB.out.trans (b3.mono HB.out.size))
  clear F0 F1 b3
  go_wp2_with (first | (refine wpList_store_row rfl 32 _ _ rfl _ #[Value.int .u64 0, .int .u64 0, .int .u64 0, .int .u64 0] (wa V) rfl rfl f3 Tryd.infoWa rfl wa_one ?_))
  refine bodyPost_ret (v := wd V) (results_cell_row rfl _ _ _ 32 (wa V) (0, 0) _ rfl (blk_row f3) Tryd.underlying32 rfl Tryd.infoWa) rfl ⟨rfl, below_setRow HB.out (Nat.le_refl _) _⟩
set_option maxHeartbeats 1000000 in
theorem rword_core (A : Option Addr) (n c : Nat) (f : Nat → Nat) (w : World) (V : Nat) (hn : n ≤ 100000) (hA : A = none → n = 0 ∧ c = 0) (hs : Sl w A n f) (HV : Hid (∀ (w : World) (b : Nat), w.heap[b]? = some (.cells (ha (kk f n)) 29) → Calls Tryd.prog 19 #[.slice (some ⟨b, 0, none⟩) 32 32] w fun e w' => e = .returned (.agg (da V)) ∧ Below w.heap.size w w')) :
    Calls Tryd.prog 12 #[.slice A n c] w fun e w' => e = .returned (wd V) ∧ Below w.heap.size w w' := by
  have HS := Lib.hid hs
  have bW : Below w.heap.size w (w.alloc (.cells #[Value.int .u64 0, .int .u64 0, .int .u64 0, .int .u64 0] 32)) := (Below.refl _ _).alloc (Nat.le_refl _) _
  have f0 : (w.alloc (.cells #[Value.int .u64 0, .int .u64 0, .int .u64 0, .int .u64 0] 32)).heap[w.heap.size]? = some (.cells #[Value.int .u64 0, .int .u64 0, .int .u64 0, .int .u64 0] 32) := heap_alloc_new _ _
  clear hs
  go_enter Tryd.func12, Tryd.ntmps12
  go_wp2_with fail
  generalize w.alloc (.cells #[Value.int .u64 0, .int .u64 0, .int .u64 0, .int .u64 0] 32) = W at *
  have F0 := Lib.hid f0
  have HB := Lib.hid bW
  clear f0 bW
  refine (rsum_walk A n c f W hn hA (HS.out.below HB.out)).mono ?_
  rintro e w1 ⟨rfl, b1⟩
  replace F0 := Lib.hid (stay b1 F0.out)
  replace HB := Lib.hid (HB.out.trans (b1.mono HB.out.size))
  clear b1
  have h0 : w.heap.size < w1.heap.size := (Array.getElem?_eq_some_iff.1 F0.out).1
  have f1 : ((w1.alloc (.cells zH 29)).setRow w1.heap.size (ha (kk f n))).heap[w1.heap.size]? = some (.cells (ha (kk f n)) 29) := blk_row (heap_alloc_new _ _)
  have f0 : ((w1.alloc (.cells zH 29)).setRow w1.heap.size (ha (kk f n))).heap[w.heap.size]? = some (.cells #[Value.int .u64 0, .int .u64 0, .int .u64 0, .int .u64 0] 32) := blk_row_other (blk_alloc F0.out) (by omega)
  have bW : Below w.heap.size w ((w1.alloc (.cells zH 29)).setRow w1.heap.size (ha (kk f n))) := below_setRow (HB.out.alloc HB.out.size _) (by omega) _
  clear F0 HB
  go_wp2_with (first | (refine wpList_alloc_row rfl 29 rfl zH zH_run ?_) | (refine wpList_store_row rfl 29 _ _ rfl _ zH (ha (kk f n)) rfl rfl (heap_alloc_new _ _) (infoArrH _) rfl (arr_one _ _ _) ?_))
  generalize ((w1.alloc (.cells zH 29)).setRow w1.heap.size (ha (kk f n))) = W2 at *
  have F1 := Lib.hid f1
  have F0 := Lib.hid f0
  have HB := Lib.hid bW
  clear f0 f1 bW
  refine (HV.out W2 w1.heap.size F1.out).mono ?_
  rintro e w3 ⟨rfl, b3⟩
  replace F0 := Lib.hid (stay b3 F0.out)
  replace HB := Lib.hid (HB.out.trans (b3.mono HB.out.size))
  clear F1 b3
  go_wp2_with fail
  refine (word_ref V w3).mono ?_
  rintro e w4 ⟨rfl, b4⟩
  have f3 := stay b4 F0.out
  replace HB := Lib.hid (HB.out.trans (b4.mono HB.out.size))
  clear F0 b4
  go_wp2_with (first | (refine wpList_store_row rfl 32 _ _ rfl _ #[Value.int .u64 0, .int .u64 0, .int .u64 0, .int .u64 0] (wa V) rfl rfl f3 Tryd.infoWa rfl wa_one ?_))
  refine bodyPost_ret (v := wd V) (results_cell_row rfl _ _ _ 32 (wa V) (0, 0) _ rfl (blk_row f3) Tryd.underlying32 rfl Tryd.infoWa) rfl ⟨rfl, below_setRow HB.out (Nat.le_refl _) _⟩
theorem word_walk (A : Option Addr) (n c : Nat) (f : Nat → Nat) (w : World) (hn : n ≤ maxLen) (hc : n ≤ c) (hT : Tab w) (hs : Sl w A n f) :
    Calls Tryd.prog 11 #[.slice A n c] w fun e w' => e = .returned (wd (kw f n)) ∧ Below w.heap.size w w' :=
  word_core A n c f w _ hn hc hT hs (Lib.hid fun W b h => from_wd (some ⟨b, 0, none⟩) 32 32 32 (kk f n) W (by decide) rfl (ha_sl h (kk_lt f n)))
theorem rword_walk (A : Option Addr) (n c : Nat) (f : Nat → Nat) (w : World) (hn : n ≤ 100000) (hA : A = none → n = 0 ∧ c = 0) (hs : Sl w A n f) :
    Calls Tryd.prog 12 #[.slice A n c] w fun e w' => e = .returned (wd (kw f n)) ∧ Below w.heap.size w w' :=
  rword_core A n c f w _ hn hA hs (Lib.hid fun W b h => from_ref (some ⟨b, 0, none⟩) 32 32 32 (kk f n) W (by decide) rfl (ha_sl h (kk_lt f n)))
end Go.Proofs.YtgejfdbbapjpmaaDoor
