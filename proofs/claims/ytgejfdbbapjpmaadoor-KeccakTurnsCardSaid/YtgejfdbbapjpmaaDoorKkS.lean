/- The statement KeccakEnds at every two bytes. -/
import Derived.Test.YtgejfdbbapjpmaaDoorKkR
import Derived.Deep.OwnRows
namespace Go.Proofs.YtgejfdbbapjpmaaDoor
open Go.RowKit SmWord
set_option maxRecDepth 100000

theorem Tryd.make_bytes (n : Nat) (hn : n ≤ 140737488355328) (w : World) :
    (Instr.makeSlice 27 (.int .i64 (n : Int)) (.int .i64 (n : Int))).run Tryd.prog w = .ok (.slice (some ⟨w.heap.size, 0, none⟩) n n) (w.alloc (.cells (arr .u8 n (fun _ => 0)) 5)) := by
  have e : madeCells #[Value.int .u8 0] n = arr .u8 n (fun _ => 0) := by
    apply Array.ext
    · simp [arr_size, size_madeCells]
    · intro i h1 h2
      simp [arr, madeCells, Nat.mod_one]
  rw [← e]
  exact _root_.Go.run_make_row' 27 5 (.int .u8 0) 1 Tryd.underlying27 Tryd.info8 rfl .i64 .i64 n (by omega) (by omega) w
/-- What is written: c, c + 1, .. -/
def en (c i : Nat) : Nat := (c + i) % 256
def ek (c k i : Nat) : Nat := if i < k then en c i else 0
theorem ek_next (c m : Nat) {k : Nat} (h : k < m) : (arr .u8 m (fun i => ((ek c k i : Nat) : Int))).setIfInBounds k (.int .u8 ((en c k : Nat) : Int)) = arr .u8 m (fun i => ((ek c (k + 1) i : Nat) : Int)) := by
  rw [arr_set _ _ _ h]
  refine arr_congr fun i _ => ?_
  unfold ek
  by_cases e : i = k
  · subst e; simp
  · by_cases l : i < k
    · simp [e, l, show i < k + 1 by omega]
    · simp [e, l, show ¬ i < k + 1 by omega]
set_option maxHeartbeats 2000000 in
theorem ends_core (n c m : Nat) (H : Nat → Nat) (w : World) (hn : n < 256) (hm : 130 + (n : Int) % 16 = (m : Int)) (hm6 : m ≤ 146) (hT : Tab w)
    (H1 : Hid (∀ (b : Nat) (w : World), Tab w → Sl w (some ⟨b, 0, none⟩) m (en c) → Calls Tryd.prog 9 #[.slice (some ⟨b, 0, none⟩) m m] w fun e w' => e = .returned (.agg (ha H)) ∧ Below w.heap.size w w'))
    (H2 : Hid (∀ (b : Nat) (w : World), Sl w (some ⟨b, 0, none⟩) m (en c) → Calls Tryd.prog 10 #[.slice (some ⟨b, 0, none⟩) m m] w fun e w' => e = .returned (.agg (ha H)) ∧ Below w.heap.size w w')) :
    Calls Tryd.prog 5 #[.int .u8 (n : Int), .int .u8 (c : Int)] w fun e w' => e = .returned (.bool true) ∧ Below w.heap.size w w' := by
  have HT := Lib.hid hT
  have hmk := Tryd.make_bytes m (by omega) w
  have bW : Below w.heap.size w (w.alloc (.cells (arr .u8 m (fun _ => 0)) 5)) := (Below.refl _ _).alloc (Nat.le_refl _) _
  have f0 : (w.alloc (.cells (arr .u8 m (fun _ => 0)) 5)).heap[w.heap.size]? = some (.cells (arr .u8 m (fun i => ((ek c 0 i : Nat) : Int))) 5) := heap_alloc_new _ _
  clear hT
  go_enter Tryd.func5, Tryd.ntmps5
  go_wp2_with fail
  generalize w.alloc (.cells (arr .u8 m (fun _ => 0)) 5) = W at *
  clear hmk
  go_loopw [14] (fun i wr => ∃ k : Nat, k ≤ m ∧ i = .int .i64 k ∧ Below w.heap.size w wr ∧ wr.heap[w.heap.size]? = some (.cells (arr .u8 m (fun i => ((ek c k i : Nat) : Int))) 5)) (fun i _ => m - (intOf i).toNat)
  case atStart => exact ⟨0, by omega, rfl, bW, f0⟩
  case round =>
    clear bW f0
    obtain ⟨k, hk, rfl, hbw, f0⟩ := hrel
    by_cases hlt : k < m
    · have c0 := blk_cell f0 (arr_get .u8 (fun i => ((ek c k i : Nat) : Int)) hlt)
      have fz := blk_frozen (j := k) f0
      have F0 := Lib.hid f0
      have HB := Lib.hid hbw
      clear f0 hbw
      go_wp2_with fail
      rw [show ((c : Int) + (k : Int)) % 256 = ((en c k : Nat) : Int) by unfold en; omega]
      refine ⟨⟨k + 1, by omega, by go_num, HB.out.setCell (by simp) _, ?_⟩, by simp [intOf]; omega⟩
      rw [← ek_next c m hlt]
      exact blk_set F0.out _
    · obtain rfl : k = m := by omega
      have hf : Sl wr (some ⟨w.heap.size, 0, none⟩) k (en c) := ⟨fun i _ => Nat.mod_lt _ (by decide), fun _ => ⟨w.heap.size, 0, rfl, (Array.getElem?_eq_some_iff.1 f0).1, fun i hi => by
        rw [Nat.zero_add]
        have := blk_cell f0 (arr_get .u8 (fun i => ((ek c k i : Nat) : Int)) hi)
        rwa [show ek c k i = en c i by rw [ek, if_pos hi]] at this⟩⟩
      have HS := Lib.hid hf
      have HB := Lib.hid hbw
      replace HT := Lib.hid (HT.out.below hbw)
      have e1 := fun w => equal_ha H w
      have g1 := Tryd.guardH
      clear f0 hbw hf
      go_wp2_with fail
      refine (fixed_walk wr HT.out).mono ?_
      rintro e w2 ⟨rfl, b2⟩
      replace HB := Lib.hid (HB.out.trans (b2.mono HB.out.size))
      replace HS := Lib.hid (HS.out.below b2)
      replace HT := Lib.hid (HT.out.below b2)
      clear b2
      go_wp2_with fail
      refine (H1.out w.heap.size w2 HT.out HS.out).mono ?_
      rintro e w3 ⟨rfl, b3⟩
      replace HB := Lib.hid (HB.out.trans (b3.mono HB.out.size))
      replace HS := Lib.hid (HS.out.below b3)
      clear b3
      go_wp2_with fail
      refine (H2.out w.heap.size w3 HS.out).mono ?_
      rintro e w4 ⟨rfl, b4⟩
      replace HB := Lib.hid (HB.out.trans (b4.mono HB.out.size))
      clear b4
      go_wp2_with fail
      go_ret
      exact ⟨rfl, HB.out⟩
theorem ends_walk (n c : Nat) (w : World) (hn : n < 256) (hT : Tab w) :
    Calls Tryd.prog 5 #[.int .u8 (n : Int), .int .u8 (c : Int)] w fun e w' => e = .returned (.bool true) ∧ Below w.heap.size w w' :=
  ends_core n c (130 + n % 16) (kk (en c) (130 + n % 16)) w hn (by omega) (by omega) hT (Lib.hid fun b w hT hs => sum_walk _ _ _ _ w (by unfold maxLen; omega) (Nat.le_refl _) hT hs) (Lib.hid fun b w hs => rsum_walk _ _ _ _ w (by omega) (fun h => by cases h) hs)
end Go.Proofs.YtgejfdbbapjpmaaDoor
