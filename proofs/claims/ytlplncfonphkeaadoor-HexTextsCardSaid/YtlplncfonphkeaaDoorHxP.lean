/- The statement HexAddresses: for every address it returns true, and leaves all older memory as it was. -/
import Derived.Test.YtlplncfonphkeaaDoorHxO
namespace Go.Proofs.YtlplncfonphkeaaDoor
open Go.RowKit SmWord
set_option maxRecDepth 100000

theorem aa_size (f : Nat → Nat) : (aa f).size = 20 := arr_size _ _ _
theorem aa_sl {w : World} {b : Nat} {f : Nat → Nat} (h : w.heap[b]? = some (.cells (aa f) 40)) (hf : ∀ i, i < 20 → f i < 256) : Sl w (some ⟨b, 0, none⟩) 20 f :=
  ⟨hf, fun _ => ⟨b, 0, rfl, (Array.getElem?_eq_some_iff.1 h).1, fun i hi => by
    rw [Nat.zero_add]; exact blk_cell h (arr_get .u8 _ hi)⟩⟩
/-- A row of 42 bytes, and what lies behind them, of which only the place behind the last is frozen. -/
def Row42 (S : Nat) (g : Nat → Nat) (w : World) : Prop := ∃ C : Array Value, w.heap[S]? = some (.cells C 5 (C.size, C.size + 1)) ∧ 42 ≤ C.size ∧ ∀ j, j < 42 → C[j]? = some (.int .u8 ((g j : Nat) : Int))
theorem Row42.cell {S : Nat} {g : Nat → Nat} {w : World} (h : Row42 S g w) {j : Nat} (hj : j < 42) : w.cell? ⟨S, j, none⟩ = some (.int .u8 ((g j : Nat) : Int)) := by
  obtain ⟨C, h1, _, h3⟩ := h
  simp [World.cell?, h1, h3 j hj]
theorem Row42.frozen {S : Nat} {g : Nat → Nat} {w : World} (h : Row42 S g w) {j : Nat} (hj : j < 42) : w.frozen? ⟨S, j, none⟩ = false := by
  obtain ⟨C, h1, h2, _⟩ := h
  simp [World.frozen?, h1]
  omega
theorem Row42.stay {S : Nat} {g : Nat → Nat} {w w' : World} (h : Row42 S g w) (hb : Below w.heap.size w w') : Row42 S g w' := by
  obtain ⟨C, h1, h2, h3⟩ := h
  exact ⟨C, below_of hb h1, h2, h3⟩
theorem Row42.other {S b k : Nat} {g : Nat → Nat} {w : World} (h : Row42 S g w) (hne : S ≠ b) (v : Value) : Row42 S g (w.setCell ⟨b, k, none⟩ v) := by
  obtain ⟨C, h1, h2, h3⟩ := h
  exact ⟨C, by rw [← h1]; exact Below.heap_setCell _ _ _ _ hne, h2, h3⟩
theorem Row42.set {S k : Nat} {g g' : Nat → Nat} {w : World} (h : Row42 S g w) (x : Nat) (hk : g' k = x) (hg : ∀ j, j ≠ k → g' j = g j) : Row42 S g' (w.setCell ⟨S, k, none⟩ (.int .u8 ((x : Nat) : Int))) := by
  obtain ⟨C, h1, h2, h3⟩ := h
  refine ⟨C.setIfInBounds k (.int .u8 ((x : Nat) : Int)), ?_, by simpa using h2, fun j hj => ?_⟩
  · simp [World.setCell, Array.getElem?_modify, h1]
  · by_cases e : j = k
    · subst e
      rw [hk, Array.getElem?_setIfInBounds_self_of_lt (by omega)]
    · rw [Array.getElem?_setIfInBounds_ne (fun h => e h.symm), h3 j hj, hg j e]
theorem Row42.congr {S : Nat} {g g' : Nat → Nat} {w : World} (h : Row42 S g w) (hg : ∀ j, j < 42 → g' j = g j) : Row42 S g' w := by
  obtain ⟨C, h1, h2, h3⟩ := h
  exact ⟨C, h1, h2, fun j hj => by rw [h3 j hj, hg j hj]⟩
theorem row42_new (w : World) (l : List UInt8) (hl : l.length = 42) : Row42 w.heap.size (fun j => (l.getD j 0).toNat) (Lib.bytesWorld w 5 (str l)) := by
  refine ⟨_, Lib.bytesWorld_at_new w 5 (str l), ?_, fun j hj => ?_⟩
  · unfold Lib.bytesCells
    rw [Array.size_append, Array.size_map]
    have : (str l).data.size = 42 := by rw [← hl]; simp [str]
    omega
  · unfold Lib.bytesCells
    have h1 : j < (str l).data.size := by rw [show (str l).data.size = 42 by rw [← hl]; simp [str]]; exact hj
    rw [Array.getElem?_append_left (by simpa using h1)]
    have h2 : j < l.length := by omega
    simp [str, List.getD, h2]
theorem row42_str {S c : Nat} {w : World} {l : List UInt8} (hl : l.length = 42) (h : Row42 S (fun j => (l.getD j 0).toNat) w) : (convert 22 9 (.slice (some ⟨S, 0, none⟩) 42 c)).run Tryd.prog w = .ok (.string (str l)) w := by
  have := conv_list w S 0 c l (fun i hi => by rw [Nat.zero_add]; exact h.cell (by omega))
  rwa [hl] at this
/-- The signs, with great letters from the third to below the k-th. -/
def gr (f : Nat → Nat) (k j : Nat) : Nat := if 2 ≤ j ∧ j < k then un (((48 :: 120 :: tx f 20).getD j 0).toNat) else ((48 :: 120 :: tx f 20).getD j 0).toNat
theorem gr_end (f : Nat → Nat) {j : Nat} (hj : j < 42) : gr f 42 j = ((48 :: 120 :: tX f 20).getD j 0).toNat := by
  match j, hj with
  | 0, _ => rfl
  | 1, _ => rfl
  | j + 2, hj =>
    unfold gr
    rw [if_pos ⟨by omega, hj⟩]
    have h : j < (tx f 20).length := by rw [tx_length]; omega
    simp only [List.getD, List.getElem?_cons_succ, tX, List.getElem?_map, List.getElem?_eq_getElem h, Option.map_some, Option.getD_some]
    rw [great_toNat]
theorem gr_start (f : Nat → Nat) : gr f 2 = fun j => ((48 :: 120 :: tx f 20).getD j 0).toNat := by
  funext j; unfold gr; rw [if_neg (by omega)]
theorem gr_here (f : Nat → Nat) (k : Nat) (hk : 2 ≤ k) : gr f k k = ((48 :: 120 :: tx f 20).getD k 0).toNat ∧ gr f (k + 1) k = un (((48 :: 120 :: tx f 20).getD k 0).toNat) := by
  unfold gr; rw [if_neg (by omega), if_pos (by omega)]; exact ⟨rfl, rfl⟩
theorem gr_other (f : Nat → Nat) (k j : Nat) (h : j ≠ k) : gr f (k + 1) j = gr f k j := by
  unfold gr
  by_cases h1 : 2 ≤ j ∧ j < k
  · rw [if_pos h1, if_pos (by omega)]
  · rw [if_neg h1, if_neg (by omega)]
theorem address_small (f : Nat → Nat) (hf : ∀ i, i < 20 → f i < 256) (w : World) : Calls Tryd.prog 15 #[.string (str (48 :: 120 :: tx f 20))] w fun e w' => e = .returned (.tuple #[.agg (aa f), .int .i64 0]) ∧ Below w.heap.size w w' := by
  have h := haddr_ok (48 :: 120 :: tx f 20) (tx f 20) w ⟨rfl, okD_tx hf, by rw [tx_length]⟩ (by rw [tx_length])
  have e : aa (pv (tx f 20)) = aa f := arr_congr fun i hi => by rw [pv_tx hi (hf i hi)]
  rwa [e] at h
theorem address_great (f : Nat → Nat) (hf : ∀ i, i < 20 → f i < 256) (w : World) : Calls Tryd.prog 15 #[.string (str (48 :: 120 :: tX f 20))] w fun e w' => e = .returned (.tuple #[.agg (aa f), .int .i64 0]) ∧ Below w.heap.size w w' := by
  have h := haddr_ok (48 :: 120 :: tX f 20) (tX f 20) w ⟨rfl, okD_tX hf, by rw [tX_length]⟩ (by rw [tX_length])
  have e : aa (pv (tX f 20)) = aa f := arr_congr fun i hi => by rw [pv_tX hi (hf i hi)]
  rwa [e] at h
theorem Tryd.guardA : Tryd.prog.eqGuardType Tryd.prog.depth 40 = false := by kernel_rfl
theorem Tryd.cellsB : Tryd.prog.cellsOf 5 = 1 := by kernel_rfl
theorem equal_aa (f : Nat → Nat) (w : World) : (Op.equalIn 10000 40 (.agg (aa f)) (.agg (aa f))).run Tryd.prog w = .ok true w := by
  obtain ⟨r, hr, hiff⟩ := equal_ints (k := .u8) Tryd.underlying40 Tryd.underlying5 Tryd.cellsB (aa f) (aa f) (arr_size _ _ _) (arr_size _ _ _) (fun i hi => ⟨_, _, arr_get .u8 _ hi, arr_get .u8 _ hi⟩) w
  rw [hr, hiff.2 rfl]
set_option maxHeartbeats 2000000 in
theorem addresses_walk (f : Nat → Nat) (w : World) (hf : Hid (∀ i, i < 20 → f i < 256)) :
    Calls Tryd.prog 5 #[.agg (aa f)] w fun e w' => e = .returned (.bool true) ∧ Below w.heap.size w w' := by
  have hz := aa_size
  go_enter Tryd.func5, Tryd.ntmps5
  go_wp2_with fail
  have f0 : (w.alloc (.cells (aa f) 40)).heap[w.heap.size]? = some (.cells (aa f) 40) := heap_alloc_new _ _
  have bW : Below w.heap.size w (w.alloc (.cells (aa f) 40)) := (Below.refl _ _).alloc (Nat.le_refl _) _
  generalize w.alloc (.cells (aa f) 40) = W at *
  refine (text_walk _ 20 20 f _ (by decide) (Lib.hid (aa_sl f0 hf.out))).mono ?_
  rintro e w1 ⟨rfl, b1⟩
  have HA := Lib.hid (below_of b1 f0)
  have HB := Lib.hid (bW.trans (b1.mono bW.size))
  clear bW hz
  have hl : (48 :: 120 :: tx f 20).length = 42 := by simp [tx_length]
  have t1 : (str (48 :: 120 :: tx f 20)).size = 42 := by rw [str_size, hl]
  have HS := Lib.hid (show Row42 w1.heap.size (gr f 2) (Lib.bytesWorld w1 5 (str (48 :: 120 :: tx f 20))) by rw [gr_start]; exact row42_new w1 _ hl)
  have HA := Lib.hid (below_of (Joins.below_bytesWorld w1.heap.size w1 5 (str (48 :: 120 :: tx f 20)) (Nat.le_refl _)) HA.out)
  have HB := Lib.hid (HB.out.trans (Joins.below_bytesWorld w.heap.size w1 5 (str (48 :: 120 :: tx f 20)) HB.out.size))
  have K1 := Lib.hid (fun w => address_small f hf.out w)
  have K2 := Lib.hid (fun w => address_great f hf.out w)
  have hs1 : w.heap.size < w1.heap.size := (Array.getElem?_eq_some_iff.1 (below_of b1 f0)).1
  have hcv := Lib.run_convert_string_bytes (P := Tryd.prog) w1 9 22 5 (str (48 :: 120 :: tx f 20)) Tryd.underlying9 Tryd.underlying22 Tryd.underlying5
  rw [t1] at hcv
  have hcw := row42_str (c := grownCap w1 42 0 5) hl (by have := HS.out; rw [gr_start] at this; exact this)
  have hsz : w1.heap.size < (Lib.bytesWorld w1 5 (str (48 :: 120 :: tx f 20))).heap.size := by rw [Lib.bytesWorld_size]; omega
  clear b1 f0 hl
  generalize Lib.bytesWorld w1 5 (str (48 :: 120 :: tx f 20)) = W2 at *
  generalize w1.heap.size = S at *
  generalize str (48 :: 120 :: tx f 20) = T at *
  generalize grownCap w1 42 0 5 = cp at *
  go_wp2_with fail
  clear hcv hcw
  refine (K1.out _).mono ?_
  rintro e w3 ⟨rfl, b3⟩
  have hz3 : S < w3.heap.size := Nat.lt_of_lt_of_le hsz b3.size
  have HA := Lib.hid (below_of b3 HA.out)
  have HS := Lib.hid (HS.out.stay b3)
  have HB := Lib.hid (HB.out.trans (b3.mono HB.out.size))
  clear b3 hsz
  have hb4 : Below w.heap.size w ((w3.alloc (.cells zA 40)).setRow w3.heap.size (aa f)) := below_setRow (HB.out.alloc HB.out.size _) HB.out.size _
  have hr4 : ((w3.alloc (.cells zA 40)).setRow w3.heap.size (aa f)).heap[w3.heap.size]? = some (.cells (aa f) 40) := blk_row (heap_alloc_new _ _)
  have ha4 : ((w3.alloc (.cells zA 40)).setRow w3.heap.size (aa f)).heap[w.heap.size]? = some (.cells (aa f) 40) := blk_row_other (blk_alloc HA.out) (by omega)
  have hs4 : Row42 S (gr f 2) ((w3.alloc (.cells zA 40)).setRow w3.heap.size (aa f)) := by
    obtain ⟨C, q1, q2, q3⟩ := HS.out
    exact ⟨C, by rw [setRow_other _ _ _ _ (by omega)]; exact blk_alloc q1, q2, q3⟩
  have HB := Lib.hid hb4
  have HR := Lib.hid hr4
  have HA := Lib.hid ha4
  have HS := Lib.hid hs4
  clear hb4 hr4 ha4 hs4
  go_wp2_with (first | (refine wpList_alloc_row rfl 40 rfl zA zA_run ?_) | (refine wpList_store_row rfl 40 _ _ rfl _ zA (aa f) rfl rfl (heap_alloc_new _ _) (infoArrA _) rfl (arr_one _ _ _) ?_))
  generalize (w3.alloc (.cells zA 40)).setRow w3.heap.size (aa f) = W4 at *
  generalize w3.heap.size = R at *
  go_loopw [6] (fun i wr => ∃ k : Nat, 2 ≤ k ∧ k ≤ 42 ∧ i = .int .i64 k ∧ Row42 S (gr f k) wr ∧ wr.heap[w.heap.size]? = some (.cells (aa f) 40) ∧ wr.heap[R]? = some (.cells (aa f) 40) ∧ Below w.heap.size w wr) (fun i _ => 42 - (intOf i).toNat)
  case atStart => exact ⟨2, Nat.le_refl _, by omega, rfl, HS.out, HA.out, HR.out, HB.out⟩
  case round =>
    obtain ⟨k, hk2, hk, rfl, hS, hA, hR, hB⟩ := hrel
    have HS := Lib.hid hS
    have HA := Lib.hid hA
    have HR := Lib.hid hR
    have HB := Lib.hid hB
    clear hS hA hR hB
    by_cases hlt : k < 42
    · have c1 := HS.out.cell hlt
      have c2 := HS.out.frozen hlt
      obtain ⟨g1, g2⟩ := gr_here f k hk2
      have G2 := Lib.hid g2
      rw [g1] at c1
      clear g1 g2
      have hx := UInt8.toNat_lt ((48 :: 120 :: tx f 20).getD k 0)
      generalize ((48 :: 120 :: tx f 20).getD k 0).toNat = x at *
      by_cases h97 : 97 ≤ x
      · have hu : gr f (k + 1) k = x - 32 := by rw [G2.out]; unfold un; rw [if_pos h97]
        have HN := Lib.hid (HS.out.set (x - 32) hu (fun j hj => gr_other f k j hj))
        have e1 : (x : Int) - 32 = ((x - 32 : Nat) : Int) := by omega
        have hx2 : x - 32 < 256 := by omega
        clear G2 hu
        generalize x - 32 = y at *
        go_wp2_with fail
        exact ⟨⟨k + 1, by omega, by omega, by go_num, HN.out, blk_other HA.out (by omega) _, blk_other HR.out (by omega) _, HB.out.setCell (by simp; omega) _⟩, by simp [intOf]; omega⟩
      · have hu : gr f (k + 1) k = x := by rw [G2.out]; unfold un; rw [if_neg h97]
        have HN := Lib.hid (HS.out.congr (g' := gr f (k + 1)) (fun j _ => by
          by_cases e : j = k
          · subst e; rw [hu]; have := HS.out.cell hlt; rw [c1] at this; simp at this; omega
          · exact gr_other f k j e))
        clear G2 hu
        go_wp2_with fail
        exact ⟨⟨k + 1, by omega, by omega, by go_num, HN.out, HA.out, HR.out, HB.out⟩, by simp [intOf]; omega⟩
    · obtain rfl : k = 42 := by omega
      have hU : (48 :: 120 :: tX f 20).length = 42 := by simp [tX_length]
      have hcw := row42_str (c := cp) hU (HS.out.congr (fun j hj => (gr_end f hj).symm))
      generalize str (48 :: 120 :: tX f 20) = U at *
      clear hlt hU
      go_wp2_with fail
      refine (K2.out _).mono ?_
      rintro e w5 ⟨rfl, b5⟩
      have HA := Lib.hid (below_of b5 HA.out)
      have HR := Lib.hid (below_of b5 HR.out)
      have HB := Lib.hid (HB.out.trans (b5.mono HB.out.size))
      clear b5 hcw
      have hb6 : Below w.heap.size w ((w5.alloc (.cells zA 40)).setRow w5.heap.size (aa f)) := below_setRow (HB.out.alloc HB.out.size _) HB.out.size _
      have hc6 : ((w5.alloc (.cells zA 40)).setRow w5.heap.size (aa f)).heap[w5.heap.size]? = some (.cells (aa f) 40) := blk_row (heap_alloc_new _ _)
      have hA5 : w.heap.size < w5.heap.size := (Array.getElem?_eq_some_iff.1 HA.out).1
      have hR5 : R < w5.heap.size := (Array.getElem?_eq_some_iff.1 HR.out).1
      have ha6 : ((w5.alloc (.cells zA 40)).setRow w5.heap.size (aa f)).heap[w.heap.size]? = some (.cells (aa f) 40) := blk_row_other (blk_alloc HA.out) (by omega)
      have hr6 : ((w5.alloc (.cells zA 40)).setRow w5.heap.size (aa f)).heap[R]? = some (.cells (aa f) 40) := blk_row_other (blk_alloc HR.out) (by omega)
      have HB := Lib.hid hb6
      have HC := Lib.hid hc6
      have HA := Lib.hid ha6
      have HR := Lib.hid hr6
      clear hb6 hc6 ha6 hr6
      go_wp2_with (first | (refine wpList_alloc_row rfl 40 rfl zA zA_run ?_) | (refine wpList_store_row rfl 40 _ _ rfl _ zA (aa f) rfl rfl (heap_alloc_new _ _) (infoArrA _) rfl (arr_one _ _ _) ?_))
      generalize (w5.alloc (.cells zA 40)).setRow w5.heap.size (aa f) = W6 at *
      generalize w5.heap.size = R6 at *
      refine (fixed_hex _).mono ?_
      rintro e w7 ⟨rfl, b7⟩
      have HA := Lib.hid (below_of b7 HA.out)
      have HR := Lib.hid (below_of b7 HR.out)
      have HC := Lib.hid (below_of b7 HC.out)
      have HB := Lib.hid (HB.out.trans (b7.mono HB.out.size))
      clear b7
      have eg := Tryd.guardA
      have ee := fun w => equal_aa f w
      go_wp2_with (first | (refine wpList_load_row_if rfl 40 _ rfl _ rfl 40 (aa f) (0, 0) _ HA.out Tryd.underlying40 rfl (infoArrA _) ?_) | (refine wpList_load_row_if rfl 40 _ rfl _ rfl 40 (aa f) (0, 0) _ HR.out Tryd.underlying40 rfl (infoArrA _) ?_) | (refine wpList_load_row_if rfl 40 _ rfl _ rfl 40 (aa f) (0, 0) _ HC.out Tryd.underlying40 rfl (infoArrA _) ?_))
      go_ret
      exact ⟨rfl, HB.out⟩
end Go.Proofs.YtlplncfonphkeaaDoor
