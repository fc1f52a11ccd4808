/- An address as a word, and a word as an address: the program's functions and the document's. -/
import Derived.Test.YtmcbaolecmkpdaaDoorG4
import Derived.Test.YtmcbaolecmkpdaaDoorG0
import Derived.Lib.AppendZeros
import Derived.Deep.CutRange
import Derived.Test.YtmcbaolecmkpdaaDoorGb
namespace Go.Proofs.YtmcbaolecmkpdaaDoor
open Go.RowKit SmWord
set_option maxRecDepth 100000

/-- The address of these bytes. -/
def aa (f : Nat → Nat) : Array Value := arr .u8 20 (fun i => ((f i : Nat) : Int))
def zA : Array Value := arr .u8 20 (fun _ => 0)
def zW : Array Value := #[Value.int .u64 0, .int .u64 0, .int .u64 0, .int .u64 0]
theorem Tryd.infoA20 : (Tryd.prog.info? 23).map (fun i => (i.zero, i.size)) = some (some (.agg zA), 20) := by kernel_rfl
theorem zA_run (w : World) : (zeroValue 23).run Tryd.prog w = .ok (.agg zA) w := (zero_of_info Tryd.infoA20).1 w
theorem infoArrA (f : Nat → Int) : (Tryd.prog.info? 23).map (·.size) = some (arr .u8 20 f).size := by rw [arr_size]; exact (zero_of_info Tryd.infoA20).2
theorem aa_congr {f g : Nat → Nat} (h : ∀ i, i < 20 → f i = g i) : aa f = aa g := arr_congr fun i hi => by rw [h i hi]
theorem aa_sl {w : World} {b : Nat} {f : Nat → Nat} (h : w.heap[b]? = some (.cells (aa f) 23)) (hf : ∀ i, i < 20 → f i < 256) : Sl w (some ⟨b, 0, none⟩) 20 f :=
  ⟨hf, fun _ => ⟨b, 0, rfl, (Array.getElem?_eq_some_iff.1 h).1, fun i hi => by rw [Nat.zero_add]; exact blk_cell h (arr_get .u8 (fun i => ((f i : Nat) : Int)) hi)⟩⟩
theorem fillA_step (f : Nat → Int) (k : Nat) (hk : k < 20) (v : Int) (hv : v = f k) :
    (arr .u8 20 (fun j => if j < k then f j else 0)).setIfInBounds k (.int .u8 v) = arr .u8 20 (fun j => if j < k + 1 then f j else 0) := by
  rw [arr_set _ _ _ hk]
  refine arr_congr fun i _ => ?_
  by_cases h1 : i = k
  · subst h1; simp [hv]
  · by_cases h2 : i < k
    · simp [h1, h2, show i < k + 1 by omega]
    · simp [h1, h2, show ¬ i < k + 1 by omega]
theorem fillA_start (f : Nat → Int) : arr .u8 20 (fun j => if j < 0 then f j else 0) = zA := arr_congr fun i _ => by simp
theorem fillA_end (f : Nat → Int) : arr .u8 20 (fun j => if j < 20 then f j else 0) = arr .u8 20 f := arr_congr fun i hi => by simp [hi]

/-! As a word. -/
set_option maxHeartbeats 1000000 in
theorem aword_core (f : Nat → Nat) (V : Nat) (w : World) (HV : Hid (∀ (w : World) (b : Nat), w.heap[b]? = some (.cells (aa f) 23) → Calls Tryd.prog 20 #[.slice (some ⟨b, 0, none⟩) 20 20] w fun e w' => e = .returned (wd V) ∧ Below w.heap.size w w')) :
    Calls Tryd.prog 8 #[.agg (aa f)] w fun e w' => e = .returned (wd V) ∧ Below w.heap.size w w' := by
  have f0 : ((w.alloc (.cells (aa f) 23)).alloc (.cells zW 26)).heap[w.heap.size]? = some (.cells (aa f) 23) := blk_alloc (heap_alloc_new _ _)
  have f1 : ((w.alloc (.cells (aa f) 23)).alloc (.cells zW 26)).heap[w.heap.size + 1]? = some (.cells zW 26) := heap_alloc2_new _ _ _
  have bW : Below w.heap.size w ((w.alloc (.cells (aa f) 23)).alloc (.cells zW 26)) := ((Below.refl _ _).alloc (Nat.le_refl _) _).alloc (by simp) _
  unfold zW at f0 f1 bW
  go_enter Tryd.func8, Tryd.ntmps8
  go_wp2_with fail
  generalize ((w.alloc (.cells (aa f) 23)).alloc (.cells #[Value.int .u64 0, .int .u64 0, .int .u64 0, .int .u64 0] 26)) = W at *
  have F1 := Lib.hid f1
  have HB := Lib.hid bW
  clear f1 bW
  refine (HV.out W w.heap.size f0).mono ?_
  rintro e w3 ⟨rfl, b3⟩
  have f3 := stay b3 F1.out
  replace HB := Lib.hid (HB.out.trans (b3.mono HB.out.size))
  clear f0 F1 b3
  go_wp2_with (first | (refine wpList_store_row rfl 26 _ _ rfl _ #[Value.int .u64 0, .int .u64 0, .int .u64 0, .int .u64 0] (wa V) rfl rfl f3 Tryd.infoWa rfl wa_one ?_))
  refine bodyPost_ret (v := wd V) (results_cell_row rfl _ _ _ 26 (wa V) (0, 0) _ rfl (blk_row f3) Tryd.underlying26 rfl Tryd.infoWa) rfl ⟨rfl, below_setRow HB.out (by omega) _⟩
theorem aword_walk (f : Nat → Nat) (w : World) (hf : ∀ i, i < 20 → f i < 256) :
    Calls Tryd.prog 8 #[.agg (aa f)] w fun e w' => e = .returned (wd (val (gd f 20) 20)) ∧ Below w.heap.size w w' :=
  aword_core f _ w (Lib.hid fun W b h => from_wd (some ⟨b, 0, none⟩) 20 20 20 f W (by decide) rfl (aa_sl h hf))
set_option maxHeartbeats 1000000 in
theorem rword_core (f : Nat → Nat) (V : Nat) (w : World) (HV : Hid (∀ (w : World) (b : Nat), w.heap[b]? = some (.cells (aa f) 23) → Calls Tryd.prog 21 #[.slice (some ⟨b, 0, none⟩) 20 20] w fun e w' => e = .returned (.agg (da V)) ∧ Below w.heap.size w w')) :
    Calls Tryd.prog 9 #[.agg (aa f)] w fun e w' => e = .returned (wd V) ∧ Below w.heap.size w w' := by
  have f0 : ((w.alloc (.cells (aa f) 23)).alloc (.cells zW 26)).heap[w.heap.size]? = some (.cells (aa f) 23) := blk_alloc (heap_alloc_new _ _)
  have f1 : ((w.alloc (.cells (aa f) 23)).alloc (.cells zW 26)).heap[w.heap.size + 1]? = some (.cells zW 26) := heap_alloc2_new _ _ _
  have bW : Below w.heap.size w ((w.alloc (.cells (aa f) 23)).alloc (.cells zW 26)) := ((Below.refl _ _).alloc (Nat.le_refl _) _).alloc (by simp) _
  unfold zW at f0 f1 bW
  go_enter Tryd.func9, Tryd.ntmps9
  go_wp2_with fail
  generalize ((w.alloc (.cells (aa f) 23)).alloc (.cells #[Value.int .u64 0, .int .u64 0, .int .u64 0, .int .u64 0] 26)) = W at *
  have F1 := Lib.hid f1
  have HB := Lib.hid bW
  clear f1 bW
  refine (HV.out W w.heap.size f0).mono ?_
  rintro e w3 ⟨rfl, b3⟩
  replace F1 := Lib.hid (stay b3 F1.out)
  replace HB := Lib.hid (HB.out.trans (b3.mono HB.out.size))
  clear f0 b3
  go_wp2_with fail
  refine (word_ref V w3).mono ?_
  rintro e w4 ⟨rfl, b4⟩
  have f3 := stay b4 F1.out
  replace HB := Lib.hid (HB.out.trans (b4.mono HB.out.size))
  clear F1 b4
  go_wp2_with (first | (refine wpList_store_row rfl 26 _ _ rfl _ #[Value.int .u64 0, .int .u64 0, .int .u64 0, .int .u64 0] (wa V) rfl rfl f3 Tryd.infoWa rfl wa_one ?_))
  refine bodyPost_ret (v := wd V) (results_cell_row rfl _ _ _ 26 (wa V) (0, 0) _ rfl (blk_row f3) Tryd.underlying26 rfl Tryd.infoWa) rfl ⟨rfl, below_setRow HB.out (by omega) _⟩
theorem rword_walk (f : Nat → Nat) (w : World) (hf : ∀ i, i < 20 → f i < 256) :
    Calls Tryd.prog 9 #[.agg (aa f)] w fun e w' => e = .returned (wd (val (gd f 20) 20)) ∧ Below w.heap.size w w' :=
  rword_core f _ w (Lib.hid fun W b h => from_ref (some ⟨b, 0, none⟩) 20 20 20 f W (by decide) rfl (aa_sl h hf))

/-! Of a word. -/
theorem Tryd.arrayA20 (a : Option Addr) (c : Nat) (w : World) : (Instr.arrayAt 23 (.slice a 20 c)).run Tryd.prog w = .ok (.pointer a) w := by
  simp [Instr.arrayAt, run_underlying Tryd.underlying23]
/-- 20 bytes, loaded out of the middle of a block. -/
theorem load_aa {ops : Array Oper} {rest : List Oper} {o : Oper} {a : Act} {w : World} {Q : Exit → Act → World → Prop} (hg : o.guard = none) (x : Operand) (ho : o.op = .load 23 x)
    (b off : Nat) (hx : a.eval x = .pointer (some ⟨b, off, none⟩)) (g : Nat → Nat) (hc : ∀ i, i < 20 → w.cell? ⟨b, off + i, none⟩ = some (.int .u8 ((g i : Nat) : Int)))
    (h : wpList Tryd.prog ops Q rest (a.put o.dst (.agg (aa g))) w) : wpList Tryd.prog ops Q (o :: rest) a w :=
  wpList_load_mid hg 23 x ho b off hx ((List.range 20).map fun i => Value.int .u8 ((g i : Nat) : Int)) _ (fun i v hv => by
    have hi : i < 20 := by have := (List.getElem?_eq_some_iff.1 hv).1; simpa using this
    rw [List.getElem?_map, List.getElem?_range hi] at hv
    cases hv
    exact hc i hi) Tryd.underlying23 rfl (by rw [List.length_map, List.length_range]; exact (zero_of_info Tryd.infoA20).2) h
set_option maxHeartbeats 1000000 in
theorem aof_walk (n : Nat) (w : World) :
    Calls Tryd.prog 10 #[wd n] w fun e w' => e = .returned (.agg (aa fun i => dig n (19 - i))) ∧ Below w.heap.size w w' := by
  have K1 := Lib.hid fun w => bytes_wd n w
  go_enter Tryd.func10, Tryd.ntmps10
  have f0 : (w.alloc (.cells (wa n) 26)).heap[w.heap.size]? = some (.cells (wa n) 26) := heap_alloc_new _ _
  have f0' := blk_alloc (o' := .cells zA 23) f0
  go_wp2_with (first | (refine wpList_alloc_row rfl 23 rfl zA zA_run ?_) | (refine wpList_load_row rfl 26 _ rfl _ rfl 26 (wa n) (0, 0) _ f0' Tryd.underlying26 rfl Tryd.infoWa ?_))
  refine (K1.out _).mono ?_
  rintro e w1 ⟨rfl, b1⟩
  have r0 : ((w.alloc (.cells (wa n) 26)).alloc (.cells zA 23)).heap[w.heap.size + 1]? = some (.cells zA 23) := heap_alloc2_new _ _ _
  have bW : Below w.heap.size w ((w.alloc (.cells (wa n) 26)).alloc (.cells zA 23)) := ((Below.refl _ _).alloc (Nat.le_refl _) _).alloc (by simp) _
  have r1 := stay b1 r0
  have HB := Lib.hid (bW.trans (b1.mono bW.size))
  have hs1 : w.heap.size + 2 ≤ w1.heap.size := by have := b1.size; simp at this; omega
  clear b1 r0 bW f0 f0'
  have r2 : ((w1.alloc (.cells zY 44)).setRow w1.heap.size (ya n)).heap[w.heap.size + 1]? = some (.cells zA 23) := blk_row_other (blk_alloc r1) (by omega)
  have f2 : ((w1.alloc (.cells zY 44)).setRow w1.heap.size (ya n)).heap[w1.heap.size]? = some (.cells (ya n) 44) := blk_row (heap_alloc_new _ _)
  have bW : Below w.heap.size w ((w1.alloc (.cells zY 44)).setRow w1.heap.size (ya n)) := below_setRow (HB.out.alloc HB.out.size _) (by omega) _
  clear HB r1
  go_upto_region 1 with (first | (refine wpList_alloc_row rfl 44 rfl zY zY_run ?_) | (refine wpList_store_row rfl 44 _ _ rfl _ zY (ya n) rfl rfl (heap_alloc_new _ _) (infoArrY _) rfl (arr_one _ _ _) ?_))
  generalize ((w1.alloc (.cells zY 44)).setRow w1.heap.size (ya n)) = W2 at *
  have es := fun w => slice32 w1.heap.size 12 w (by decide)
  have ea := fun w => Tryd.arrayA20 (some ⟨w1.heap.size, 12, none⟩) 20 w
  have hc : ∀ i, i < 20 → W2.cell? ⟨w1.heap.size, 12 + i, none⟩ = some (.int .u8 ((dig n (19 - i) : Nat) : Int)) := fun i hi => by
    have := blk_cell f2 (arr_get .u8 (fun j => ((dig n (31 - j) : Nat) : Int)) (show 12 + i < 32 by omega))
    rwa [show 31 - (12 + i) = 19 - i by omega] at this
  have HC := Lib.hid hc
  have HB := Lib.hid bW
  clear f2 hc bW
  go_wp2_with (first | (refine load_aa rfl _ rfl w1.heap.size 12 rfl (fun i => dig n (19 - i)) HC.out ?_) | (refine wpList_store_row rfl 23 _ _ rfl _ zA (aa fun i => dig n (19 - i)) rfl rfl r2 (infoArrA _) rfl (arr_one _ _ _) ?_))
  rw [ea]
  go_simp
  go_wp2_with (first | (refine load_aa rfl _ rfl w1.heap.size 12 rfl (fun i => dig n (19 - i)) HC.out ?_) | (refine wpList_store_row rfl 23 _ _ rfl _ zA (aa fun i => dig n (19 - i)) rfl rfl r2 (infoArrA _) rfl (arr_one _ _ _) ?_))
  refine bodyPost_ret (v := .agg (aa fun i => dig n (19 - i))) (results_cell_row rfl _ _ _ 23 (aa fun i => dig n (19 - i)) (0, 0) _ rfl (blk_row r2) Tryd.underlying23 rfl (infoArrA _)) rfl ⟨rfl, below_setRow HB.out (by omega) _⟩
set_option maxHeartbeats 1000000 in
theorem last_walk (V : Nat → Nat) (w : World) :
    Calls Tryd.prog 24 #[.agg (arr .u8 32 fun i => ((V i : Nat) : Int))] w fun e w' => e = .returned (.agg (aa fun i => V (12 + i))) ∧ Below w.heap.size w w' := by
  go_enter Tryd.func24, Tryd.ntmps24
  go_wp2_with (first | (refine wpList_alloc_row rfl 23 rfl zA zA_run ?_) | (refine wpList_build_zero rfl 23 rfl Tryd.underlying23 Tryd.sizeOf5 zA zA_run ?_) | (refine wpList_store_row rfl 23 _ _ rfl _ zA zA rfl rfl (heap_alloc_new _ _) (infoArrA _) rfl (arr_one _ _ _) ?_))
  have g2 : (((w.alloc (.cells (arr .u8 32 fun i => ((V i : Nat) : Int)) 44)).alloc (.cells zA 23)).alloc (.cells zA 23)).heap[w.heap.size + 1 + 1]? = some (.cells zA 23) := by
    have := heap_alloc_new ((w.alloc (.cells (arr .u8 32 fun i => ((V i : Nat) : Int)) 44)).alloc (.cells zA 23)) (.cells zA 23)
    simpa using this
  have f0 : ((((w.alloc (.cells (arr .u8 32 fun i => ((V i : Nat) : Int)) 44)).alloc (.cells zA 23)).alloc (.cells zA 23)).setRow (w.heap.size + 1 + 1) zA).heap[w.heap.size]? = some (.cells (arr .u8 32 fun i => ((V i : Nat) : Int)) 44) := blk_row_other (blk_alloc (blk_alloc (heap_alloc_new _ _))) (by omega)
  have f1 : ((((w.alloc (.cells (arr .u8 32 fun i => ((V i : Nat) : Int)) 44)).alloc (.cells zA 23)).alloc (.cells zA 23)).setRow (w.heap.size + 1 + 1) zA).heap[w.heap.size + 1]? = some (.cells zA 23) := blk_row_other (blk_alloc (heap_alloc2_new _ _ _)) (by omega)
  have f2 : ((((w.alloc (.cells (arr .u8 32 fun i => ((V i : Nat) : Int)) 44)).alloc (.cells zA 23)).alloc (.cells zA 23)).setRow (w.heap.size + 1 + 1) zA).heap[w.heap.size + 1 + 1]? = some (.cells zA 23) := blk_row g2
  have bW : Below w.heap.size w ((((w.alloc (.cells (arr .u8 32 fun i => ((V i : Nat) : Int)) 44)).alloc (.cells zA 23)).alloc (.cells zA 23)).setRow (w.heap.size + 1 + 1) zA) := below_setRow ((((Below.refl _ _).alloc (Nat.le_refl _) _).alloc (by simp) _).alloc (by simp; omega) _) (by omega) _
  clear g2
  generalize ((((w.alloc (.cells (arr .u8 32 fun i => ((V i : Nat) : Int)) 44)).alloc (.cells zA 23)).alloc (.cells zA 23)).setRow (w.heap.size + 1 + 1) zA) = W at *
  go_loopw [4] (fun i wr => ∃ k : Nat, k ≤ 20 ∧ i = .int .i64 k ∧ Below w.heap.size w wr ∧ wr.heap[w.heap.size]? = some (.cells (arr .u8 32 fun i => ((V i : Nat) : Int)) 44) ∧ wr.heap[w.heap.size + 1]? = some (.cells zA 23) ∧ wr.heap[w.heap.size + 1 + 1]? = some (.cells (arr .u8 20 (fun j => if j < k then ((V (12 + j) : Nat) : Int) else 0)) 23)) (fun i _ => 20 - (intOf i).toNat)
  case atStart => exact ⟨0, Nat.zero_le _, rfl, bW, f0, f1, by rw [fillA_start]; exact f2⟩
  case round =>
    obtain ⟨k, hk, rfl, hb, ha, hr, hd⟩ := hrel
    clear f0 f1 f2 bW
    by_cases hlt : k < 20
    · have c1 := blk_cell ha (arr_get .u8 (fun i => ((V i : Nat) : Int)) (show 12 + k < 32 by omega))
      have d2 := blk_cell hd (arr_get .u8 _ hlt)
      have d3 := blk_frozen (j := k) hd
      have HA := Lib.hid ha
      have HR := Lib.hid hr
      have HD := Lib.hid hd
      have HB := Lib.hid hb
      clear ha hr hd hb
      go_wp2_with fail
      refine ⟨⟨k + 1, by omega, by go_num, HB.out.setCell (by simp; omega) _, blk_other HA.out (by omega) _, blk_other HR.out (by omega) _, ?_⟩, by simp [intOf]; omega⟩
      rw [← fillA_step (fun j => ((V (12 + j) : Nat) : Int)) k hlt _ rfl]
      exact blk_set HD.out _
    · obtain rfl : k = 20 := by omega
      rw [fillA_end] at hd
      have hd2 : wr.heap[w.heap.size + 1 + 1]? = some (.cells (aa fun i => V (12 + i)) 23) := hd
      have HB := Lib.hid hb
      clear hb hd
      go_wp2_with (first | (refine wpList_load_row rfl 23 _ rfl _ rfl 23 (aa fun i => V (12 + i)) (0, 0) _ hd2 Tryd.underlying23 rfl (infoArrA _) ?_) | (refine wpList_store_row rfl 23 _ _ rfl _ zA (aa fun i => V (12 + i)) rfl rfl hr (infoArrA _) rfl (arr_one _ _ _) ?_))
      refine bodyPost_ret (v := .agg (aa fun i => V (12 + i))) (results_cell_row rfl _ _ _ 23 (aa fun i => V (12 + i)) (0, 0) _ rfl (blk_row hr) Tryd.underlying23 rfl (infoArrA _)) rfl ⟨rfl, below_setRow HB.out (by omega) _⟩
theorem rof_walk (n : Nat) (w : World) :
    Calls Tryd.prog 11 #[wd n] w fun e w' => e = .returned (.agg (aa fun i => dig n (19 - i))) ∧ Below w.heap.size w w' := by
  have K1 := Lib.hid fun w => of_ref n w
  have K2 := Lib.hid fun w => bytes_ref n w
  have hl := last_walk (fun i => dig n (31 - i))
  rw [aa_congr (g := fun i => dig n (19 - i)) (fun i hi => by show dig n (31 - (12 + i)) = _; rw [show 31 - (12 + i) = 19 - i by omega])] at hl
  have K3 := Lib.hid hl
  clear hl
  have f0 : ((w.alloc (.cells (wa n) 26)).alloc (.cells zA 23)).heap[w.heap.size]? = some (.cells (wa n) 26) := blk_alloc (heap_alloc_new _ _)
  go_enter Tryd.func11, Tryd.ntmps11
  go_wp2_with (first | (refine wpList_alloc_row rfl 23 rfl zA zA_run ?_) | (refine wpList_load_row rfl 26 _ rfl _ rfl 26 (wa n) (0, 0) _ f0 Tryd.underlying26 rfl Tryd.infoWa ?_))
  have r0 : ((w.alloc (.cells (wa n) 26)).alloc (.cells zA 23)).heap[w.heap.size + 1]? = some (.cells zA 23) := heap_alloc2_new _ _ _
  have bW : Below w.heap.size w ((w.alloc (.cells (wa n) 26)).alloc (.cells zA 23)) := ((Below.refl _ _).alloc (Nat.le_refl _) _).alloc (by simp) _
  generalize ((w.alloc (.cells (wa n) 26)).alloc (.cells zA 23)) = W at *
  clear f0
  refine (K1.out _).mono ?_
  rintro e w1 ⟨rfl, b1⟩
  have r1 := Lib.hid (stay b1 r0)
  have HB := Lib.hid (bW.trans (b1.mono bW.size))
  clear b1 r0 bW
  go_wp2_with fail
  refine (K2.out _).mono ?_
  rintro e w2 ⟨rfl, b2⟩
  have r2 := Lib.hid (stay b2 r1.out)
  replace HB := Lib.hid (HB.out.trans (b2.mono HB.out.size))
  clear b2 r1
  go_wp2_with fail
  refine (K3.out _).mono ?_
  rintro e w3 ⟨rfl, b3⟩
  have r3 := stay b3 r2.out
  replace HB := Lib.hid (HB.out.trans (b3.mono HB.out.size))
  clear b3 r2
  go_wp2_with (first | (refine wpList_store_row rfl 23 _ _ rfl _ zA (aa fun i => dig n (19 - i)) rfl rfl r3 (infoArrA _) rfl (arr_one _ _ _) ?_))
  refine bodyPost_ret (v := .agg (aa fun i => dig n (19 - i))) (results_cell_row rfl _ _ _ 23 (aa fun i => dig n (19 - i)) (0, 0) _ rfl (blk_row r3) Tryd.underlying23 rfl (infoArrA _)) rfl ⟨rfl, below_setRow HB.out (by omega) _⟩
end Go.Proofs.YtmcbaolecmkpdaaDoor
/- Slices of bytes put together: what the library's Grow and Concat do with rows of bytes. -/
namespace Go.Proofs.YtmcbaolecmkpdaaDoor
open Go.RowKit SmWord
set_option maxRecDepth 100000

set_option maxHeartbeats 1000000 in
theorem grow_walk (n : Nat) (w : World) (h0 : 0 < n) (hn : n ≤ 1000000) :
    Calls Tryd.prog 46 #[.slice none 0 0, .int .i64 (n : Int)] w fun e w' => (∃ G cs, e = .returned (.slice (some ⟨w.heap.size, 0, none⟩) 0 G) ∧ cs.size = G * 1 ∧ G ≤ maxLen ∧ w' = w.drew.alloc (.cells cs 5)) := by
  obtain ⟨i0, hi0, hz0, hz1, hz2⟩ := Tryd.parts8
  have hr := fun ty => Lib.run_append_nil_zeros (P := Tryd.prog) w 33 3 ty 5 i0 _ .i64 .i64 Tryd.underlying33 Tryd.underlying3 hi0 hz0 n h0 (by omega) (by omega) (by rw [hz2]; omega)
  have hG1 : n ≤ grownCap w n 0 5 := grownCap_ge w _ _ _
  have hG2 : grownCap w n 0 5 ≤ maxLen := grownCap_le_maxLen w n 0 5 (by unfold maxLen; omega)
  generalize grownCap w n 0 5 = G at *
  have hG3 : G ≤ 9223372036854775807 := hG2
  have HG := Lib.hid hG2
  clear hi0 hz0 hz1 hz2 hG2
  go_enter Tryd.func46, Tryd.ntmps46
  go_wp2_with (at_builtin; refine Lib.wpList_append_run _ rfl _ _ _ _ rfl _ _ rfl rfl _ _ (hr _) ?_)
  go_ret
  refine ⟨G, _, rfl, ?_, HG.out, rfl⟩
  rw [Array.size_append, size_zeroCells, size_zeroCells]
  simp
  omega

/-- A slice that reads as these bytes. -/
def SlAt (w : World) (v : Value) (l : List Nat) : Prop := ∃ A c, v = .slice A l.length c ∧ l.length ≤ c ∧ (A = none → l.length = 0 ∧ c = 0) ∧ Sl w A l.length (lf l)
/-- Slices, one beside another. -/
def SlRow (w : World) (b off : Nat) (X : List (List Nat)) : Prop := ∀ i l, X[i]? = some l → ∃ v, w.cell? ⟨b, off + i, none⟩ = some v ∧ SlAt w v l
/-- How many bytes the first k of them have. -/
def tot (X : List (List Nat)) (k : Nat) : Nat := (X.take k).flatten.length
theorem tot_step {X : List (List Nat)} {k : Nat} {l : List Nat} (h : X[k]? = some l) : (X.take (k + 1)).flatten = (X.take k).flatten ++ l := by
  rw [List.take_add_one, h]
  simp
set_option maxHeartbeats 2000000 in
theorem concat_walk (X : List (List Nat)) (b off m c : Nat) (w : World) (hm : X.length = m) (hm6 : m ≤ 1000) (hb : b < w.heap.size) (h0 : 0 < X.flatten.length) (h6 : X.flatten.length ≤ 1000000) (hX : SlRow w b off X) :
    Calls Tryd.prog 34 #[.slice (some ⟨b, off, none⟩) m c] w fun e w' => (∃ v, e = .returned v ∧ w'.ownsRow w.heap.size 5 1 v X.flatten.length (lb8 X.flatten)) ∧ Below w.heap.size w w' := by
  have HX := Lib.hid hX
  clear hX
  go_enter Tryd.func34, Tryd.ntmps34
  go_wp2_with fail
  go_loopw [3, 11] (fun z i wr => ∃ k : Nat, k ≤ m ∧ z = .int .i64 ((tot X k : Nat) : Int) ∧ i = .int .i64 k ∧ w = wr) (fun _ i _ => m - (intOf i).toNat)
  case atStart => exact ⟨0, Nat.zero_le _, rfl, rfl, rfl⟩
  case round =>
    obtain ⟨k, hk, rfl, rfl, rfl⟩ := hrel
    by_cases hlt : k < m
    · obtain ⟨l, hl⟩ : ∃ l, X[k]? = some l := ⟨_, List.getElem?_eq_getElem (by omega)⟩
      obtain ⟨v, hc, A, cc, rfl, hcc, hA, hs⟩ := HX.out k l hl
      have ht : tot X (k + 1) = tot X k + l.length := by unfold tot; rw [tot_step hl, List.length_append]
      have htl : tot X (k + 1) ≤ 1000000 := by
        unfold tot
        refine Nat.le_trans ?_ h6
        conv => rhs; rw [← List.take_append_drop (k + 1) X, List.flatten_append, List.length_append]
        omega
      have hn : l.length ≤ 1000000 := by omega
      have ht2 : ((tot X k : Nat) : Int) + ((l.length : Nat) : Int) = ((tot X (k + 1) : Nat) : Int) := by omega
      clear ht hs hA
      obtain ⟨T1, hT⟩ : ∃ T1, T1 = tot X (k + 1) := ⟨_, rfl⟩
      rw [← hT] at htl ht2
      have HT := Lib.hid hT
      clear hT
      generalize tot X k = T0 at *
      generalize l.length = n at *
      go_wp2_with fail
      exact ⟨⟨k + 1, by omega, by rw [HT.out], by go_num, trivial⟩, by simp [intOf]; omega⟩
    · obtain rfl : k = m := by omega
      have hN : tot X k = X.flatten.length := by unfold tot; rw [← hm, List.take_length]
      rw [hN]
      obtain ⟨N, hN2⟩ : ∃ N, N = X.flatten.length := ⟨_, rfl⟩
      rw [← hN2] at h0 h6 ⊢
      have HN := Lib.hid hN2
      clear hN hN2
      go_wp2_with fail
      refine (grow_walk N w h0 h6).mono ?_
      rintro e w1 ⟨G, cs, rfl, hcs, hG, rfl⟩
      have o0 : (w.drew.alloc (.cells cs 5)).ownsRow w.heap.size 5 1 (.slice (some ⟨w.heap.size, 0, none⟩) 0 G) 0 [] := World.ownsRow_made w.drew cs G (Nat.le_refl _) hG hcs
      have bW : Below w.heap.size w (w.drew.alloc (.cells cs 5)) := (Below.refl _ w).drew.alloc (Nat.le_refl _) _
      have HO := Lib.hid o0
      have HB := Lib.hid bW
      generalize w.drew.alloc (.cells cs 5) = W1 at *
      clear o0 bW hcs hG
      go_wp2_with fail
      go_loopw [6, 27] (fun v i wr => ∃ j : Nat, j ≤ k ∧ i = .int .i64 j ∧ Hid (wr.ownsRow w.heap.size 5 1 v (tot X j) (lb8 (X.take j).flatten)) ∧ Hid (Below w.heap.size w wr)) (fun _ i _ => k - (intOf i).toNat)
      case atStart => exact ⟨0, Nat.zero_le _, rfl, Lib.hid (by simpa [tot, lb8] using HO.out), HB⟩
      case round =>
        clear HO HB
        obtain ⟨j, hj, rfl, HO, HB⟩ := hrel
        obtain ⟨Av, cv, rfl⟩ := own_val HO.out
        by_cases hlt : j < k
        · obtain ⟨l, hl⟩ : ∃ l, X[j]? = some l := ⟨_, List.getElem?_eq_getElem (by omega)⟩
          obtain ⟨v, hc, A, cc, rfl, hcc, hA, hs⟩ := HX.out j l hl
          have hc2 := (HB.out.cell (p := ⟨b, off + j, none⟩) hb).trans hc
          have ht : tot X (j + 1) = tot X j + l.length := by unfold tot; rw [tot_step hl, List.length_append]
          have htl : tot X (j + 1) ≤ 1000000 := by
            refine Nat.le_trans ?_ h6
            rw [HN.out]
            unfold tot
            conv => rhs; rw [← List.take_append_drop (j + 1) X, List.flatten_append, List.length_append]
            omega
          have hs2 := Lib.hid (hs.below HB.out)
          have hA2 := Lib.hid hA
          have HE : Hid (lb8 (X.take j).flatten ++ bb (lf l) l.length = lb8 (X.take (j + 1)).flatten) := Lib.hid (by
            rw [tot_step hl, lb8_app, lb8_bb l]; rfl)
          have ht2 : tot X j + l.length ≤ 140737488355328 := by omega
          have hsz := HB.out.size
          have HT := Lib.hid ht
          clear hs hA hc ht htl hl
          go_wp2_with (at_builtin; refine append_sl rfl _ _ rfl w.heap.size _ (tot X j) _ rfl HO.out A l.length cc (lf l) rfl hA2.out hs2.out ht2 hsz ?_; intro v1 w1 hown hgrow)
          rw [HE.out, ← HT.out] at hown
          exact ⟨⟨j + 1, by omega, by go_num, Lib.hid hown, Lib.hid (HB.out.grown hgrow hsz (fun b hb' => (HO.out.lt b hb').1))⟩, by simp [intOf]; omega⟩
        · obtain rfl : j = k := by omega
          have hown := HO.out
          rw [List.take_of_length_le (show X.length ≤ j by omega)] at hown
          have hN : tot X j = X.flatten.length := by unfold tot; rw [List.take_of_length_le (show X.length ≤ j by omega)]
          rw [hN] at hown ⊢
          have HO2 := Lib.hid hown
          clear HO hown
          go_wp2_with fail
          go_ret
          exact ⟨⟨_, rfl, HO2.out⟩, HB.out⟩
end Go.Proofs.YtmcbaolecmkpdaaDoor
/- The address of a contract by a salt: the program's function. -/
namespace Go.Proofs.YtmcbaolecmkpdaaDoor
open Go.RowKit SmWord
set_option maxRecDepth 100000

theorem Sl.same {w : World} {A : Option Addr} {n : Nat} {f g : Nat → Nat} (h : Sl w A n f) (hg : ∀ i, i < n → f i = g i) : Sl w A n g :=
  ⟨fun i hi => by rw [← hg i hi]; exact h.small i hi, fun hn => by
    obtain ⟨b, off, e, hb, hc⟩ := h.cells hn
    exact ⟨b, off, e, hb, fun i hi => by rw [← hg i hi]; exact hc i hi⟩⟩
theorem lf_bf (f : Nat → Nat) {n i : Nat} (h : i < n) : lf (bf f 0 n) i = f i := by
  unfold lf
  rw [bf_get f 0 h, Nat.zero_add]
theorem SlAt.of {w : World} {A : Option Addr} {n c : Nat} {f : Nat → Nat} (h : Sl w A n f) (hc : n ≤ c) (hA : A = none → n = 0 ∧ c = 0) : SlAt w (.slice A n c) (bf f 0 n) := by
  have hl := bf_length f 0 n
  exact ⟨A, c, by rw [hl], by rw [hl]; exact hc, by rw [hl]; exact hA, by rw [hl]; exact h.same fun i hi => (lf_bf f hi).symm⟩
theorem own_list {w : World} {base : Nat} {v : Value} {l : List Nat} (h : w.ownsRow base 5 1 v l.length (lb8 l)) (hl : ∀ i, i < l.length → lf l i < 256) :
    ∃ A c, v = .slice A l.length c ∧ l.length ≤ c ∧ (A = none → l.length = 0 ∧ c = 0) ∧ Sl w A l.length (lf l) := by
  rw [lb8_bb] at h
  exact own_sl h hl
theorem l85_flat (f s h : Nat → Nat) : [[255], bf f 0 20, bf s 0 32, bf h 0 32].flatten = l85 f s h := by simp [l85]
theorem lf_app (l m : List Nat) (i : Nat) : lf (l ++ m) i = if i < l.length then lf l i else lf m (i - l.length) := by
  unfold lf
  split
  · rename_i h; rw [List.getD_eq_getElem?_getD, List.getD_eq_getElem?_getD, List.getElem?_append_left h]
  · rename_i h; rw [List.getD_eq_getElem?_getD, List.getD_eq_getElem?_getD, List.getElem?_append_right (by omega)]
theorem l85_lt {f s h : Nat → Nat} (hf : ∀ i, i < 20 → f i < 256) (hs : ∀ i, i < 32 → s i < 256) (hh : ∀ i, i < 32 → h i < 256) : ∀ i, i < 85 → lf (l85 f s h) i < 256 := fun i hi => by
  unfold l85
  rw [lf_app, lf_app, lf_app]
  simp only [List.length_append, bf_length, List.length_singleton]
  split
  · split
    · split
      · obtain rfl : i = 0 := by omega
        decide
      · rw [lf_bf f (by omega)]; exact hf _ (by omega)
    · rw [lf_bf s (by omega)]; exact hs _ (by omega)
  · rw [lf_bf h (by omega)]; exact hh _ (by omega)
theorem concat85 (f s h : Nat → Nat) (b c : Nat) (w : World) (hf : ∀ i, i < 20 → f i < 256) (hs : ∀ i, i < 32 → s i < 256) (hh : ∀ i, i < 32 → h i < 256) (hb : b < w.heap.size) (hX : SlRow w b 0 [[255], bf f 0 20, bf s 0 32, bf h 0 32]) :
    Calls Tryd.prog 34 #[.slice (some ⟨b, 0, none⟩) 4 c] w fun e w' => (∃ A c, e = .returned (.slice A 85 c) ∧ 85 ≤ c ∧ (A = none → 85 = 0 ∧ c = 0) ∧ Sl w' A 85 (lf (l85 f s h))) ∧ Below w.heap.size w w' := by
  have hl := l85_flat f s h
  have hn := l85_length f s h
  have h85 := l85_lt hf hs hh
  refine (concat_walk _ b 0 4 c w rfl (by decide) hb (by rw [hl, hn]; decide) (by rw [hl, hn]; decide) hX).mono ?_
  rintro e w' ⟨⟨v, rfl, ho⟩, hbel⟩
  rw [hl] at ho
  obtain ⟨A, c', rfl, h1, h2, h3⟩ := own_list ho (by rw [hn]; exact h85)
  rw [hn] at h1 h2 h3 ⊢
  exact ⟨⟨A, c', rfl, h1, h2, h3⟩, hbel⟩
theorem store_rowA {w : World} {b : Nat} (f : Nat → Nat) (hb : w.heap[b]? = some (.cells zA 23)) : (storeCells ⟨b, 0, none⟩ (aa f).toList 0).run Tryd.prog w = .ok () (w.setRow b (aa f)) := by
  have := run_storeCells_from (P := Tryd.prog) b _ (aa f).toList 0 zA w hb (by simp [aa, zA, arr_size]) (fun v hv => (Array.all_eq_true_iff_forall_mem.1 (arr_one _ _ _)) v (by simpa [aa] using hv))
  simpa using this
theorem kw_dig (F : Nat → Nat) (n : Nat) {i : Nat} (hi : i < 20) : dig (kw F n) (19 - i) = kk F n (12 + i) := by
  unfold kw
  rw [dig_val (g := gd (kk F n) 32) (fun j _ => kk_lt F n _) (by omega)]
  unfold gd
  rw [show 32 - 1 - (19 - i) = 12 + i by omega]
theorem sl_255 {w : World} {b : Nat} {t : TypeId} (h : w.heap[b]? = some (.cells #[Value.int .u8 255] t)) : Sl w (some ⟨b, 0, none⟩) 1 (fun _ => 255) :=
  ⟨fun _ _ => by decide, fun _ => ⟨b, 0, rfl, (Array.getElem?_eq_some_iff.1 h).1, fun i hi => by
    obtain rfl : i = 0 := by omega
    exact blk_cell h rfl⟩⟩
theorem ya_sl {w : World} {b : Nat} {t : TypeId} {m : Nat} (h : w.heap[b]? = some (.cells (ya m) t)) : Sl w (some ⟨b, 0, none⟩) 32 (fun i => dig m (31 - i)) :=
  ⟨fun _ _ => dig_lt _ _, fun _ => ⟨b, 0, rfl, (Array.getElem?_eq_some_iff.1 h).1, fun i hi => by
    rw [Nat.zero_add]
    exact blk_cell h (arr_get .u8 (fun j => ((dig m (31 - j) : Nat) : Int)) hi)⟩⟩
set_option maxHeartbeats 2000000 in
theorem create2_core (f g F : Nat → Nat) (m n c : Nat) (A : Option Addr) (w : World) (hF : Hid (lf (l85 f (fun i => dig m (31 - i)) (kk g n)) = F)) (hf : ∀ i, i < 20 → f i < 256) (hn : n ≤ maxLen) (hc : n ≤ c) (hT : Tab w) (hs : Sl w A n g) :
    Calls Tryd.prog 14 #[.agg (aa f), wd m, .slice A n c] w fun e w' => e = .returned (.agg (aa fun i => dig (kw F 85) (19 - i))) ∧ Below w.heap.size w w' := by
  have K1 := Lib.hid fun w => bytes_wd m w
  have HS := Lib.hid hs
  have HT := Lib.hid hT
  have HF := Lib.hid hf
  clear hs hT hf
  have hz := wa_size
  have f0 : ((w.alloc (.cells (aa f) 23)).alloc (.cells (wa m) 26)).heap[w.heap.size + 1]? = some (.cells (wa m) 26) := heap_alloc2_new _ _ _
  have f0' := blk_alloc (o' := .cells zA 23) f0
  go_enter Tryd.func14, Tryd.ntmps14
  go_wp2_with (first | (refine wpList_alloc_row rfl 23 rfl zA zA_run ?_) | (refine wpList_load_row rfl 26 _ rfl _ rfl 26 (wa m) (0, 0) _ f0' Tryd.underlying26 rfl Tryd.infoWa ?_))
  have g0 : (((w.alloc (.cells (aa f) 23)).alloc (.cells (wa m) 26)).alloc (.cells zA 23)).heap[w.heap.size]? = some (.cells (aa f) 23) := blk_alloc (blk_alloc (heap_alloc_new _ _))
  have g2 : (((w.alloc (.cells (aa f) 23)).alloc (.cells (wa m) 26)).alloc (.cells zA 23)).heap[w.heap.size + 1 + 1]? = some (.cells zA 23) := by
    have := heap_alloc_new ((w.alloc (.cells (aa f) 23)).alloc (.cells (wa m) 26)) (.cells zA 23)
    simpa using this
  have bW : Below w.heap.size w (((w.alloc (.cells (aa f) 23)).alloc (.cells (wa m) 26)).alloc (.cells zA 23)) := (((Below.refl _ _).alloc (Nat.le_refl _) _).alloc (by simp) _).alloc (by simp; omega) _
  have hsz : w.heap.size + 3 ≤ (((w.alloc (.cells (aa f) 23)).alloc (.cells (wa m) 26)).alloc (.cells zA 23)).heap.size := by simp
  clear f0 f0'
  generalize (((w.alloc (.cells (aa f) 23)).alloc (.cells (wa m) 26)).alloc (.cells zA 23)) = W at *
  refine (K1.out _).mono ?_
  rintro e w1 ⟨rfl, b1⟩
  have G0 := Lib.hid (stay b1 g0)
  have G2 := Lib.hid (stay b1 g2)
  have HB := Lib.hid (bW.trans (b1.mono bW.size))
  have HZ := Lib.hid (Nat.le_trans hsz b1.size)
  clear g0 g2 bW hsz b1
  go_wp2_with fail
  refine (sum_walk A n c g w1 hn hc (HT.out.below HB.out) (HS.out.below HB.out)).mono ?_
  rintro e w2 ⟨rfl, b2⟩
  replace G0 := Lib.hid (stay b2 G0.out)
  replace G2 := Lib.hid (stay b2 G2.out)
  replace HB := Lib.hid (HB.out.trans (b2.mono HB.out.size))
  replace HZ := Lib.hid (Nat.le_trans HZ.out b2.size)
  clear b2
  have s0 : ((w2.alloc (.cells zY 44)).alloc (.cells zH 57)).heap[w2.heap.size]? = some (.cells zY 44) := blk_alloc (heap_alloc_new _ _)
  have s1 : (((w2.alloc (.cells zY 44)).alloc (.cells zH 57)).setRow w2.heap.size (ya m)).heap[w2.heap.size + 1]? = some (.cells zH 57) := blk_row_other (heap_alloc2_new _ _ _) (by omega)
  have hw2 := HZ.out
  have r0 : ((((w2.alloc (.cells zY 44)).alloc (.cells zH 57)).setRow w2.heap.size (ya m)).setRow (w2.heap.size + 1) (ha (kk g n))).heap[w2.heap.size]? = some (.cells (ya m) 44) := blk_row_other (blk_row s0) (by omega)
  have r1 : ((((w2.alloc (.cells zY 44)).alloc (.cells zH 57)).setRow w2.heap.size (ya m)).setRow (w2.heap.size + 1) (ha (kk g n))).heap[w2.heap.size + 1]? = some (.cells (ha (kk g n)) 57) := blk_row s1
  have g0 : ((((w2.alloc (.cells zY 44)).alloc (.cells zH 57)).setRow w2.heap.size (ya m)).setRow (w2.heap.size + 1) (ha (kk g n))).heap[w.heap.size]? = some (.cells (aa f) 23) := blk_row_other (blk_row_other (blk_alloc (blk_alloc G0.out)) (by omega)) (by omega)
  have g2 : ((((w2.alloc (.cells zY 44)).alloc (.cells zH 57)).setRow w2.heap.size (ya m)).setRow (w2.heap.size + 1) (ha (kk g n))).heap[w.heap.size + 1 + 1]? = some (.cells zA 23) := blk_row_other (blk_row_other (blk_alloc (blk_alloc G2.out)) (by omega)) (by omega)
  have bW : Below w.heap.size w ((((w2.alloc (.cells zY 44)).alloc (.cells zH 57)).setRow w2.heap.size (ya m)).setRow (w2.heap.size + 1) (ha (kk g n))) := below_setRow (below_setRow ((HB.out.alloc HB.out.size _).alloc (by simp; omega) _) (by omega) _) (by omega) _
  clear G0 G2 HB
  go_wp2_with (first | (refine wpList_alloc_row rfl 44 rfl zY zY_run ?_) | (refine wpList_alloc_row rfl 57 rfl zH zH_run ?_) | (refine wpList_store_row rfl 44 _ _ rfl _ zY (ya m) rfl rfl s0 (infoArrY _) rfl (arr_one _ _ _) ?_; refine wpList_store_row rfl 57 _ _ rfl _ zH (ha (kk g n)) rfl rfl (by rw [World.size_alloc]; exact s1) (infoArrH _) rfl (arr_one _ _ _) ?_; simp only [World.size_alloc]))
  simp only [Act.put, List.setIfInBounds_toArray, List.set_cons_succ, List.set_cons_zero]
  generalize ((((w2.alloc (.cells zY 44)).alloc (.cells zH 57)).setRow w2.heap.size (ya m)).setRow (w2.heap.size + 1) (ha (kk g n))) = W3 at *
  obtain ⟨b2, hb2⟩ : ∃ b2, w2.heap.size = b2 := ⟨_, rfl⟩
  rw [hb2] at r0 r1 hw2 HZ ⊢
  clear s0 s1 hb2
  have hs0 : w.heap.size < W3.heap.size := (Array.getElem?_eq_some_iff.1 g0).1
  have hs1 : b2 + 1 < W3.heap.size := (Array.getElem?_eq_some_iff.1 r1).1
  have b4 : Below W3.heap.size W3 ((W3.alloc (.cells #[Value.int .u8 255] 5)).alloc (.cells #[.slice (some ⟨W3.heap.size, 0, none⟩) 1 1, .slice (some ⟨w.heap.size, 0, none⟩) 20 20, .slice (some ⟨b2, 0, none⟩) 32 32, .slice (some ⟨b2 + 1, 0, none⟩) 32 32] 33)).drew := (((Below.refl _ _).alloc (Nat.le_refl _) _).alloc (by simp) _).drew
  have hz4 : ((W3.alloc (.cells #[Value.int .u8 255] 5)).alloc (.cells #[.slice (some ⟨W3.heap.size, 0, none⟩) 1 1, .slice (some ⟨w.heap.size, 0, none⟩) 20 20, .slice (some ⟨b2, 0, none⟩) 32 32, .slice (some ⟨b2 + 1, 0, none⟩) 32 32] 33)).drew.heap.size = W3.heap.size + 2 := by simp [World.drew]
  have q0 : ((W3.alloc (.cells #[Value.int .u8 255] 5)).alloc (.cells #[.slice (some ⟨W3.heap.size, 0, none⟩) 1 1, .slice (some ⟨w.heap.size, 0, none⟩) 20 20, .slice (some ⟨b2, 0, none⟩) 32 32, .slice (some ⟨b2 + 1, 0, none⟩) 32 32] 33)).drew.heap[W3.heap.size]? = some (.cells #[Value.int .u8 255] 5) := blk_alloc (heap_alloc_new _ _)
  have q1 : ((W3.alloc (.cells #[Value.int .u8 255] 5)).alloc (.cells #[.slice (some ⟨W3.heap.size, 0, none⟩) 1 1, .slice (some ⟨w.heap.size, 0, none⟩) 20 20, .slice (some ⟨b2, 0, none⟩) 32 32, .slice (some ⟨b2 + 1, 0, none⟩) 32 32] 33)).drew.heap[W3.heap.size + 1]? = some (.cells #[.slice (some ⟨W3.heap.size, 0, none⟩) 1 1, .slice (some ⟨w.heap.size, 0, none⟩) 20 20, .slice (some ⟨b2, 0, none⟩) 32 32, .slice (some ⟨b2 + 1, 0, none⟩) 32 32] 33) := heap_alloc2_new _ _ _
  have p0 := stay b4 g0
  have p1 := stay b4 r0
  have p2 := stay b4 r1
  have G2 := Lib.hid (stay b4 g2)
  have HB := Lib.hid (bW.trans (b4.mono bW.size))
  have KC := Lib.hid (concat85 f (fun i => dig m (31 - i)) (kk g n) (W3.heap.size + 1) 4 ((W3.alloc (.cells #[Value.int .u8 255] 5)).alloc (.cells #[.slice (some ⟨W3.heap.size, 0, none⟩) 1 1, .slice (some ⟨w.heap.size, 0, none⟩) 20 20, .slice (some ⟨b2, 0, none⟩) 32 32, .slice (some ⟨b2 + 1, 0, none⟩) 32 32] 33)).drew HF.out (fun _ _ => dig_lt _ _) (fun _ _ => kk_lt _ _ _) (by omega) (by
    intro i l hi
    rw [Nat.zero_add]
    match i, hi with
    | 0, hi =>
      cases hi
      exact ⟨_, blk_cell q1 rfl, SlAt.of (sl_255 q0) (Nat.le_refl _) (fun e => by cases e)⟩
    | 1, hi =>
      cases hi
      exact ⟨_, blk_cell q1 rfl, SlAt.of (aa_sl p0 HF.out) (Nat.le_refl _) (fun e => by cases e)⟩
    | 2, hi =>
      cases hi
      exact ⟨_, blk_cell q1 rfl, SlAt.of (ya_sl p1) (Nat.le_refl _) (fun e => by cases e)⟩
    | 3, hi =>
      cases hi
      exact ⟨_, blk_cell q1 rfl, SlAt.of (ha_sl p2 (kk_lt _ _)) (Nat.le_refl _) (fun e => by cases e)⟩
    | i + 4, hi => cases hi))
  have hlt := l85_lt HF.out (s := fun i => dig m (31 - i)) (fun _ _ => dig_lt _ _) (h := kk g n) (fun _ _ => kk_lt _ _ _)
  rw [hF.out] at KC hlt
  have HL := Lib.hid hlt
  clear q0 q1 p0 p1 p2 b4 g0 r0 r1 g2 bW hlt K1 HF HS hF
  have h85 : (85 : Nat) ≤ maxLen := by decide
  have HM := Lib.hid h85
  clear h85 hn hc
  go_region_with (first
    | (go_at_call 34; refine KC.out.mono ?_; rintro e w4 ⟨⟨A4, c4, rfl, hc4, hA4, hs4⟩, b4⟩; have HS4 := Lib.hid hs4; have HC4 := Lib.hid hc4; have R4 := Lib.hid (stay b4 G2.out); have HB4 := Lib.hid (HB.out.trans (b4.mono HB.out.size)); clear hA4 hs4 hc4 b4)
    | (go_at_call 30; refine (word_walk A4 85 c4 F w4 HM.out HC4.out (HT.out.below HB4.out) HS4.out).mono ?_; rintro e w5 ⟨rfl, b5⟩; have R5 := Lib.hid (stay b5 R4.out); have HB5 := Lib.hid (HB4.out.trans (b5.mono HB4.out.size)); clear b5)
    | (go_at_call 10; refine (aof_walk (kw F 85) w5).mono ?_; rintro e w6 ⟨rfl, b6⟩; have R6 := Lib.hid (stay b6 R5.out); have HB6 := Lib.hid (HB5.out.trans (b6.mono HB5.out.size)); have st := store_rowA (fun i => dig (kw F 85) (19 - i)) R6.out; clear b6))
  go_wp2_with fail
  refine bodyPost_ret (v := .agg (aa fun i => dig (kw F 85) (19 - i))) (results_cell_row rfl _ _ _ 23 (aa fun i => dig (kw F 85) (19 - i)) (0, 0) _ rfl (blk_row R6.out) Tryd.underlying23 rfl (infoArrA _)) rfl ⟨rfl, below_setRow HB6.out (by omega) _⟩
theorem create2_walk (f g : Nat → Nat) (m n c : Nat) (A : Option Addr) (w : World) (hf : ∀ i, i < 20 → f i < 256) (hn : n ≤ maxLen) (hc : n ≤ c) (hT : Tab w) (hs : Sl w A n g) :
    Calls Tryd.prog 14 #[.agg (aa f), wd m, .slice A n c] w fun e w' => e = .returned (.agg (aa (ad2 f (fun i => dig m (31 - i)) g n))) ∧ Below w.heap.size w w' := by
  have h := create2_core f g _ m n c A w (Lib.hid rfl) hf hn hc hT hs
  rwa [show (aa fun i => dig (kw (lf (l85 f (fun i => dig m (31 - i)) (kk g n))) 85) (19 - i)) = aa (ad2 f (fun i => dig m (31 - i)) g n) from aa_congr fun i hi => kw_dig _ _ hi] at h
end Go.Proofs.YtmcbaolecmkpdaaDoor
