/- How two addresses stand to each other: the program's Compare and the document's Less. -/
import Derived.Test.YtmcbaolecmkpdaaDoorGd
import Derived.Lib.BytesEntry
import Derived.Test.YtmcbaolecmkpdaaDoorG1
namespace Go.Proofs.YtmcbaolecmkpdaaDoor
open Go.RowKit SmWord
set_option maxRecDepth 100000

/-- Which of two rows of bytes is below the other one, from place k on: -1, 0, 1. -/
def lx (f g : Nat → Nat) : Nat → Nat → Int
  | 0, _ => 0
  | n + 1, k => if f k < g k then -1 else if g k < f k then 1 else lx f g n (k + 1)
theorem lx_turn (f g : Nat → Nat) : ∀ n k, lx g f n k = - lx f g n k
  | 0, _ => rfl
  | n + 1, k => by
    unfold lx
    by_cases h1 : f k < g k
    · rw [if_neg (by omega), if_pos h1, if_pos h1]
      rfl
    · by_cases h2 : g k < f k
      · rw [if_pos h2, if_neg h1, if_pos h2]
      · rw [if_neg h2, if_neg h1, if_neg h1, if_neg h2, lx_turn f g n]
theorem lx_three (f g : Nat → Nat) : ∀ n k, lx f g n k = -1 ∨ lx f g n k = 0 ∨ lx f g n k = 1
  | 0, _ => .inr (.inl rfl)
  | n + 1, k => by
    unfold lx
    split
    · exact .inl rfl
    · split
      · exact .inr (.inr rfl)
      · exact lx_three f g n (k + 1)
/-- The bytes from place k on. -/
def bk (f : Nat → Nat) (k n : Nat) : List UInt8 := (List.range n).map fun i => UInt8.ofNat (f (k + i))
theorem bk_cons (f : Nat → Nat) (k n : Nat) : bk f k (n + 1) = UInt8.ofNat (f k) :: bk f (k + 1) n := by
  unfold bk
  rw [List.range_succ_eq_map]
  simp only [List.map_cons, List.map_map, Nat.add_zero]
  congr 1
  refine List.map_congr_left fun i _ => ?_
  simp only [Function.comp]
  rw [show k + i.succ = k + 1 + i by omega]
theorem u8_lt {x y : Nat} (hx : x < 256) (hy : y < 256) : UInt8.ofNat x < UInt8.ofNat y ↔ x < y := by
  rw [UInt8.lt_iff_toNat_lt]
  simp
  omega
theorem cmp_bk {f g : Nat → Nat} : ∀ n k, (∀ i, i < k + n → f i < 256) → (∀ i, i < k + n → g i < 256) → Lib.compareBytes (bk f k n) (bk g k n) = lx f g n k
  | 0, _, _, _ => rfl
  | n + 1, k, hf, hg => by
    rw [bk_cons, bk_cons, Lib.compareBytes, lx, cmp_bk n (k + 1) (fun i hi => hf i (by omega)) (fun i hi => hg i (by omega))]
    have h1 := u8_lt (hf k (by omega)) (hg k (by omega))
    have h2 := u8_lt (hg k (by omega)) (hf k (by omega))
    simp only [h1, h2]
theorem bytes_bk (f : Nat → Nat) (n : Nat) : Lib.bytesOf ((List.range n).map fun i => ((f i : Nat) : Int)) = bk f 0 n := by
  simp [Lib.bytesOf, bk]
theorem load_sl {w : World} {b off n c : Nat} {f : Nat → Nat} (h : ∀ i, i < n → w.cell? ⟨b, off + i, none⟩ = some (.int .u8 ((f i : Nat) : Int))) :
    (Extern.Bytes.bytesOf (.slice (some ⟨b, off, none⟩) n c)).run Tryd.prog w = .ok ⟨(bk f 0 n).toArray⟩ w := by
  have hl := Lib.run_loadBytesX (P := Tryd.prog) w ((List.range n).map fun i => ((f i : Nat) : Int)) ⟨b, off, none⟩ .empty (fun j x hj => by
    have hjl : j < n := by have := (List.getElem?_eq_some_iff.1 hj).1; simpa using this
    have e : (⟨b, off, none⟩ : Addr).add j = ⟨b, off + j, none⟩ := by unfold Addr.add; split <;> simp_all
    rw [List.getElem?_map, List.getElem?_range hjl] at hj
    cases hj
    rw [e, h j hjl])
  rw [List.length_map, List.length_range, bytes_bk] at hl
  have he : (⟨ByteArray.empty.data ++ (bk f 0 n).toArray⟩ : ByteArray) = ⟨(bk f 0 n).toArray⟩ := by
    apply ByteArray.ext
    show (#[] : Array UInt8) ++ (bk f 0 n).toArray = (bk f 0 n).toArray
    simp
  rw [he] at hl
  exact hl
theorem run_compare {w : World} {b1 o1 b2 o2 c1 c2 n : Nat} {f g : Nat → Nat} (hf : ∀ i, i < n → f i < 256) (hg : ∀ i, i < n → g i < 256)
    (h1 : ∀ i, i < n → w.cell? ⟨b1, o1 + i, none⟩ = some (.int .u8 ((f i : Nat) : Int))) (h2 : ∀ i, i < n → w.cell? ⟨b2, o2 + i, none⟩ = some (.int .u8 ((g i : Nat) : Int))) :
    (Extern.BytealgCompare.compare #[.slice (some ⟨b1, o1, none⟩) n c1, .slice (some ⟨b2, o2, none⟩) n c2]).run Tryd.prog w = .ok (.int .i64 (lx f g n 0)) w := by
  change Sem.run Tryd.prog (do pure (goInt (Extern.BytealgCompare.cmp (← Extern.Bytes.bytesOf (.slice (some ⟨b1, o1, none⟩) n c1)) (← Extern.Bytes.bytesOf (.slice (some ⟨b2, o2, none⟩) n c2))))) w = _
  simp only [Sem.run_bind, Sem.run_pure, load_sl h1, load_sl h2, Result.andThen]
  rw [Lib.cmp_eq]
  show Result.ok (goInt (Lib.compareBytes (bk f 0 n) (bk g 0 n))) w = _
  rw [cmp_bk n 0 (by simpa using hf) (by simpa using hg)]
  rfl
theorem bcompare_walk {b1 o1 b2 o2 c1 c2 n : Nat} {f g : Nat → Nat} (w : World) (hf : ∀ i, i < n → f i < 256) (hg : ∀ i, i < n → g i < 256)
    (h1 : ∀ i, i < n → w.cell? ⟨b1, o1 + i, none⟩ = some (.int .u8 ((f i : Nat) : Int))) (h2 : ∀ i, i < n → w.cell? ⟨b2, o2 + i, none⟩ = some (.int .u8 ((g i : Nat) : Int))) :
    Calls Tryd.prog 35 #[.slice (some ⟨b1, o1, none⟩) n c1, .slice (some ⟨b2, o2, none⟩) n c2] w fun e w' => e = .returned (.int .i64 (lx f g n 0)) ∧ w' = w := by
  have hr := run_compare (c1 := c1) (c2 := c2) hf hg h1 h2
  clear h1 h2 hf hg
  go_enter Tryd.func35, Tryd.ntmps35
  go_wp2_with fail
  rw [run_callFunc_extern Tryd.func47 (by kernel_rfl) (by kernel_rfl) (by kernel_rfl) (e := Extern.BytealgCompare.compare) (by kernel_rfl), hr]
  simp only [Result.andThen]
  rw [Oper.upon_value]
  go_wp2
  go_ret
  exact ⟨rfl, rfl⟩
set_option maxHeartbeats 1000000 in
theorem acompare_walk (f g : Nat → Nat) (w : World) (hf : ∀ i, i < 20 → f i < 256) (hg : ∀ i, i < 20 → g i < 256) :
    Calls Tryd.prog 17 #[.agg (aa f), .agg (aa g)] w fun e w' => e = .returned (.int .i64 (lx f g 20 0)) ∧ Below w.heap.size w w' := by
  have f0 : ((w.alloc (.cells (aa f) 23)).alloc (.cells (aa g) 23)).heap[w.heap.size]? = some (.cells (aa f) 23) := blk_alloc (heap_alloc_new _ _)
  have f1 : ((w.alloc (.cells (aa f) 23)).alloc (.cells (aa g) 23)).heap[w.heap.size + 1]? = some (.cells (aa g) 23) := heap_alloc2_new _ _ _
  have bW : Below w.heap.size w ((w.alloc (.cells (aa f) 23)).alloc (.cells (aa g) 23)) := ((Below.refl _ _).alloc (Nat.le_refl _) _).alloc (by simp) _
  have KC := Lib.hid (bcompare_walk (b1 := w.heap.size) (o1 := 0) (b2 := w.heap.size + 1) (o2 := 0) (c1 := 20) (c2 := 20) ((w.alloc (.cells (aa f) 23)).alloc (.cells (aa g) 23)).drew hf hg
    (fun i hi => by rw [Nat.zero_add]; exact blk_cell (w := World.drew _) f0 (arr_get .u8 (fun i => ((f i : Nat) : Int)) hi)) (fun i hi => by rw [Nat.zero_add]; exact blk_cell (w := World.drew _) f1 (arr_get .u8 (fun i => ((g i : Nat) : Int)) hi)))
  clear f0 f1
  go_enter Tryd.func17, Tryd.ntmps17
  go_wp2_with fail
  generalize ((w.alloc (.cells (aa f) 23)).alloc (.cells (aa g) 23)) = W at *
  go_region_with (go_at_call 35; refine KC.out.mono ?_; rintro e w1 ⟨rfl, rfl⟩)
  go_wp2_with fail
  go_ret
  exact ⟨rfl, bW.drew⟩
set_option maxHeartbeats 1000000 in
theorem less_walk (f g : Nat → Nat) (w : World) :
    Calls Tryd.prog 16 #[.agg (aa f), .agg (aa g)] w fun e w' => e = .returned (.bool (decide (lx f g 20 0 = -1))) ∧ Below w.heap.size w w' := by
  have f0 : ((w.alloc (.cells (aa f) 23)).alloc (.cells (aa g) 23)).heap[w.heap.size]? = some (.cells (aa f) 23) := blk_alloc (heap_alloc_new _ _)
  have f1 : ((w.alloc (.cells (aa f) 23)).alloc (.cells (aa g) 23)).heap[w.heap.size + 1]? = some (.cells (aa g) 23) := heap_alloc2_new _ _ _
  have bW : Below w.heap.size w ((w.alloc (.cells (aa f) 23)).alloc (.cells (aa g) 23)) := ((Below.refl _ _).alloc (Nat.le_refl _) _).alloc (by simp) _
  go_enter Tryd.func16, Tryd.ntmps16
  go_wp2_with fail
  generalize ((w.alloc (.cells (aa f) 23)).alloc (.cells (aa g) 23)) = W at *
  go_loopw [5] (fun i wr => ∃ k : Nat, k ≤ 20 ∧ i = .int .i64 k ∧ Hid (lx f g 20 0 = lx f g (20 - k) k) ∧ Below w.heap.size w wr ∧ wr.heap[w.heap.size]? = some (.cells (aa f) 23) ∧ wr.heap[w.heap.size + 1]? = some (.cells (aa g) 23)) (fun i _ => 20 - (intOf i).toNat)
  case atStart => exact ⟨0, Nat.zero_le _, rfl, Lib.hid rfl, bW, f0, f1⟩
  case round =>
    obtain ⟨k, hk, rfl, HL, hb, ha, hr⟩ := hrel
    clear f0 f1 bW
    by_cases hlt : k < 20
    · have c0 := blk_cell ha (arr_get .u8 (fun i => ((f i : Nat) : Int)) hlt)
      have c1 := blk_cell hr (arr_get .u8 (fun i => ((g i : Nat) : Int)) hlt)
      have HA := Lib.hid ha
      have HR := Lib.hid hr
      have HB := Lib.hid hb
      have hl : lx f g (20 - k) k = if f k < g k then -1 else if g k < f k then 1 else lx f g (20 - (k + 1)) (k + 1) := by
        rw [show 20 - k = (20 - (k + 1)) + 1 by omega, lx]
      clear ha hr hb
      have cell : ∀ (g : Ext wr) {b o : Nat} {v : Value}, wr.cell? ⟨b, o, none⟩ = some v → g.on.cell? ⟨b, o, none⟩ = some v := fun g b o v h => (g.below.cell (p := ⟨b, o, none⟩) (by simpa using World.block_lt_of_cell? wr _ h)).trans h
      by_cases e : f k = g k
      · have HL2 := Lib.hid (HL.out.trans (hl.trans (by rw [e, if_neg (Nat.lt_irrefl _), if_neg (Nat.lt_irrefl _)])))
        clear hl HL
        rw [e] at c0
        have t1 := fun g => cell g c0
        have t2 := fun g => cell g c1
        clear cell c0 c1
        go_wp2_with fail
        refine region_ext (by kernel_rfl) (by kernel_rfl) ?_
        repeat (go_big_quiet_step (fail))
        refine wpQuiet_nil ?_
        rintro w' ⟨gg, rfl⟩
        have HA2 := Lib.hid (gg.block HA.out)
        have HR2 := Lib.hid (gg.block HR.out)
        have HB2 := Lib.hid (HB.out.trans (gg.below.mono HB.out.size))
        clear HA HR HB t1 t2
        go_wp2_with fail
        exact ⟨⟨k + 1, by omega, by go_num, HL2, HB2.out, HA2.out, HR2.out⟩, by simp [intOf]; omega⟩
      · have HL2 := Lib.hid (HL.out.trans hl)
        have hne : ((f k : Int) != (g k : Int)) = true := by simp; omega
        have hdec : decide (f k < g k) = decide (lx f g 20 0 = -1) := by
          rw [HL2.out]
          by_cases h1 : f k < g k
          · rw [if_pos h1]; simp; omega
          · rw [if_neg h1, if_pos (by omega)]; simp; omega
        have HD := Lib.hid hdec
        clear hl HL HL2 hdec
        have t1 := fun g => cell g c0
        have t2 := fun g => cell g c1
        clear cell c0 c1
        go_wp2_with fail
        refine region_ext (by kernel_rfl) (by kernel_rfl) ?_
        repeat (go_big_quiet_step (fail))
        refine wpQuiet_nil ?_
        rintro w' ⟨gg, rfl⟩
        have c0 := t1 gg
        have c1 := t2 gg
        have HB2 := Lib.hid (HB.out.trans (gg.below.mono HB.out.size))
        clear t1 t2 HA HR HB
        generalize gg.on = wg at *
        clear gg
        go_wp2_with fail
        refine region_ext (by kernel_rfl) (by kernel_rfl) ?_
        have cell : ∀ (g : Ext wg) {b o : Nat} {v : Value}, wg.cell? ⟨b, o, none⟩ = some v → g.on.cell? ⟨b, o, none⟩ = some v := fun g b o v h => (g.below.cell (p := ⟨b, o, none⟩) (by simpa using World.block_lt_of_cell? wg _ h)).trans h
        have t1 := fun g => cell g c0
        have t2 := fun g => cell g c1
        clear cell c0 c1
        repeat (go_big_quiet_step (fail))
        refine wpQuiet_nil ?_
        rintro w' ⟨gh, rfl⟩
        have HB3 := Lib.hid (HB2.out.trans (gh.below.mono HB2.out.size))
        clear t1 t2 HB2
        go_wp2_with fail
        go_ret
        exact ⟨by rw [← HD.out]; rfl, HB3.out⟩
    · obtain rfl : k = 20 := by omega
      have hdec : decide (lx f g 20 0 = -1) = false := by rw [HL.out]; rfl
      have HD := Lib.hid hdec
      have HB := Lib.hid hb
      clear hdec HL ha hr hb
      go_wp2_with fail
      go_ret
      exact ⟨by rw [HD.out]; rfl, HB.out⟩
end Go.Proofs.YtmcbaolecmkpdaaDoor
/- Which addresses are built-in contracts': the program's Precompile and the document's. -/
namespace Go.Proofs.YtmcbaolecmkpdaaDoor
open Go.RowKit SmWord
set_option maxRecDepth 100000

theorem val_ge {g : Nat → Nat} : ∀ {k i : Nat}, i < k → g i * 256 ^ i ≤ val g k
  | k + 1, i, h => by
    rw [val]
    by_cases e : i = k
    · subst e; omega
    · have := val_ge (g := g) (k := k) (i := i) (by omega)
      omega
theorem val_one {g : Nat → Nat} : ∀ {k : Nat}, (∀ i, i < k → g (i + 1) = 0) → val g (k + 1) = g 0
  | 0, _ => by simp [val]
  | k + 1, h => by
    rw [val, h k (by omega), val_one (k := k) fun i hi => h i (by omega)]
    simp
/-- The built-in contract's number, or 0. -/
def pre (f : Nat → Nat) : Nat := if val (gd f 20) 20 ≤ 9 then f 19 else 0
theorem pre_far {f : Nat → Nat} {k : Nat} (hk : k < 19) (h : f k ≠ 0) : pre f = 0 := by
  have h1 := val_ge (g := gd f 20) (k := 20) (i := 19 - k) (by omega)
  have e : gd f 20 (19 - k) = f k := by unfold gd; rw [show 20 - 1 - (19 - k) = k by omega]
  rw [e] at h1
  have h2 : 256 ^ 1 ≤ 256 ^ (19 - k) := Nat.pow_le_pow_right (by decide) (by omega)
  have h3 : 1 * 256 ^ (19 - k) ≤ f k * 256 ^ (19 - k) := Nat.mul_le_mul_right _ (by omega)
  unfold pre
  rw [if_neg (by omega)]
theorem pre_near {f : Nat → Nat} (h : ∀ k, k < 19 → f k = 0) : pre f = if f 19 ≤ 9 then f 19 else 0 := by
  have e : val (gd f 20) 20 = f 19 := val_one (g := gd f 20) (k := 19) fun i hi => by unfold gd; exact h _ (by omega)
  unfold pre
  rw [e]
set_option maxHeartbeats 1000000 in
theorem pre_walk (f : Nat → Nat) (w : World) (hf : ∀ i, i < 20 → f i < 256) :
    Calls Tryd.prog 18 #[.agg (aa f)] w fun e w' => e = .returned (.int .i64 ((pre f : Nat) : Int)) ∧ Below w.heap.size w w' := by
  have K1 := Lib.hid fun w => aword_walk f w hf
  have K2 := Lib.hid fun w => of_wd 9 w (by decide)
  obtain ⟨V, hV⟩ : ∃ V, val (gd f 20) 20 = V := ⟨_, rfl⟩
  have hVM : V < M := by
    have := val_lt (g := gd f 20) (k := 20) (fun i hi => hf _ (by omega))
    rw [hV] at this
    exact Nat.lt_of_lt_of_le this (by decide)
  have K3 := Lib.hid fun w => compare_wd V 9 w
  rw [Nat.mod_eq_of_lt hVM, show 9 % M = 9 by decide] at K3
  have hp : pre f = if V ≤ 9 then f 19 else 0 := by unfold pre; rw [hV]
  rw [hV] at K1
  rw [hp]
  clear hp hV hVM
  have f0 : (w.alloc (.cells (aa f) 23)).heap[w.heap.size]? = some (.cells (aa f) 23) := heap_alloc_new _ _
  have bW : Below w.heap.size w (w.alloc (.cells (aa f) 23)) := (Below.refl _ _).alloc (Nat.le_refl _) _
  have h19 := hf 19 (by decide)
  obtain ⟨z, hz⟩ : ∃ z, cmpN V 9 = z := ⟨_, rfl⟩
  rw [hz] at K3
  by_cases h9 : V ≤ 9
  · have hzz : ¬ (0 < z) := by rw [← hz]; unfold cmpN; split <;> (try split) <;> omega
    rw [if_pos h9]
    clear hz hf h9
    go_enter Tryd.func18, Tryd.ntmps18
    go_wp2_with (refine wpList_load_row rfl 23 _ rfl _ rfl 23 (aa f) (0, 0) _ f0 Tryd.underlying23 rfl (infoArrA _) ?_)
    refine (K1.out _).mono ?_
    rintro e w1 ⟨rfl, b1⟩
    have g0 := Lib.hid (stay b1 f0)
    have HB := Lib.hid (bW.trans (b1.mono bW.size))
    clear b1 bW f0
    go_wp2_with fail
    refine (K2.out _).mono ?_
    rintro e w2 ⟨rfl, b2⟩
    have g1 := Lib.hid (stay b2 g0.out)
    replace HB := Lib.hid (HB.out.trans (b2.mono HB.out.size))
    clear b2 g0
    go_wp2_with fail
    refine (K3.out _).mono ?_
    rintro e w3 ⟨rfl, b3⟩
    have c19 := blk_cell (stay b3 g1.out) (arr_get .u8 (fun i => ((f i : Nat) : Int)) (i := 19) (by decide))
    replace HB := Lib.hid (HB.out.trans (b3.mono HB.out.size))
    clear b3 g1
    go_wp2_with fail
    go_ret
    exact ⟨rfl, HB.out⟩
  · have hzz : 0 < z := by rw [← hz]; unfold cmpN; rw [if_neg (by omega), if_pos (by omega)]; decide
    rw [if_neg h9]
    clear hz hf h9
    go_enter Tryd.func18, Tryd.ntmps18
    go_wp2_with (refine wpList_load_row rfl 23 _ rfl _ rfl 23 (aa f) (0, 0) _ f0 Tryd.underlying23 rfl (infoArrA _) ?_)
    refine (K1.out _).mono ?_
    rintro e w1 ⟨rfl, b1⟩
    have HB := Lib.hid (bW.trans (b1.mono bW.size))
    clear b1 bW f0
    go_wp2_with fail
    refine (K2.out _).mono ?_
    rintro e w2 ⟨rfl, b2⟩
    replace HB := Lib.hid (HB.out.trans (b2.mono HB.out.size))
    clear b2
    go_wp2_with fail
    refine (K3.out _).mono ?_
    rintro e w3 ⟨rfl, b3⟩
    replace HB := Lib.hid (HB.out.trans (b3.mono HB.out.size))
    clear b3
    go_wp2_with fail
    go_ret
    exact ⟨rfl, HB.out⟩
set_option maxHeartbeats 1000000 in
theorem rpre_walk (f : Nat → Nat) (w : World) (hf : ∀ i, i < 20 → f i < 256) :
    Calls Tryd.prog 19 #[.agg (aa f)] w fun e w' => e = .returned (.int .i64 ((pre f : Nat) : Int)) ∧ Below w.heap.size w w' := by
  have f0 : (w.alloc (.cells (aa f) 23)).heap[w.heap.size]? = some (.cells (aa f) 23) := heap_alloc_new _ _
  have bW : Below w.heap.size w (w.alloc (.cells (aa f) 23)) := (Below.refl _ _).alloc (Nat.le_refl _) _
  have HF := Lib.hid hf
  clear hf
  go_enter Tryd.func19, Tryd.ntmps19
  go_wp2_with fail
  generalize w.alloc (.cells (aa f) 23) = W at *
  go_loopw [3] (fun i wr => ∃ k : Nat, k ≤ 19 ∧ i = .int .i64 k ∧ Hid (∀ j, j < k → f j = 0) ∧ Below w.heap.size w wr ∧ wr.heap[w.heap.size]? = some (.cells (aa f) 23)) (fun i _ => 19 - (intOf i).toNat)
  case atStart => exact ⟨0, Nat.zero_le _, rfl, Lib.hid (fun j hj => absurd hj (by omega)), bW, f0⟩
  case round =>
    obtain ⟨k, hk, rfl, HL, hb, ha⟩ := hrel
    clear f0 bW
    have HB := Lib.hid hb
    have HA := Lib.hid ha
    by_cases hlt : k < 19
    · have c0 := blk_cell ha (arr_get .u8 (fun i => ((f i : Nat) : Int)) (i := k) (by omega))
      clear ha hb
      by_cases e : f k = 0
      · rw [e] at c0
        go_wp2_with fail
        exact ⟨⟨k + 1, by omega, by go_num, Lib.hid (fun j hj => by
          by_cases h : j = k
          · subst h; exact e
          · exact HL.out j (by omega)), HB.out, HA.out⟩, by simp [intOf]; omega⟩
      · have hne : ((f k : Int) != 0) = true := by simp; omega
        have hp := Lib.hid (pre_far hlt e)
        clear HL e
        go_wp2_with fail
        go_ret
        exact ⟨by rw [hp.out]; rfl, HB.out⟩
    · obtain rfl : k = 19 := by omega
      have c0 := blk_cell ha (arr_get .u8 (fun i => ((f i : Nat) : Int)) (i := 19) (by omega))
      have hp := Lib.hid (pre_near HL.out)
      have h19 := HF.out 19 (by decide)
      clear ha hb HL HA HF
      by_cases e : f 19 ≤ 9
      · have hp2 := Lib.hid (hp.out.trans (if_pos e))
        clear hp
        go_wp2_with fail
        go_ret
        exact ⟨by rw [hp2.out]; rfl, HB.out⟩
      · have hp2 := Lib.hid (hp.out.trans (if_neg e))
        clear hp
        go_wp2_with fail
        go_ret
        exact ⟨by rw [hp2.out]; rfl, HB.out⟩
end Go.Proofs.YtmcbaolecmkpdaaDoor
