/- The address of a contract by a salt: the document's function. -/
import Derived.Test.YtmcbaolecmkpdaaDoorGd
import Derived.Test.YtmcbaolecmkpdaaDoorGc
namespace Go.Proofs.YtmcbaolecmkpdaaDoor
open Go.RowKit SmWord
set_option maxRecDepth 100000

theorem own_one (w : World) {base : Nat} (x : Nat) (hb : base ≤ w.heap.size) : (w.alloc (.cells #[Value.int .u8 ((x : Nat) : Int)] 5)).ownsRow base 5 1 (.slice (some ⟨w.heap.size, 0, none⟩) 1 1) 1 (lb8 [x]) :=
  ⟨rfl, .inr ⟨w.heap.size, 1, #[Value.int .u8 ((x : Nat) : Int)], rfl, hb, heap_alloc_new _ _, Nat.le_refl _, by decide, rfl, rfl⟩⟩
set_option maxHeartbeats 2000000 in
theorem rcreate2_core (f g F H V : Nat → Nat) (m n c : Nat) (A : Option Addr) (w : World) (hH : ∀ i, H i < 256) (hF : Hid (lf (l85 f (fun i => dig m (31 - i)) H) = F))
    (KS : Hid (∀ w : World, Sl w A n g → Calls Tryd.prog 32 #[.slice A n c] w fun e w' => e = .returned (.agg (ha H)) ∧ Below w.heap.size w w'))
    (KV : Hid (∀ (A : Option Addr) (c : Nat) (w : World), (A = none → 85 = 0 ∧ c = 0) → Sl w A 85 F → Calls Tryd.prog 32 #[.slice A 85 c] w fun e w' => e = .returned (.agg (ha V)) ∧ Below w.heap.size w w'))
     (hf : ∀ i, i < 20 → f i < 256) (hs : Sl w A n g) :
    Calls Tryd.prog 15 #[.agg (aa f), wd m, .slice A n c] w fun e w' => e = .returned (.agg (aa fun i => V (12 + i))) ∧ Below w.heap.size w w' := by
  have K1 := Lib.hid fun w => of_ref m w
  have K2 := Lib.hid fun w => bytes_ref m w
  have HS := Lib.hid hs
  have HF := Lib.hid hf
  clear hs hf
  have hz := wa_size
  go_enter Tryd.func15, Tryd.ntmps15
  go_wp2_with (first | (refine wpList_alloc_row rfl 23 rfl zA zA_run ?_))
  have g0 : (((w.alloc (.cells (aa f) 23)).alloc (.cells (wa m) 26)).alloc (.cells zA 23)).heap[w.heap.size]? = some (.cells (aa f) 23) := blk_alloc (blk_alloc (heap_alloc_new _ _))
  have g1 : (((w.alloc (.cells (aa f) 23)).alloc (.cells (wa m) 26)).alloc (.cells zA 23)).heap[w.heap.size + 1]? = some (.cells (wa m) 26) := blk_alloc (heap_alloc2_new _ _ _)
  have g2 : (((w.alloc (.cells (aa f) 23)).alloc (.cells (wa m) 26)).alloc (.cells zA 23)).heap[w.heap.size + 1 + 1]? = some (.cells zA 23) := by
    have := heap_alloc_new ((w.alloc (.cells (aa f) 23)).alloc (.cells (wa m) 26)) (.cells zA 23)
    simpa using this
  have bW : Below w.heap.size w (((w.alloc (.cells (aa f) 23)).alloc (.cells (wa m) 26)).alloc (.cells zA 23)) := (((Below.refl _ _).alloc (Nat.le_refl _) _).alloc (by simp) _).alloc (by simp; omega) _
  have hsz : w.heap.size + 3 ≤ (((w.alloc (.cells (aa f) 23)).alloc (.cells (wa m) 26)).alloc (.cells zA 23)).heap.size := by simp
  generalize (((w.alloc (.cells (aa f) 23)).alloc (.cells (wa m) 26)).alloc (.cells zA 23)) = W at *
  refine (KS.out W (HS.out.below bW)).mono ?_
  rintro e w1 ⟨rfl, b1⟩
  have G0 := stay b1 g0
  have G1 := stay b1 g1
  have G2 := stay b1 g2
  have HB := bW.trans (b1.mono bW.size)
  have hw1 := Nat.le_trans hsz b1.size
  have r0 : ((w1.alloc (.cells zH 57)).setRow w1.heap.size (ha H)).heap[w.heap.size]? = some (.cells (aa f) 23) := blk_row_other (blk_alloc G0) (by omega)
  have r1 : ((w1.alloc (.cells zH 57)).setRow w1.heap.size (ha H)).heap[w.heap.size + 1]? = some (.cells (wa m) 26) := blk_row_other (blk_alloc G1) (by omega)
  have r2 : ((w1.alloc (.cells zH 57)).setRow w1.heap.size (ha H)).heap[w.heap.size + 1 + 1]? = some (.cells zA 23) := blk_row_other (blk_alloc G2) (by omega)
  have r3 : ((w1.alloc (.cells zH 57)).setRow w1.heap.size (ha H)).heap[w1.heap.size]? = some (.cells (ha H) 57) := blk_row (heap_alloc_new _ _)
  have bH : Below w.heap.size w ((w1.alloc (.cells zH 57)).setRow w1.heap.size (ha H)) := below_setRow (HB.alloc HB.size _) (by omega) _
  have hz1 : w1.heap.size < ((w1.alloc (.cells zH 57)).setRow w1.heap.size (ha H)).heap.size := (Array.getElem?_eq_some_iff.1 r3).1
  clear g0 g1 g2 bW hsz G0 G1 G2 HB b1 HS KS
  go_wp2_with (first | (refine wpList_alloc_row rfl 57 rfl zH zH_run ?_) | (refine wpList_store_row rfl 57 _ _ rfl _ zH (ha H) rfl rfl (heap_alloc_new _ _) (infoArrH _) rfl (arr_one _ _ _) ?_) | (refine wpList_load_row rfl 26 _ rfl _ rfl 26 (wa m) (0, 0) _ r1 Tryd.underlying26 rfl Tryd.infoWa ?_))
  generalize ((w1.alloc (.cells zH 57)).setRow w1.heap.size (ha H)) = W1 at *
  obtain ⟨b1, hb1⟩ : ∃ b1, w1.heap.size = b1 := ⟨_, rfl⟩
  rw [hb1] at r3 hw1 hz1 ⊢
  clear hb1
  refine (K1.out _).mono ?_
  rintro e w2 ⟨rfl, b2⟩
  have G0 := stay b2 r0
  have G2 := stay b2 r2
  have G3 := stay b2 r3
  have HB := bH.trans (b2.mono bH.size)
  have hz2 := Nat.lt_of_lt_of_le hz1 b2.size
  clear r0 r1 r2 r3 bH b2 hz1
  go_wp2_with fail
  refine (K2.out _).mono ?_
  rintro e w3 ⟨rfl, b3⟩
  have r0 := stay b3 G0
  have r2 := stay b3 G2
  have r3 := stay b3 G3
  have bH := HB.trans (b3.mono HB.size)
  have hz3 := Nat.lt_of_lt_of_le hz2 b3.size
  clear G0 G2 G3 HB b3 hz2
  have G0 : ((w3.alloc (.cells zY 44)).setRow w3.heap.size (ya m)).heap[w.heap.size]? = some (.cells (aa f) 23) := blk_row_other (blk_alloc r0) (by omega)
  have G2 : ((w3.alloc (.cells zY 44)).setRow w3.heap.size (ya m)).heap[w.heap.size + 1 + 1]? = some (.cells zA 23) := blk_row_other (blk_alloc r2) (by omega)
  have G3 : ((w3.alloc (.cells zY 44)).setRow w3.heap.size (ya m)).heap[b1]? = some (.cells (ha H) 57) := blk_row_other (blk_alloc r3) (by omega)
  have G4 : ((w3.alloc (.cells zY 44)).setRow w3.heap.size (ya m)).heap[w3.heap.size]? = some (.cells (ya m) 44) := blk_row (heap_alloc_new _ _)
  have HB : Below w.heap.size w ((w3.alloc (.cells zY 44)).setRow w3.heap.size (ya m)) := below_setRow (bH.alloc bH.size _) (by omega) _
  clear r0 r2 r3 bH K1 K2
  go_upto_region 3 with (first | (refine wpList_alloc_row rfl 44 rfl zY zY_run ?_) | (refine wpList_store_row rfl 44 _ _ rfl _ zY (ya m) rfl rfl (heap_alloc_new _ _) (infoArrY _) rfl (arr_one _ _ _) ?_))
  generalize ((w3.alloc (.cells zY 44)).setRow w3.heap.size (ya m)) = W2 at *
  have w2z : w.heap.size ≤ W2.heap.size := HB.size
  have hz4 : b1 + 1 < W2.heap.size := by have := (Array.getElem?_eq_some_iff.1 G4).1; omega
  obtain ⟨b3, hb3⟩ : ∃ b3, w3.heap.size = b3 := ⟨_, rfl⟩
  rw [hb3] at G4 hz3 ⊢
  clear hb3
  have o0 : (W2.alloc (.cells #[Value.int .u8 255] 5)).ownsRow W2.heap.size 5 1 (.slice (some ⟨W2.heap.size, 0, none⟩) 1 1) 1 (lb8 [255]) := own_one W2 255 (Nat.le_refl _)
  have b0 : Below W2.heap.size W2 (W2.alloc (.cells #[Value.int .u8 255] 5)) := (Below.refl _ _).alloc (Nat.le_refl _) _
  have O0 := Lib.hid o0
  have B0 := Lib.hid b0
  have z0 : W2.heap.size ≤ (W2.alloc (.cells #[Value.int .u8 255] 5)).heap.size := b0.size
  clear o0 b0
  go_upto_region 4 with fail
  generalize W2.alloc (.cells #[Value.int .u8 255] 5) = X0 at *
  have s0 := (aa_sl G0 HF.out).below B0.out
  go_upto_region 5 with (at_builtin; refine append_sl rfl _ _ rfl W2.heap.size _ _ _ rfl O0.out _ 20 20 f rfl (fun h => by cases h) s0 (by decide) z0 ?_; intro v1 X1 o1 g1)
  have b1' : Below W2.heap.size W2 X1 := B0.out.grown g1 z0 (fun b hb' => (O0.out.lt b hb').1)
  have O1 := Lib.hid o1
  have B1 := Lib.hid b1'
  have z1 : W2.heap.size ≤ X1.heap.size := b1'.size
  clear o1 g1 b1' s0 z0 O0 B0
  have s1 := (ya_sl G4).below B1.out
  go_upto_region 6 with (at_builtin; refine append_sl rfl _ _ rfl W2.heap.size _ _ _ rfl O1.out _ 32 32 (fun i => dig m (31 - i)) rfl (fun h => by cases h) s1 (by decide) z1 ?_; intro v2 X2 o2 g2)
  have b2' : Below W2.heap.size W2 X2 := B1.out.grown g2 z1 (fun b hb' => (O1.out.lt b hb').1)
  have O2 := Lib.hid o2
  have B2 := Lib.hid b2'
  have z2 : W2.heap.size ≤ X2.heap.size := b2'.size
  clear o2 g2 b2' s1 z1 O1 B1
  have s2 := (ha_sl G3 hH).below B2.out
  go_upto_region 7 with (at_builtin; refine append_sl rfl _ _ rfl W2.heap.size _ _ _ rfl O2.out _ 32 32 H rfl (fun h => by cases h) s2 (by decide) z2 ?_; intro v3 X3 o3 g3)
  have b3' : Below W2.heap.size W2 X3 := B2.out.grown g3 z2 (fun b hb' => (O2.out.lt b hb').1)
  have hl : (l85 f (fun i => dig m (31 - i)) H).length = 85 := l85_length _ _ _
  have hlt := l85_lt HF.out (s := fun i => dig m (31 - i)) (fun _ _ => dig_lt _ _) (h := H) (fun i _ => hH i)
  rw [bb_lb8, bb_lb8, bb_lb8, ← lb8_app, ← lb8_app, ← lb8_app, show [255] ++ bf f 0 20 ++ bf (fun i => dig m (31 - i)) 0 32 ++ bf H 0 32 = l85 f (fun i => dig m (31 - i)) H from rfl, show 1 + 20 + 32 + 32 = (l85 f (fun i => dig m (31 - i)) H).length from hl.symm] at o3
  obtain ⟨A3, c3, rfl, _, hA3, hs3⟩ := own_list o3 (by rw [hl]; exact hlt)
  rw [hl] at hs3 hA3 ⊢
  rw [hF.out] at hs3 hlt
  have HA3 := Lib.hid hA3
  have HS3 := Lib.hid hs3
  have R3 := Lib.hid (stay b3' G2)
  have HB3 := Lib.hid (HB.trans (b3'.mono w2z))
  clear o3 g3 b3' hl s2 z2 O2 B2 hlt hs3 hA3 HB G0 G2 G3 G4 hF HF
  go_wp2_with fail
  refine (KV.out A3 c3 X3 HA3.out HS3.out).mono ?_
  rintro e X4 ⟨rfl, b4⟩
  have R4 := Lib.hid (stay b4 R3.out)
  have HB4 := Lib.hid (HB3.out.trans (b4.mono HB3.out.size))
  clear b4 HS3 HA3 HB3 R3
  go_wp2_with fail
  refine (last_walk V X4).mono ?_
  rintro e X5 ⟨rfl, b5⟩
  have R5 := stay b5 R4.out
  have HB5 := Lib.hid (HB4.out.trans (b5.mono HB4.out.size))
  clear b5 HB4 R4
  go_wp2_with (first | (refine wpList_store_row rfl 23 _ _ rfl _ zA (aa fun i => V (12 + i)) rfl rfl R5 (infoArrA _) rfl (arr_one _ _ _) ?_))
  refine bodyPost_ret (v := .agg (aa fun i => V (12 + i))) (results_cell_row rfl _ _ _ 23 (aa fun i => V (12 + i)) (0, 0) _ rfl (blk_row R5) Tryd.underlying23 rfl (infoArrA _)) rfl ⟨rfl, below_setRow HB5.out (by omega) _⟩
theorem rcreate2_walk (f g : Nat → Nat) (m n c : Nat) (A : Option Addr) (w : World) (hf : ∀ i, i < 20 → f i < 256) (hn : n ≤ 100000) (hA : A = none → n = 0 ∧ c = 0) (hs : Sl w A n g) :
    Calls Tryd.prog 15 #[.agg (aa f), wd m, .slice A n c] w fun e w' => e = .returned (.agg (aa (ad2 f (fun i => dig m (31 - i)) g n))) ∧ Below w.heap.size w w' :=
  rcreate2_core f g _ (kk g n) (kk (lf (l85 f (fun i => dig m (31 - i)) (kk g n))) 85) m n c A w (kk_lt g n) (Lib.hid rfl) (Lib.hid fun w hs => rsum_walk A n c g w hn hA hs) (Lib.hid fun A c w hA hs => rsum_walk A 85 c _ w (by decide) hA hs) hf hs
end Go.Proofs.YtmcbaolecmkpdaaDoor
/- The chapter's second example, as the function fixed of the statements has it: it returns true, and leaves all older memory as it was. -/
namespace Go.Proofs.YtmcbaolecmkpdaaDoor
open Go.RowKit SmWord
set_option maxRecDepth 100000

set_option maxHeartbeats 1000000 in
theorem afixed_core (w : World) (V : Nat → Nat) (h4 : V 0 = 77 ∧ V 1 = 26 ∧ V 18 = 191 ∧ V 19 = 56)
    (H : Hid (∀ (w : World) (b : Nat), Tab w → w.heap[b]? = some (.cells #[Value.int .u8 0] 5) → Calls Tryd.prog 14 #[.agg zA, .agg #[.int .u64 0, .int .u64 0, .int .u64 0, .int .u64 0], .slice (some ⟨b, 0, none⟩) 1 1] w fun e w' => e = .returned (.agg (aa V)) ∧ Below w.heap.size w w')) (hT : Tab w) :
    Calls Tryd.prog 7 #[] w fun e w' => e = .returned (.bool true) ∧ Below w.heap.size w w' := by
  have HT := Lib.hid hT
  have H4 := Lib.hid h4
  clear hT h4
  go_enter Tryd.func7, Tryd.ntmps7
  go_wp2_with (first | (refine wpList_build_zero rfl 23 rfl Tryd.underlying23 Tryd.sizeOf5 zA zA_run ?_) | (refine wpList_alloc_row rfl 23 rfl zA zA_run ?_))
  have bW : Below w.heap.size w (w.alloc (.cells #[Value.int .u8 0] 5)) := (Below.refl _ _).alloc (Nat.le_refl _) _
  refine (H.out _ w.heap.size (HT.out.below bW) (heap_alloc_new _ _)).mono ?_
  rintro e w1 ⟨rfl, b1⟩
  have HB := Lib.hid (bW.trans (b1.mono bW.size))
  clear b1 bW
  have f1 : ((w1.alloc (.cells zA 23)).setRow w1.heap.size (aa V)).heap[w1.heap.size]? = some (.cells (aa V) 23) := blk_row (heap_alloc_new _ _)
  have bW : Below w.heap.size w ((w1.alloc (.cells zA 23)).setRow w1.heap.size (aa V)) := below_setRow (HB.out.alloc HB.out.size _) HB.out.size _
  clear HB
  go_upto_region 2 with (first | (refine wpList_alloc_row rfl 23 rfl zA zA_run ?_) | (refine wpList_store_row rfl 23 _ _ rfl _ zA (aa V) rfl rfl (heap_alloc_new _ _) (infoArrA _) rfl (arr_one _ _ _) ?_))
  generalize ((w1.alloc (.cells zA 23)).setRow w1.heap.size (aa V)) = W2 at *
  have cc : ∀ i x, i < 20 → V i = x → W2.cell? ⟨w1.heap.size, i, none⟩ = some (.int .u8 ((x : Nat) : Int)) := fun i x hi hx => by
    have := blk_cell f1 (arr_get .u8 (fun i => ((V i : Nat) : Int)) hi)
    simp only [hx] at this
    exact this
  have c0 := cc 0 77 (by decide) H4.out.1
  have c1 := cc 1 26 (by decide) H4.out.2.1
  have c18 := cc 18 191 (by decide) H4.out.2.2.1
  have c19 := cc 19 56 (by decide) H4.out.2.2.2
  have HB := Lib.hid bW
  clear cc f1 bW
  go_wp2_with fail
  go_ret
  exact ⟨rfl, HB.out⟩
theorem afixed_walk (w : World) (hT : Tab w) : Calls Tryd.prog 7 #[] w fun e w' => e = .returned (.bool true) ∧ Below w.heap.size w w' := by
  have hz : (fun i => dig 0 (31 - i)) = fun _ => 0 := funext fun i => by simp [dig]
  have h := fun (w : World) (b : Nat) (hT : Tab w) (hb : w.heap[b]? = some (.cells #[Value.int .u8 0] 5)) => create2_walk (fun _ => 0) (fun _ => 0) 0 1 1 (some ⟨b, 0, none⟩) w (fun _ _ => by decide) (by decide) (Nat.le_refl _) hT ⟨fun _ _ => by decide, fun _ => ⟨b, 0, rfl, (Array.getElem?_eq_some_iff.1 hb).1, fun i hi => by
    obtain rfl : i = 0 := by omega
    exact blk_cell hb rfl⟩⟩
  rw [hz] at h
  exact afixed_core w (ad2 (fun _ => 0) (fun _ => 0) (fun _ => 0) 1) example_four (Lib.hid h) hT
end Go.Proofs.YtmcbaolecmkpdaaDoor
