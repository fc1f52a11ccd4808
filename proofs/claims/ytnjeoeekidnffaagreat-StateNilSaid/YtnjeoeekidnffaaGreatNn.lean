/- Stage 14: the document's SetBalance. -/
import Derived.Test.YtnjeoeekidnffaaGreatNm
namespace Go.Proofs.YtnjeoeekidnffaaGreat
open Go.RowKit SmWord Go.Maps
set_option maxRecDepth 100000

/-- An entry with another balance. -/
def enBa (e : EnV) (n : Nat) : EnV := { e with x := { e.x with a := { e.x.a with ba := n } } }
theorem enC_ba (e : EnV) (n : Nat) : putAt (enC e) 21 (wa n).toList = enC (enBa e n) := by
  have h1 : (aN e.x.a.ad).toList.length = 20 := by simp [aN_size]
  have h2 : (wa e.x.a.ba).toList.length = 4 := by simp [wa_size]
  have h3 : (wa n).toList.length = 4 := by simp [wa_size]
  have := putAt_right ((aN e.x.a.ad).toList ++ [.int .u64 (e.x.a.no : Int)]) ((wa e.x.a.ba).toList ++ ([e.x.p, e.x.q] ++ [.bool e.fr, .bool e.de])) 0 (wa n).toList
  rw [List.length_append, h1] at this
  have e1 : enC e = ((aN e.x.a.ad).toList ++ [.int .u64 (e.x.a.no : Int)]) ++ ((wa e.x.a.ba).toList ++ ([e.x.p, e.x.q] ++ [.bool e.fr, .bool e.de])) := by
    unfold enC acs
    simp
  rw [e1]
  refine this.trans ?_
  have e2 : putAt ((wa e.x.a.ba).toList ++ ([e.x.p, e.x.q] ++ [.bool e.fr, .bool e.de])) 0 (wa n).toList = (wa n).toList ++ ([e.x.p, e.x.q] ++ [.bool e.fr, .bool e.de]) := by
    unfold putAt
    rw [List.take_zero, h3, List.drop_append_of_le_length (by omega), List.drop_of_length_le (by omega)]
    rfl
  rw [e2]
  unfold enC acs enBa
  simp
theorem sbboxes (w : World) (d : Dst) (A n : Nat) : ∃ W, (((w.alloc (.cells (dC d) 37)).alloc (.cells (aN A) 41)).alloc (.cells (wa n) 44)).alloc (.cells (dC dst0) 37) = W ∧ W.heap[w.heap.size]? = some (.cells (dC d) 37) ∧ W.heap[w.heap.size + 1]? = some (.cells (aN A) 41) ∧ W.heap[w.heap.size + 2]? = some (.cells (wa n) 44) ∧ W.heap[w.heap.size + 3]? = some (.cells (dC dst0) 37) ∧ Below w.heap.size w W ∧ W.heap.size = w.heap.size + 4 := by
  obtain ⟨w1, h1⟩ : ∃ w1, w.alloc (.cells (dC d) 37) = w1 := ⟨_, rfl⟩
  have s1 : w1.heap.size = w.heap.size + 1 := h1 ▸ by simp
  have g1 : w1.heap[w.heap.size]? = some (.cells (dC d) 37) := h1 ▸ heap_alloc_new _ _
  have b1 : Below w.heap.size w w1 := h1 ▸ (Below.refl _ _).alloc (Nat.le_refl _) _
  obtain ⟨w2, h2⟩ : ∃ w2, w1.alloc (.cells (aN A) 41) = w2 := ⟨_, rfl⟩
  have s2 : w2.heap.size = w.heap.size + 2 := h2 ▸ by simp [s1]
  have g2 : w2.heap[w.heap.size + 1]? = some (.cells (aN A) 41) := by rw [← s1]; exact h2 ▸ heap_alloc_new _ _
  have b2 : Below w1.heap.size w1 w2 := h2 ▸ (Below.refl _ _).alloc (Nat.le_refl _) _
  obtain ⟨w3, h3⟩ : ∃ w3, w2.alloc (.cells (wa n) 44) = w3 := ⟨_, rfl⟩
  have s3 : w3.heap.size = w.heap.size + 3 := h3 ▸ by simp [s2]
  have g3 : w3.heap[w.heap.size + 2]? = some (.cells (wa n) 44) := by rw [← s2]; exact h3 ▸ heap_alloc_new _ _
  have b3 : Below w2.heap.size w2 w3 := h3 ▸ (Below.refl _ _).alloc (Nat.le_refl _) _
  obtain ⟨w4, h4⟩ : ∃ w4, w3.alloc (.cells (dC dst0) 37) = w4 := ⟨_, rfl⟩
  have g4 : w4.heap[w.heap.size + 3]? = some (.cells (dC dst0) 37) := by rw [← s3]; exact h4 ▸ heap_alloc_new _ _
  have b4 : Below w3.heap.size w3 w4 := h4 ▸ (Below.refl _ _).alloc (Nat.le_refl _) _
  exact ⟨w4, by rw [h1, h2, h3, h4], stay b4 (stay b3 (stay b2 g1)), stay b4 (stay b3 g2), stay b4 g3, g4, ((b1.trans (b2.mono b1.size)).trans (b3.mono (by omega))).trans (b4.mono (by omega)), h4 ▸ by simp [s3]⟩
set_option maxHeartbeats 4000000 in
theorem setBalance_walk {Z : Hp} {V0 : List AV} {W : List EnV} (R : Hp → Value → Prop) (d : Dst) (A n : Nat) (w : World) (hd : d.One) (hb : AccsZ Z d.w V0) (h : EnsZ Z d.l W) (hz : Sub Z (hp w)) (hA : A < 2 ^ 160) (hn : n < M) (hl : W.length ≤ 1000000) (hl0 : V0.length ≤ 1000000)
    (HK : Hid (∀ w1, Below w.heap.size w w1 → Calls Tryz.prog 88 #[.agg (dC d)] w1 fun e w2 => ∃ v, e = .returned (.agg (dC { d with ps := v })) ∧ v.oneCell' = true ∧ (∃ Zk, R Zk v ∧ Sub Zk (fr w1.heap.size w2)) ∧ Below w1.heap.size w1 w2)) :
    Calls Tryz.prog 43 #[.agg (dC d), .agg (aN A), wd n] w fun e w' => ∃ v l' Zk, e = .returned (.agg (dC { d with ps := v, l := l' })) ∧ v.oneCell' = true ∧ EnsZ (orH Z (fr w.heap.size w')) l' (woE W (enBa (atV W V0 A) n).x.a.ad ++ [enBa (atV W V0 A) n]) ∧ R Zk v ∧ Sub Zk (fr w.heap.size w') ∧ Below w.heap.size w w' := by
  obtain ⟨V, hV, f0, f1, fw, f2, bW, sW⟩ := sbboxes w d A n
  have hs := aN_size A
  have hwz := wa_size
  have FW := Lib.hid fw
  unfold wd
  have HB := Lib.hid bW
  have F0 := Lib.hid f0
  have F2 := Lib.hid f2
  have SV := Lib.hid sW
  have KA := Lib.hid (dat_walk d A V hb h (hz.trans (hp_below bW)) hA hl hl0)
  have hzx := atV_z hb h hA
  have HZE := Lib.hid hzx
  obtain ⟨e0, he0⟩ : ∃ e0, atV W V0 A = e0 := ⟨_, rfl⟩
  rw [he0] at KA HZE ⊢
  have hnz : AccZ Z (enBa e0 n).x := { HZE.out with ba := hn }
  have HNZ := Lib.hid hnz
  have KW := Lib.hid fun w1 (b1 : Below w.heap.size w w1) => with_walk R d (enBa e0 n) w1 hd h hnz (hz.trans (hp_below b1)) hl (Lib.hid fun w2 b2 => HK.out w2 (b1.trans (b2.mono b1.size)))
  have r0 := (rng_block (w := V) (cs := (dC d).toList) (by simpa [dC] using f0)).at
  have r1 := adblk f1
  have one0 := enC_ones HZE.out
  clear f0 f1 f2 fw bW sW hb h hz hA hn hl hl0 HK hzx he0 hnz
  unfold eval' at KA
  go_enter Tryz.func43, Tryz.ntmps43
  go_upto_region 1 with (refine wpList_alloc_row rfl 37 rfl _ zeroD ?_)
  try rw [hV]
  clear hV
  go_upto_region 2 with (first
    | (refine wpList_load_mid rfl 37 _ rfl w.heap.size 0 rfl (dC d).toList _ r0 Tryz.underlying37 rfl infoD ?_)
    | (refine wpList_load_mid rfl 41 _ rfl (w.heap.size + 1) 0 rfl (aN A).toList _ r1 Tryz.underlying41 rfl (infoAd _) ?_; simp only [Array.toArray_toList])
    | (go_at_call 56; refine KA.out.mono ?_; rintro e w1 ⟨rfl, b1⟩)
    | (refine wpList_alloc_row rfl 109 rfl _ zeroEn ?_)
    | (refine wpList_store_row rfl 109 _ _ rfl _ (enC ⟨noneAV, false, false⟩).toArray (enC e0).toArray rfl rfl (heap_alloc_new _ _) (by simpa using infoEn e0) (by simp [enC_len]) one0 ?_))
  obtain ⟨w2, hw2⟩ : ∃ w2, (w1.alloc (.cells (enC ⟨noneAV, false, false⟩).toArray 109)).setRow w1.heap.size (enC e0).toArray = w2 := ⟨_, rfl⟩
  have g2 : w2.heap[w1.heap.size]? = some (.cells (enC e0).toArray 109) := hw2 ▸ blk_row (heap_alloc_new _ _)
  have b2 : Below V.heap.size V w2 := hw2 ▸ below_setRow (b1.alloc b1.size _) b1.size _
  rw [hw2]
  have hsc := store_put g2 n (by rw [enC_len]; decide : 21 + 4 ≤ (enC e0).length)
  rw [enC_ba] at hsc
  have rw2 := (rng_block (cs := (wa n).toList) (by simpa using stay b2 FW.out)).at
  have s1 := b1.size
  have G3 := Lib.hid (blk_row (c' := (enC (enBa e0 n)).toArray) g2)
  have B3 := Lib.hid (below_setRow b2 s1 (enC (enBa e0 n)).toArray)
  have F03 := Lib.hid (stay B3.out F0.out)
  have F23 := Lib.hid (stay B3.out F2.out)
  clear hw2 b1 KA r0 r1 one0
  go_upto_region 3 with (refine wpList_load_mid rfl 44 _ rfl (w.heap.size + 1 + 1) 0 rfl (wa n).toList _ rw2 Tryz.underlying44 rfl (infoW4 _) ?_; simp only [Array.toArray_toList])
  obtain ⟨w3, hw3⟩ : ∃ w3, w2.setRow w1.heap.size (enC (enBa e0 n)).toArray = w3 := ⟨_, rfl⟩
  rw [hw3] at G3 B3 F03 F23 ⊢
  clear hw3 hsc g2 b2 rw2
  have KW3 := Lib.hid (KW.out w3 (HB.out.trans (B3.out.mono HB.out.size)))
  unfold eval' at KW3
  have r3 := (rng_block (w := w3) (cs := (dC d).toList) (by simpa [dC] using F03.out)).at
  have r4 := (rng_block G3.out).at
  have S3 := Lib.hid B3.out.size
  have sV := SV.out
  clear KW
  go_wp2_with (first
    | (refine wpList_load_mid rfl 37 _ rfl w.heap.size 0 rfl (dC d).toList _ r3 Tryz.underlying37 rfl infoD ?_)
    | (refine wpList_load_mid rfl 109 _ rfl w1.heap.size 0 rfl (enC (enBa e0 n)) _ r4 Tryz.underlying109 rfl (infoEn _) ?_)
    | (go_at_call 81; refine KW3.out.mono ?_; rintro e w4 ⟨v, l', Zk, rfl, hv, hE, hR, hZ, b4⟩; have hone : (dC { d with ps := v, l := l' }).all (·.oneCell') = true := Dst.One.arr ⟨hd.w, hE.row.oneCell, hd.wm, hd.sl, hd.lg, hv⟩; obtain ⟨d2, hd2⟩ : ∃ d2, ({ d with ps := v, l := l' } : Dst) = d2 := ⟨_, rfl⟩; rw [hd2] at hone ⊢)
    | (refine wpList_store_row rfl 37 _ _ rfl (w.heap.size + 3) _ (dC d2) rfl rfl (stay b4 F23.out) (by simpa using infoD (d := d2)) rfl hone ?_))
  have hs3 := S3.out
  have BF := below_setRow (HB.out.trans ((B3.out.mono HB.out.size).trans (b4.mono (by omega)))) (show w.heap.size ≤ w.heap.size + 3 by omega) (dC d2)
  have hfr : Sub (fr w3.heap.size w4) (fr w.heap.size (w4.setRow (w.heap.size + 3) (dC d2))) := fun b o hb => by
    unfold fr at hb ⊢
    split at hb
    · rw [if_pos (by omega), setRow_other _ _ _ _ (by omega)]
      exact hb
    · cases hb
  exact bodyPost_ret (v := .agg (dC d2)) (results_cell_row rfl _ _ _ 37 _ (0, 0) _ rfl (blk_row (stay b4 F23.out)) Tryz.underlying37 rfl (by simpa using infoD (d := d2))) rfl ⟨v, l', Zk, by rw [hd2], hv, ⟨hE.row.sub (orH_mono hfr), fun e he => (hE.each e he).sub (orH_mono hfr)⟩, hR, hZ.trans hfr, BF⟩
end Go.Proofs.YtnjeoeekidnffaaGreat
/- Stage 14: the document's Make. -/
namespace Go.Proofs.YtnjeoeekidnffaaGreat
open Go.RowKit SmWord Go.Maps
set_option maxRecDepth 100000

/-- An entry made fresh: its slots are an empty row at qb. -/
def enMk (e : EnV) (qb : Nat) : EnV := { e with fr := true, x := { e.x with a := { e.x.a with so := [] }, q := .slice (some ⟨qb, 0, none⟩) 0 0 } }
theorem enMk_z {Z : Hp} {e : EnV} (h : AccZ Z e.x) (qb : Nat) : AccZ Z (enMk e qb).x :=
  { h with
    sto := ⟨rfl, some ⟨qb, 0, none⟩, 0, rfl, Nat.le_refl _, by simp [maxLen], (fun h => by cases h), (fun h => absurd (show 0 < 0 from h) (by decide))⟩
    sM := fun s hs => by cases hs
    sl := by show 0 ≤ 1000000; omega }
theorem enC_fr (e : EnV) : putAt (enC e) 27 [.bool true] = enC { e with fr := true } := by
  have := putAt_right (acs e.x) [.bool e.fr, .bool e.de] 0 [.bool true]
  rw [acs_len] at this
  exact this
theorem enC_mk (e : EnV) (qb : Nat) : putAt (enC { e with fr := true }) 26 [.slice (some ⟨qb, 0, none⟩) 0 0] = enC (enMk e qb) := by
  have h1 : ((aN e.x.a.ad).toList ++ (.int .u64 (e.x.a.no : Int) :: (wa e.x.a.ba).toList ++ [e.x.p])).length = 26 := by simp [aN_size, wa_size]
  have := putAt_right ((aN e.x.a.ad).toList ++ (.int .u64 (e.x.a.no : Int) :: (wa e.x.a.ba).toList ++ [e.x.p])) [e.x.q, .bool true, .bool e.de] 0 [.slice (some ⟨qb, 0, none⟩) 0 0]
  rw [h1] at this
  have e1 : enC { e with fr := true } = (aN e.x.a.ad).toList ++ (.int .u64 (e.x.a.no : Int) :: (wa e.x.a.ba).toList ++ [e.x.p]) ++ [e.x.q, .bool true, .bool e.de] := by
    unfold enC acs
    simp
  rw [e1]
  refine this.trans ?_
  unfold enC acs enMk putAt
  simp
set_option maxHeartbeats 4000000 in
theorem make_walk {Z : Hp} {V0 : List AV} {W : List EnV} (R : Hp → Value → Prop) (d : Dst) (A : Nat) (w : World) (hd : d.One) (hb : AccsZ Z d.w V0) (h : EnsZ Z d.l W) (hz : Sub Z (hp w)) (hA : A < 2 ^ 160) (hl : W.length ≤ 1000000) (hl0 : V0.length ≤ 1000000)
    (HK : Hid (∀ w1, Below w.heap.size w w1 → Calls Tryz.prog 88 #[.agg (dC d)] w1 fun e w2 => ∃ v, e = .returned (.agg (dC { d with ps := v })) ∧ v.oneCell' = true ∧ (∃ Zk, R Zk v ∧ Sub Zk (fr w1.heap.size w2)) ∧ Below w1.heap.size w1 w2)) :
    Calls Tryz.prog 46 #[.agg (dC d), .agg (aN A)] w fun e w' => ∃ v l' Zk qb, e = .returned (.agg (dC { d with ps := v, l := l' })) ∧ v.oneCell' = true ∧ EnsZ (orH Z (fr w.heap.size w')) l' (woE W (atV W V0 A).x.a.ad ++ [enMk (atV W V0 A) qb]) ∧ R Zk v ∧ Sub Zk (fr w.heap.size w') ∧ Below w.heap.size w w' := by
  obtain ⟨V, hV, f0, f1, f2, bW, sW⟩ := sdboxes w d A
  have hs := aN_size A
  have HB := Lib.hid bW
  have F0 := Lib.hid f0
  have F2 := Lib.hid f2
  have SV := Lib.hid sW
  have KA := Lib.hid (dat_walk d A V hb h (hz.trans (hp_below bW)) hA hl hl0)
  have hzx := atV_z hb h hA
  have HZE := Lib.hid hzx
  obtain ⟨e0, he0⟩ : ∃ e0, atV W V0 A = e0 := ⟨_, rfl⟩
  rw [he0] at KA HZE ⊢
  have hnz : ∀ qb, AccZ Z (enMk e0 qb).x := fun qb => enMk_z HZE.out qb
  have HNZ := Lib.hid hnz
  have KW := Lib.hid fun w1 (b1 : Below w.heap.size w w1) qb => with_walk R d (enMk e0 qb) w1 hd h (hnz qb) (hz.trans (hp_below b1)) hl (Lib.hid fun w2 b2 => HK.out w2 (b1.trans (b2.mono b1.size)))
  have r0 := (rng_block (w := V) (cs := (dC d).toList) (by simpa [dC] using f0)).at
  have r1 := adblk f1
  have one0 := enC_ones HZE.out
  clear f0 f1 f2 bW sW hb h hz hA hl hl0 HK hzx he0 hnz
  unfold eval' at KA
  go_enter Tryz.func46, Tryz.ntmps46
  go_upto_region 1 with (refine wpList_alloc_row rfl 37 rfl _ zeroD ?_)
  try rw [hV]
  clear hV
  go_upto_region 2 with (first
    | (refine wpList_load_mid rfl 37 _ rfl w.heap.size 0 rfl (dC d).toList _ r0 Tryz.underlying37 rfl infoD ?_)
    | (refine wpList_load_mid rfl 41 _ rfl (w.heap.size + 1) 0 rfl (aN A).toList _ r1 Tryz.underlying41 rfl (infoAd _) ?_; simp only [Array.toArray_toList])
    | (go_at_call 56; refine KA.out.mono ?_; rintro e w1 ⟨rfl, b1⟩)
    | (refine wpList_alloc_row rfl 109 rfl _ zeroEn ?_)
    | (refine wpList_store_row rfl 109 _ _ rfl _ (enC ⟨noneAV, false, false⟩).toArray (enC e0).toArray rfl rfl (heap_alloc_new _ _) (by simpa using infoEn e0) (by simp [enC_len]) one0 ?_))
  obtain ⟨w2, hw2⟩ : ∃ w2, (w1.alloc (.cells (enC ⟨noneAV, false, false⟩).toArray 109)).setRow w1.heap.size (enC e0).toArray = w2 := ⟨_, rfl⟩
  have g2 : w2.heap[w1.heap.size]? = some (.cells (enC e0).toArray 109) := hw2 ▸ blk_row (heap_alloc_new _ _)
  have b2 : Below V.heap.size V w2 := hw2 ▸ below_setRow (b1.alloc b1.size _) b1.size _
  rw [hw2]
  have hf2 : w2.frozen? ⟨w1.heap.size, 27, none⟩ = false := by simp [World.frozen?, g2]
  obtain ⟨u2, hc2⟩ : ∃ u, w2.cell? ⟨w1.heap.size, 27, none⟩ = some u := ⟨_, blk_cell (v := (enC e0)[27]'(by rw [enC_len]; decide)) g2 (by simp [enC_len])⟩
  have hsc := setCell_put g2 (by rw [enC_len]; decide : 27 < (enC e0).length) (.bool true)
  rw [enC_fr] at hsc
  have s1 := b1.size
  clear hw2 b1 KA r0 r1 one0
  go_upto_region 3 with fail
  obtain ⟨wb, hwb⟩ : ∃ wb, w2.setRow w1.heap.size (enC { e0 with fr := true }).toArray = wb := ⟨_, rfl⟩
  have gb : wb.heap[w1.heap.size]? = some (.cells (enC { e0 with fr := true }).toArray 109) := hwb ▸ blk_row g2
  have bb : Below V.heap.size V wb := hwb ▸ below_setRow b2 s1 _
  rw [hwb]
  clear hwb hsc hf2 hc2 g2 b2
  have gc : (wb.alloc (.cells #[] 136)).heap[w1.heap.size]? = some (.cells (enC { e0 with fr := true }).toArray 109) := blk_alloc gb
  have bc : Below V.heap.size V (wb.alloc (.cells #[] 136)) := bb.alloc bb.size _
  have hf2 : (wb.alloc (.cells #[] 136)).frozen? ⟨w1.heap.size, 26, none⟩ = false := by simp only [World.frozen?, gc]; rfl
  obtain ⟨u3, hc2⟩ : ∃ u, (wb.alloc (.cells #[] 136)).cell? ⟨w1.heap.size, 26, none⟩ = some u := ⟨_, blk_cell (v := (enC { e0 with fr := true })[26]'(by rw [enC_len]; decide)) gc (by simp [enC_len])⟩
  have hsc := setCell_put gc (by rw [enC_len]; decide : 26 < (enC { e0 with fr := true }).length) (.slice (some ⟨wb.heap.size, 0, none⟩) 0 0)
  rw [enC_mk] at hsc
  have G3 := Lib.hid (blk_row (c' := (enC (enMk e0 wb.heap.size)).toArray) gc)
  have B3 := Lib.hid (below_setRow bc s1 (enC (enMk e0 wb.heap.size)).toArray)
  have F03 := Lib.hid (stay B3.out F0.out)
  have F23 := Lib.hid (stay B3.out F2.out)
  go_upto_region 4 with fail
  obtain ⟨w3, hw3⟩ : ∃ w3, (wb.alloc (.cells #[] 136)).setRow w1.heap.size (enC (enMk e0 wb.heap.size)).toArray = w3 := ⟨_, rfl⟩
  rw [hw3] at G3 B3 F03 F23 ⊢
  clear hw3 hsc hc2 hf2 gb bb gc bc
  have KW3 := Lib.hid (KW.out w3 (HB.out.trans (B3.out.mono HB.out.size)) wb.heap.size)
  unfold eval' at KW3
  have r3 := (rng_block (w := w3) (cs := (dC d).toList) (by simpa [dC] using F03.out)).at
  have r4 := (rng_block G3.out).at
  have S3 := Lib.hid B3.out.size
  have sV := SV.out
  clear KW
  go_wp2_with (first
    | (refine wpList_load_mid rfl 37 _ rfl w.heap.size 0 rfl (dC d).toList _ r3 Tryz.underlying37 rfl infoD ?_)
    | (refine wpList_load_mid rfl 109 _ rfl w1.heap.size 0 rfl (enC (enMk e0 wb.heap.size)) _ r4 Tryz.underlying109 rfl (infoEn _) ?_)
    | (go_at_call 81; refine KW3.out.mono ?_; rintro e w4 ⟨v, l', Zk, rfl, hv, hE, hR, hZ, b4⟩; have hone : (dC { d with ps := v, l := l' }).all (·.oneCell') = true := Dst.One.arr ⟨hd.w, hE.row.oneCell, hd.wm, hd.sl, hd.lg, hv⟩; obtain ⟨d2, hd2⟩ : ∃ d2, ({ d with ps := v, l := l' } : Dst) = d2 := ⟨_, rfl⟩; rw [hd2] at hone ⊢)
    | (refine wpList_store_row rfl 37 _ _ rfl (w.heap.size + 2) _ (dC d2) rfl rfl (stay b4 F23.out) (by simpa using infoD (d := d2)) rfl hone ?_))
  have hs3 := S3.out
  have BF := below_setRow (HB.out.trans ((B3.out.mono HB.out.size).trans (b4.mono (by omega)))) (show w.heap.size ≤ w.heap.size + 2 by omega) (dC d2)
  have hfr : Sub (fr w3.heap.size w4) (fr w.heap.size (w4.setRow (w.heap.size + 2) (dC d2))) := fun b o hb => by
    unfold fr at hb ⊢
    split at hb
    · rw [if_pos (by omega), setRow_other _ _ _ _ (by omega)]
      exact hb
    · cases hb
  exact bodyPost_ret (v := .agg (dC d2)) (results_cell_row rfl _ _ _ 37 _ (0, 0) _ rfl (blk_row (stay b4 F23.out)) Tryz.underlying37 rfl (by simpa using infoD (d := d2))) rfl ⟨v, l', Zk, wb.heap.size, by rw [hd2], hv, ⟨hE.row.sub (orH_mono hfr), fun e he => (hE.each e he).sub (orH_mono hfr)⟩, hR, hZ.trans hfr, BF⟩
end Go.Proofs.YtnjeoeekidnffaaGreat
/- Stage 14: the document's Add. -/
namespace Go.Proofs.YtnjeoeekidnffaaGreat
open Go.RowKit SmWord Go.Maps
set_option maxRecDepth 100000

set_option maxHeartbeats 4000000 in
theorem add_walk (R : Hp → Value → Prop) (d : Dst) (r : Int) (w : World) (hd : d.One)
    (HK : Hid (∀ w1, Below w.heap.size w w1 → Calls Tryz.prog 88 #[.agg (dC d)] w1 fun e w2 => ∃ v, e = .returned (.agg (dC { d with ps := v })) ∧ v.oneCell' = true ∧ (∃ Zk, R Zk v ∧ Sub Zk (fr w1.heap.size w2)) ∧ Below w1.heap.size w1 w2)) :
    Calls Tryz.prog 51 #[.agg (dC d), .int .i64 r] w fun e w' => ∃ v Zk, e = .returned (.agg (dC { d with ps := v, rf := wrap64 (d.rf + r) })) ∧ v.oneCell' = true ∧ R Zk v ∧ Sub Zk (fr w.heap.size w') ∧ Below w.heap.size w w' := by
  obtain ⟨V, hV, f0, f2, bW, sW⟩ := dboxes w d
  have HB := Lib.hid bW
  have F0 := Lib.hid f0
  have F2 := Lib.hid f2
  have SV := Lib.hid sW
  have KK := Lib.hid (HK.out V bW)
  have r0 := (rng_block (w := V) (cs := (dC d).toList) (by simpa [dC] using f0)).at
  have one := hd
  clear f0 f2 bW sW HK
  go_enter Tryz.func51, Tryz.ntmps51
  go_upto_region 1 with (refine wpList_alloc_row rfl 37 rfl _ zeroD ?_)
  try rw [hV]
  clear hV
  go_upto_region 2 with (first
    | (refine wpList_load_mid rfl 37 _ rfl w.heap.size 0 rfl (dC d).toList _ r0 Tryz.underlying37 rfl infoD ?_)
    | (go_at_call 88; refine KK.out.mono ?_; rintro e w1 ⟨v, rfl, hv1, ⟨Zk, hR, hZk⟩, b1⟩; have hst1 : (dC { d with ps := v }).all (·.oneCell') = true := Dst.One.arr ⟨one.w, one.l, one.wm, one.sl, one.lg, hv1⟩; obtain ⟨d', hd'⟩ : ∃ d', ({ d with ps := v } : Dst) = d' := ⟨_, rfl⟩; rw [hd'] at hst1 ⊢; have g0 := Lib.hid (stay b1 F0.out))
    | (refine wpList_store_row rfl 37 _ _ rfl w.heap.size _ (dC d') rfl rfl g0.out (by simpa using infoD (d := d')) rfl hst1 ?_))
  have sV := SV.out
  have hrf : d'.rf = d.rf := by rw [← hd']
  have HB1 := Lib.hid (HB.out.trans (b1.mono HB.out.size))
  obtain ⟨w2, hw2⟩ : ∃ w2, w1.setRow w.heap.size (dC d') = w2 := ⟨_, rfl⟩
  have G0 : Hid (w2.heap[w.heap.size]? = some (.cells (dL d').toArray 37)) := Lib.hid (hw2 ▸ blk_row g0.out)
  have G2 : Hid (w2.heap[w.heap.size + 1]? = some (.cells (dC dst0) 37)) := Lib.hid (hw2 ▸ (setRow_other _ _ _ _ (by omega)).trans (stay b1 F2.out))
  have B2 : Hid (Below w.heap.size w w2) := Lib.hid (hw2 ▸ below_setRow HB1.out (Nat.le_refl _) _)
  have sV1 := b1.size
  have ZK : Hid (Sub Zk (fr V.heap.size w2)) := Lib.hid (hw2 ▸ fun b o hb => by
    have h1 := hZk b o hb
    unfold fr at h1 ⊢
    split at h1
    · rename_i hle
      rw [if_pos hle, setRow_other _ _ _ _ (by omega)]
      exact h1
    · cases h1)
  rw [hw2]
  have HD' := Lib.hid hd'
  clear hw2 KK r0 b1 g0 hZk hst1 hd'
  have g2 := G0.out
  have c4 : w2.cell? ⟨w.heap.size, 4, none⟩ = some (.int .i64 d.rf) := by rw [← hrf]; exact blk_cell g2 rfl
  have hf4 : w2.frozen? ⟨w.heap.size, 4, none⟩ = false := by simp [World.frozen?, g2]
  have hsc := setCell_put g2 (by decide : 4 < 8) (.int .i64 (wrap64 (d.rf + r)))
  obtain ⟨d2, hd2⟩ : ∃ d2, ({ d' with rf := wrap64 (d.rf + r) } : Dst) = d2 := ⟨_, rfl⟩
  rw [show (putAt (dL d') 4 [.int .i64 (wrap64 (d.rf + r))]).toArray = dC { d' with rf := wrap64 (d.rf + r) } from rfl, hd2] at hsc
  go_upto_region 3 with fail
  have hD2 : ({ d with ps := v, rf := wrap64 (d.rf + r) } : Dst) = d2 := by rw [← hd2, ← HD'.out]
  have hone2 : (dC d2).all (·.oneCell') = true := by
    rw [← hD2]
    exact Dst.One.arr ⟨one.w, one.l, one.wm, one.sl, one.lg, hv1⟩
  have G3 := Lib.hid (blk_row (c' := dC d2) g2)
  have G23 := Lib.hid ((setRow_other w2 w.heap.size (w.heap.size + 1) (dC d2) (by omega)).trans G2.out)
  have B3 := Lib.hid (below_setRow B2.out (Nat.le_refl _) (dC d2))
  have r3 := (rng_block (w := w2.setRow w.heap.size (dC d2)) (cs := (dC d2).toList) (by simpa [dC] using G3.out)).at
  have ZK3 : Hid (Sub Zk (fr w.heap.size ((w2.setRow w.heap.size (dC d2)).setRow (w.heap.size + 1) (dC d2)))) := Lib.hid fun b o hb => by
    have h1 := ZK.out b o hb
    unfold fr at h1 ⊢
    split at h1
    · rw [if_pos (by omega), setRow_other _ _ _ _ (by omega), setRow_other _ _ _ _ (by omega)]
      exact h1
    · cases h1
  have HH2 := Lib.hid hD2
  clear hsc hf4 c4 g2 hd2 hD2
  go_wp2_with (first
    | (refine wpList_load_mid rfl 37 _ rfl w.heap.size 0 rfl (dC d2).toList _ r3 Tryz.underlying37 rfl infoD ?_)
    | (refine wpList_store_row rfl 37 _ _ rfl (w.heap.size + 1) _ (dC d2) rfl rfl G23.out (by simpa using infoD (d := d2)) rfl hone2 ?_))
  exact bodyPost_ret (v := .agg (dC d2)) (results_cell_row rfl _ _ _ 37 _ (0, 0) _ rfl (blk_row G23.out) Tryz.underlying37 rfl (by simpa using infoD (d := d2))) rfl ⟨v, Zk, by rw [HH2.out], hv1, hR, ZK3.out, below_setRow B3.out (by omega) _⟩
end Go.Proofs.YtnjeoeekidnffaaGreat
/- Stage 14: the document's Cold. -/
namespace Go.Proofs.YtnjeoeekidnffaaGreat
open Go.RowKit SmWord Go.Maps
set_option maxRecDepth 100000

def adL (A : Nat) : List Value := (aN A).toList
theorem adL_len (A : Nat) : (adL A).length = 20 := by simp [adL, aN_size]
theorem cboxes (w : World) (d : Dst) (A : Nat) : ∃ W, (w.alloc (.cells (dC d) 37)).alloc (.cells (aN A) 41) = W ∧ W.heap[w.heap.size]? = some (.cells (dC d) 37) ∧ W.heap[w.heap.size + 1]? = some (.cells (aN A) 41) ∧ Below w.heap.size w W ∧ W.heap.size = w.heap.size + 2 :=
  ⟨_, rfl, blk_alloc (heap_alloc_new _ _), heap_alloc2_new _ _ _, ((Below.refl _ _).alloc (Nat.le_refl _) _).alloc (by simp) _, by simp⟩
set_option maxHeartbeats 4000000 in
theorem cold_walk {Z : Hp} {L : List Nat} (d : Dst) (A : Nat) (w : World) (h : RowZ Z d.wm L.length 20 (L.flatMap adL)) (hL : ∀ C ∈ L, C < 2 ^ 160) (hz : Sub Z (hp w)) (hA : A < 2 ^ 160) (hl : L.length ≤ 1000000) :
    Calls Tryz.prog 87 #[.agg (dC d), .agg (aN A)] w fun e w' => e = .returned (.bool (decide (A ∉ L))) ∧ Below w.heap.size w w' := by
  obtain ⟨P, c, hv, hn, hc, hP, hcells⟩ := h.one (fun x _ => adL_len x)
  have HX := Lib.hid hL
  have HAd := Lib.hid hA
  clear hA
  have HC : Hid (0 < L.length → ∃ b off, P = some ⟨b, off, none⟩ ∧ ∀ i x, L[i]? = some x → rng (hp w) b (off + i * 20) (adL x)) := Lib.hid fun hn => by
    obtain ⟨b, off, e, _, hi⟩ := hcells hn
    exact ⟨b, off, e, fun i x hx => (hi i x hx).sub hz⟩
  generalize hN : L.length = n at *
  have HN := Lib.hid hN
  clear hcells h hN hz
  have hs := aN_size A
  obtain ⟨V, hV, f0, f1, bW, sW⟩ := cboxes w d A
  have HB := Lib.hid bW
  have F1 := Lib.hid f1
  have p1 : V.cell? ⟨w.heap.size, 2, none⟩ = some (.slice P n c) := blk_cell f0 (by rw [← hv]; rfl)
  have F0 := Lib.hid f0
  have HV := Lib.hid hv
  clear f0 f1 bW sW hv
  go_enter Tryz.func87, Tryz.ntmps87
  go_upto_region 1 with fail
  try rw [hV]
  clear hV
  go_wp2_with fail
  go_loopw [9] (fun i wr => ∃ k : Nat, k ≤ n ∧ i = .int .i64 k ∧ Hid (∀ x ∈ L.take k, x ≠ A) ∧ Hid (Below V.heap.size V wr)) (fun i _ => n - (intOf i).toNat)
  case atStart => exact ⟨0, Nat.zero_le _, rfl, Lib.hid (fun x hx => by simp at hx), Lib.hid (Below.refl _ _)⟩
  case round =>
    obtain ⟨k, hk, rfl, HO, HW⟩ := hrel
    have bwr : Below w.heap.size w wr := HB.out.trans (HW.out.mono HB.out.size)
    have BW := Lib.hid bwr
    by_cases hlt : k < n
    · obtain ⟨b, off, rfl, hi⟩ := HC.out (by omega)
      obtain ⟨x, hx⟩ : ∃ x, L[k]? = some x := ⟨L[k]'(by rw [HN.out]; exact hlt), by simp⟩
      have HXx := Lib.hid (HX.out x (List.mem_of_getElem? hx))
      have HRg := Lib.hid (hi k _ hx)
      have HXg := Lib.hid hx
      have r0 : ∀ g : Ext wr, g.on.rangeAt b (off + k * 20) (aN x).toList := fun g => (HRg.out.sub (hp_below (bwr.trans (g.below.mono bwr.size)))).at
      have r1 := fun g : Ext wr => adblk (g.block (stay HW.out F1.out))
      have q1 := fun g : Ext wr => (show g.on.cell? ⟨w.heap.size, 2, none⟩ = some (.slice (some ⟨b, off, none⟩) n c) from blk_cell (g.block (stay HW.out F0.out)) (by rw [← HV.out]; rfl))
      have eq := eq_ad x A HXx.out HAd.out
      clear hi hx bwr
      go_upto_region 4 with fail
      refine region_ext (by kernel_rfl) (by kernel_rfl) ?_
      repeat (first
        | (go_big_quiet_want; refine quiet_load_mid 41 _ rfl b (off + k * 20) (aN x).toList rfl (fun w2 hw2 => by obtain ⟨g1, rfl⟩ := hw2; exact r0 g1) Tryz.underlying41 rfl (infoAd _) ?_; simp only [Act.put, List.setIfInBounds_toArray, List.set_cons_succ, List.set_cons_zero, Array.toArray_toList]; go_big_quiet_on)
        | (go_big_quiet_want; refine quiet_load_mid 41 _ rfl (w.heap.size + 1) 0 (aN A).toList rfl (fun w2 hw2 => by obtain ⟨g1, rfl⟩ := hw2; exact r1 g1) Tryz.underlying41 rfl (infoAd _) ?_; simp only [Act.put, List.setIfInBounds_toArray, List.set_cons_succ, List.set_cons_zero, Array.toArray_toList]; go_big_quiet_on)
        | go_big_quiet_step (fail))
      refine wpQuiet_nil ?_
      rintro w' ⟨gg, rfl⟩
      have HWg := Lib.hid (HW.out.trans (gg.below.mono HW.out.size))
      have HBg := Lib.hid (BW.out.trans (gg.below.mono BW.out.size))
      clear r0 r1 eq q1
      generalize gg.on = wg at *
      by_cases e : x = A
      · rw [decide_eq_true e]
        have HE := Lib.hid (show A ∈ L from e ▸ List.mem_of_getElem? HXg.out)
        clear e
        go_wp2_with fail
        go_ret
        exact ⟨by rw [decide_eq_false (by simpa using HE.out)]; rfl, HBg.out⟩
      · rw [decide_eq_false e]
        have HE := Lib.hid e
        clear e
        go_wp2_with fail
        exact ⟨⟨k + 1, by omega, by go_num, Lib.hid (fun y hy => by
          rw [List.take_add_one, HXg.out] at hy
          rcases List.mem_append.1 hy with hy | hy
          · exact HO.out y hy
          · simp at hy
            subst hy
            exact HE.out), HWg⟩, by simp [intOf]; omega⟩
    · obtain rfl : k = n := by omega
      have hno : A ∉ L := fun hm => HO.out A (by rw [List.take_of_length_le (by rw [HN.out]; exact Nat.le_refl _)]; exact hm) rfl
      have HNO := Lib.hid hno
      clear hno
      go_wp2_with fail
      go_ret
      exact ⟨by rw [decide_eq_true HNO.out]; rfl, BW.out⟩
end Go.Proofs.YtnjeoeekidnffaaGreat
/- Stage 14: the document's Touch. -/
namespace Go.Proofs.YtnjeoeekidnffaaGreat
open Go.RowKit SmWord Go.Maps
set_option maxRecDepth 100000

theorem list20t {l : Array Value} (h : l.size = 20) : ∃ x0 x1 x2 x3 x4 x5 x6 x7 x8 x9 x10 x11 x12 x13 x14 x15 x16 x17 x18 x19, l = #[x0, x1, x2, x3, x4, x5, x6, x7, x8, x9, x10, x11, x12, x13, x14, x15, x16, x17, x18, x19] := by
  obtain ⟨l⟩ := l
  simp at h
  obtain _ | ⟨x0, l⟩ := l; · simp at h
  obtain _ | ⟨x1, l⟩ := l; · simp at h
  obtain _ | ⟨x2, l⟩ := l; · simp at h
  obtain _ | ⟨x3, l⟩ := l; · simp at h
  obtain _ | ⟨x4, l⟩ := l; · simp at h
  obtain _ | ⟨x5, l⟩ := l; · simp at h
  obtain _ | ⟨x6, l⟩ := l; · simp at h
  obtain _ | ⟨x7, l⟩ := l; · simp at h
  obtain _ | ⟨x8, l⟩ := l; · simp at h
  obtain _ | ⟨x9, l⟩ := l; · simp at h
  obtain _ | ⟨x10, l⟩ := l; · simp at h
  obtain _ | ⟨x11, l⟩ := l; · simp at h
  obtain _ | ⟨x12, l⟩ := l; · simp at h
  obtain _ | ⟨x13, l⟩ := l; · simp at h
  obtain _ | ⟨x14, l⟩ := l; · simp at h
  obtain _ | ⟨x15, l⟩ := l; · simp at h
  obtain _ | ⟨x16, l⟩ := l; · simp at h
  obtain _ | ⟨x17, l⟩ := l; · simp at h
  obtain _ | ⟨x18, l⟩ := l; · simp at h
  obtain _ | ⟨x19, l⟩ := l; · simp at h
  obtain rfl : l = [] := by simpa using h
  exact ⟨_, _, _, _, _, _, _, _, _, _, _, _, _, _, _, _, _, _, _, _, rfl⟩
theorem run_bslice20 (x0 x1 x2 x3 x4 x5 x6 x7 x8 x9 x10 x11 x12 x13 x14 x15 x16 x17 x18 x19 : Value) (w : World) : (Instr.buildSlice 32 1 #[(0, .agg #[x0, x1, x2, x3, x4, x5, x6, x7, x8, x9, x10, x11, x12, x13, x14, x15, x16, x17, x18, x19])]).run Tryz.prog w = .ok (.slice (some ⟨w.heap.size, 0, none⟩) 1 1) (w.alloc (.cells #[x0, x1, x2, x3, x4, x5, x6, x7, x8, x9, x10, x11, x12, x13, x14, x15, x16, x17, x18, x19] 41)) := by kernel_rfl
theorem run_bslice_a (A : Nat) (w : World) : (Instr.buildSlice 32 1 #[(0, .agg (aN A))]).run Tryz.prog w = .ok (.slice (some ⟨w.heap.size, 0, none⟩) 1 1) (w.alloc (.cells (aN A) 41)) := by
  obtain ⟨x0, x1, x2, x3, x4, x5, x6, x7, x8, x9, x10, x11, x12, x13, x14, x15, x16, x17, x18, x19, e⟩ := list20t (aN_size A)
  rw [e]
  exact run_bslice20 x0 x1 x2 x3 x4 x5 x6 x7 x8 x9 x10 x11 x12 x13 x14 x15 x16 x17 x18 x19 w
theorem wpList_bslice_a {ops : Array Oper} {rest : List Oper} {o : Oper} {a : Act} {w : World} {Q : Exit → Act → World → Prop} (hg : o.guard = none) (x : Operand) (ho : o.op = .buildSlice 32 1 #[(0, x)]) (A : Nat) (hx : a.eval x = .agg (aN A)) (h : wpList Tryz.prog ops Q rest (a.put o.dst (.slice (some ⟨w.heap.size, 0, none⟩) 1 1)) (w.alloc (.cells (aN A) 41))) : wpList Tryz.prog ops Q (o :: rest) a w := by
  refine wpList_plain hg fun K hK => ?_
  have hr := run_bslice_a A w
  unfold Oper.wp
  simp [execOp, ho, hx, hr, Result.andThen]
  exact hK _ _ h
theorem own_emptyAd (w : World) (base : Nat) (hb : base ≤ w.heap.size) : (w.alloc (.cells #[] 41)).ownsRow base 41 20 (.slice (some ⟨w.heap.size, 0, none⟩) 0 0) 0 [] :=
  ⟨rfl, .inr ⟨w.heap.size, 0, #[], rfl, hb, heap_alloc_new _ _, Nat.le_refl _, by simp [maxLen], rfl, rfl⟩⟩
theorem infoA20 : (Tryz.prog.info? 41).map (fun i => (i.zero, i.size, i.bytes)) = some (some (.agg (aN 0)), 20, 20) := by kernel_rfl
theorem rowOneAd {w : World} {A : Nat} {b : Nat} (h : w.heap[b]? = some (.cells (aN A) 41)) : RowZ (hp w) (.slice (some ⟨b, 0, none⟩) 1 1) 1 20 (adL A) :=
  ⟨by simp [adL_len], some ⟨b, 0, none⟩, 1, rfl, Nat.le_refl _, by simp [maxLen], fun h => by simp at h, fun _ => ⟨b, 0, rfl, rng_block (by simpa [adL] using h)⟩⟩
theorem adL_mem (A : Nat) : ∀ u ∈ adL A, u.oneCell' = true := fun u hu => (Array.all_eq_true_iff_forall_mem.1 (arr_one .u8 20 _)) u (by simpa [adL, aN] using hu)
end Go.Proofs.YtnjeoeekidnffaaGreat
