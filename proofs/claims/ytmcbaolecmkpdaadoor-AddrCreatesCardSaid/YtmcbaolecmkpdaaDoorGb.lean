/- What the function Sum of the document's own answers for keccak does: the hash of bytes. -/
import Derived.Test.YtmcbaolecmkpdaaDoorG4
import Derived.Test.YtmcbaolecmkpdaaDoorGa
import Derived.Test.YtmcbaolecmkpdaaDoorG9
import Derived.Deep.CutRange
namespace Go.Proofs.YtmcbaolecmkpdaaDoor
open Go.RowKit SmWord
set_option maxRecDepth 100000

theorem bb_snoc (f : Nat → Nat) (k : Nat) : bb f k ++ [.int .u8 ((f k : Nat) : Int)] = bb f (k + 1) := by
  unfold bb
  rw [List.range_succ, List.map_append]
  rfl
def lenV : Value → Nat | .slice _ n _ => n | _ => 0
theorem own_row {w : World} {base : Nat} {A : Option Addr} {k c : Nat} {f : Nat → Nat} (h : w.ownsRow base 5 1 (.slice A k c) k (bb f k)) (hk : 0 < k) :
    ∃ g cur, A = some ⟨g, 0, none⟩ ∧ base ≤ g ∧ w.heap[g]? = some (.cells cur 5) ∧ k ≤ c ∧ ∀ i, i < k → cur[i]? = some (.int .u8 ((f i : Nat) : Int)) := by
  rcases h.2 with ⟨_, rfl⟩ | ⟨g, cap, cur, e, hb, hg, h1, h2, h3, h4⟩
  · omega
  · cases e
    refine ⟨g, cur, rfl, hb, hg, h1, fun i hi => ?_⟩
    have e : cur.toList[i]? = (cur.toList.take (k * 1))[i]? := by rw [List.getElem?_take_of_lt (by omega)]
    rw [← Array.getElem?_toList, e, h4, bb_get f hi]
theorem hb_val (S : Nat → Nat) (k : Nat) : (((S (k / 8) : Nat) : Int) / 2 ^ (8 * (k % 8))).tmod 256 % 256 = ((hb S k : Nat) : Int) := by
  have e : ((S (k / 8) : Nat) : Int) / 2 ^ (8 * (k % 8)) = ((S (k / 8) / 2 ^ (8 * (k % 8)) : Nat) : Int) := by simp
  rw [e, Int.tmod_eq_emod_of_nonneg (Int.natCast_nonneg _), hb]
  omega
set_option maxHeartbeats 4000000 in
theorem rsum_walk (A : Option Addr) (n c : Nat) (f : Nat → Nat) (w : World) (hn : n ≤ 100000) (hA : A = none → n = 0 ∧ c = 0) (hs : Sl w A n f) :
    Calls Tryd.prog 32 #[.slice A n c] w fun e w' => e = .returned (.agg (ha (kk f n))) ∧ Below w.heap.size w w' := by
  have HS := Lib.hid hs
  clear hs
  go_enter Tryd.func32, Tryd.ntmps32
  go_upto_region 2 with (first | (refine wpList_alloc_row rfl 57 rfl zH zH_run ?_))
  have f0 : ((w.alloc (.cells zH 57)).alloc (.cells #[] 5)).heap[w.heap.size]? = some (.cells zH 57) := blk_alloc (heap_alloc_new _ _)
  have o0 : ((w.alloc (.cells zH 57)).alloc (.cells #[] 5)).ownsRow (w.heap.size + 1) 5 1 (.slice (some ⟨w.heap.size + 1, 0, none⟩) 0 0) 0 (bb f 0) :=
    ⟨rfl, .inr ⟨w.heap.size + 1, 0, #[], rfl, Nat.le_refl _, heap_alloc2_new _ _ _, Nat.le_refl _, Nat.zero_le _, rfl, rfl⟩⟩
  have bW : Below w.heap.size w ((w.alloc (.cells zH 57)).alloc (.cells #[] 5)) := ((Below.refl _ _).alloc (Nat.le_refl _) _).alloc (by simp) _
  have hsz : w.heap.size + 2 ≤ ((w.alloc (.cells zH 57)).alloc (.cells #[] 5)).heap.size := by simp
  have hsl := HS.out.below bW
  generalize ((w.alloc (.cells zH 57)).alloc (.cells #[] 5)) = W at *
  have F0 := Lib.hid f0
  have HO := Lib.hid o0
  have HB := Lib.hid bW
  have HZ := Lib.hid hsz
  have HL := Lib.hid hsl
  clear f0 o0 bW hsz hsl
  go_upto_region 3 with (at_builtin; refine append_sl rfl _ _ rfl (w.heap.size + 1) _ 0 (bb f 0) rfl HO.out A n c f rfl hA HL.out (by omega) (by have := HZ.out; omega) ?_; intro v1 w1 hown hgrow)
  rw [Nat.zero_add, show bb f 0 ++ bb f n = bb (pd f n) n from (List.nil_append _).trans (bb_congr fun i hi => by rw [pd, if_pos hi])] at hown
  have hb1 : Below (w.heap.size + 1) W w1 := (Below.refl _ _).grown hgrow (by have := HZ.out; omega) (fun b hb' => by have := (HO.out.lt b hb').1; omega)
  have hsz1 : w.heap.size + 2 ≤ w1.heap.size := Nat.le_trans HZ.out hb1.size
  replace F0 : Hid (w1.heap[w.heap.size]? = some (.cells zH 57)) := Lib.hid ((hb1.block _ (by omega)).trans F0.out)
  replace HB := Lib.hid (HB.out.trans (hb1.mono (Nat.le_succ _)))
  have HW := Lib.hid (hown.alloc (.cells #[Value.int .u8 1] 5))
  clear hgrow hb1 HO HZ HL
  go_upto_region 4 with (at_builtin; refine append_one rfl _ _ rfl (w.heap.size + 1) _ n (bb (pd f n) n) rfl HW.out ⟨w1.heap.size, 0, none⟩ 1 rfl (cell_one_new _ _ _) (by omega) (by simp; omega) ?_; intro v2 w2 hown2 hgrow2)
  rw [show (1 : Int) = ((pd f n n : Nat) : Int) by simp [pd], bb_snoc] at hown2
  have hb2 : Below (w.heap.size + 1) w1 w2 := ((Below.refl _ w1).alloc (by omega) (.cells #[Value.int .u8 1] 5)).grown hgrow2 (by simp; omega) (fun b hb' => by have := (HW.out.lt b hb').1; omega)
  have hsz2 : w.heap.size + 2 ≤ w2.heap.size := Nat.le_trans hsz1 hb2.size
  replace F0 : Hid (w2.heap[w.heap.size]? = some (.cells zH 57)) := Lib.hid ((hb2.block _ (by omega)).trans F0.out)
  replace HB := Lib.hid (HB.out.trans (hb2.mono (Nat.le_succ _)))
  have HZ := Lib.hid hsz2
  clear hown HW hgrow2 hb2 hsz1 hsz2
  obtain ⟨A2, c2, rfl⟩ := own_val hown2
  have HO := Lib.hid hown2
  clear hown2
  obtain ⟨L, hL⟩ : ∃ L, L = 136 * (n / 136 + 1) := ⟨_, rfl⟩
  have HL := Lib.hid hL
  have hLn : n + 1 ≤ L ∧ L ≤ 200000 ∧ L < n + 137 := by omega
  clear hL
  go_loopw [3] (fun v wr => ∃ (k c' : Nat) (A' : Option Addr), v = .slice A' k c' ∧ n + 1 ≤ k ∧ k ≤ L ∧ Hid (wr.ownsRow (w.heap.size + 1) 5 1 (.slice A' k c') k (bb (pd f n) k)) ∧ Hid (Below w.heap.size w wr) ∧ Hid (w.heap.size + 2 ≤ wr.heap.size) ∧ Hid (wr.heap[w.heap.size]? = some (.cells zH 57))) (fun v _ => L - lenV v)
  case atStart => exact ⟨n + 1, c2, A2, rfl, Nat.le_refl _, hLn.1, HO, HB, HZ, F0⟩
  case round =>
    clear HO HB HZ F0
    obtain ⟨k, c', A', rfl, hk1, hk2, HO, HB, HZ, F0⟩ := hrel
    by_cases hmore : k % 136 = 0
    · have hkL : k = L := by have := HL.out; omega
      have hnz : (((k : Nat) : Int) % 136 != 0) = false := by simp; omega
      subst hkL
      obtain ⟨g, cur, rfl, hg1, hg, hkc, hcur⟩ := own_row HO.out (by omega)
      obtain ⟨l, hl⟩ : ∃ l, k = l + 1 := ⟨k - 1, by omega⟩
      have el : (k : Int) - 1 = (l : Int) := by omega
      have cl := blk_cell hg (hcur l (by omega))
      have fz := blk_frozen (j := l) hg
      have hl8 : pd f n l < 256 := pd_lt HS.out.small l
      have ho : bits .or .u8 ((pd f n l : Nat) : Int) 128 = ((pd f n l ||| 128 : Nat) : Int) := u8_or_nat _ 128 hl8 (by decide)
      have hll : pad f n l = pd f n l ||| 128 := by rw [pad, if_pos (by have := HL.out; omega)]
      rw [← hll] at ho
      have hC : ∀ i, i < k → (cur.setIfInBounds l (.int .u8 ((pad f n l : Nat) : Int)))[i]? = some (.int .u8 ((pad f n i : Nat) : Int)) := fun i hi => by
        by_cases e : i = l
        · subst e
          rw [Array.getElem?_setIfInBounds_self_of_lt (Array.getElem?_eq_some_iff.1 (hcur i hi)).1]
        · rw [Array.getElem?_setIfInBounds_ne (fun h => e h.symm), hcur i hi, pad, if_neg (by have := HL.out; omega)]
      have hgC : (wr.setCell ⟨g, l, none⟩ (.int .u8 ((pad f n l : Nat) : Int))).heap[g]? = _ := blk_set hg _
      generalize hCC : cur.setIfInBounds l (.int .u8 ((pad f n l : Nat) : Int)) = C at *
      have HC := Lib.hid hC
      have HG := Lib.hid hgC
      have hg8 := (Array.getElem?_eq_some_iff.1 hg).1
      have hlk : l < k := by omega
      clear hcur hg hCC hC hgC HO hl8 hll hmore hl
      go_upto_region 7 with fail
      clear cl fz ho el
      replace F0 : Hid ((wr.setCell ⟨g, l, none⟩ (.int .u8 ((pad f n l : Nat) : Int))).heap[w.heap.size]? = some (.cells zH 57)) := Lib.hid (blk_other F0.out (by omega) _)
      replace HB := Lib.hid (HB.out.setCell (p := ⟨g, l, none⟩) (by simp; omega) (.int .u8 ((pad f n l : Nat) : Int)))
      replace hg8 : g < (wr.setCell ⟨g, l, none⟩ (.int .u8 ((pad f n l : Nat) : Int))).heap.size := by simpa [World.setCell] using hg8
      generalize wr.setCell ⟨g, l, none⟩ (.int .u8 ((pad f n l : Nat) : Int)) = W3 at *
      have f0 : ((W3.alloc (.cells zS 72)).setRow W3.heap.size zS).heap[w.heap.size]? = some (.cells zH 57) := blk_row_other (blk_alloc F0.out) (by have := HZ.out; omega)
      have f1 : ((W3.alloc (.cells zS 72)).setRow W3.heap.size zS).heap[g]? = some (.cells C 5) := blk_row_other (blk_alloc HG.out) (by omega)
      have f2 : ((W3.alloc (.cells zS 72)).setRow W3.heap.size zS).heap[W3.heap.size]? = some (.cells (sa (ss (pad f n) 0)) 72) := blk_row (heap_alloc_new _ _)
      have bW : Below w.heap.size w ((W3.alloc (.cells zS 72)).setRow W3.heap.size zS) := below_setRow (HB.out.alloc HB.out.size _) (by omega) _
      clear F0 HG HB
      go_wp2_with (first | (refine wpList_alloc_row rfl 72 rfl zS zS_run ?_) | (refine wpList_build_zero rfl 72 rfl Tryd.underlying72 Tryd.sizeOf24 zS zS_run ?_) | (refine wpList_store_row rfl 72 _ _ rfl _ zS zS rfl rfl (heap_alloc_new _ _) (infoArrS _) rfl (arr_one _ _ _) ?_))
      generalize ((W3.alloc (.cells zS 72)).setRow W3.heap.size zS) = W4 at *
      obtain ⟨nS, hnS⟩ : ∃ nS, W3.heap.size = nS := ⟨_, rfl⟩
      rw [hnS] at f2 hg8 ⊢
      clear hnS
      have hF : Hid (∀ i, pad f n i < 256) := Lib.hid fun i => pad_lt HS.out.small i
      go_loopw [5] (fun i wr => ∃ t : Nat, t ≤ k ∧ i = .int .i64 t ∧ Below w.heap.size w wr ∧ wr.heap[w.heap.size]? = some (.cells zH 57) ∧ wr.heap[g]? = some (.cells C 5) ∧ wr.heap[nS]? = some (.cells (sa (ss (pad f n) t)) 72)) (fun i _ => k - (intOf i).toNat)
      case atStart => exact ⟨0, by omega, rfl, bW, f0, f1, f2⟩
      case round =>
        clear bW f0 f1 f2
        obtain ⟨t, ht, rfl, bW, f0, f1, f2⟩ := hrel
        have F0 := Lib.hid f0
        have F1 := Lib.hid f1
        have F2 := Lib.hid f2
        have HB := Lib.hid bW
        clear f0 f1 f2 bW
        by_cases hlt : t < k
        · obtain ⟨p, hp⟩ : ∃ p, t % 136 = p := ⟨_, rfl⟩
          have hpI : ((t : Int)) % 136 = (p : Int) := by omega
          have hp6 : p < 136 := by omega
          obtain ⟨T, hT⟩ : ∃ T, T = ss (pad f n) t := ⟨_, rfl⟩
          have hok : okS T := by rw [hT]; exact ss_lt t fun i _ => hF.out i
          obtain ⟨xb, hxb⟩ : ∃ xb, pad f n t = xb := ⟨_, rfl⟩
          have hxb8 : xb < 256 := by rw [← hxb]; exact hF.out t
          obtain ⟨z, hz⟩ : ∃ z, xb * 2 ^ (8 * (p % 8)) = z := ⟨_, rfl⟩
          have hzB : z < B := by rw [← hz]; exact byte_up hxb8
          have hwr := wrap_put hz hzB
          have hq : p / 8 < 25 := by omega
          have hx : bits .xor .u64 ((T (p / 8) : Nat) : Int) ((z : Nat) : Int) = ((T (p / 8) ^^^ z : Nat) : Int) := xor_nat (hok _ hq) hzB
          rw [← hT] at F2
          have HP := Lib.hid hp
          have HT := Lib.hid hT
          have HX := Lib.hid hxb
          have HZZ := Lib.hid hz
          have HK := Lib.hid hok
          clear hp hT hxb hz hok hzB
          go_upto_region 12 with fail
          rw [hpI]
          clear hpI
          have hput := put_put T hp6 HZZ.out
          refine region_last2 (aQ := ?aQ) 17 (by kernel_rfl) (by kernel_rfl) (fun w1 => ?hq) (fun w0' hb' => ?hh)
          case hq =>
            have ca : ∀ g' : Ext w1.on, g'.on.cell? ⟨nS, p / 8, none⟩ = some (.int .u64 ((T (p / 8) : Nat) : Int)) := fun g' => blk_cell (g'.block (w1.block F2.out)) (sa_get hq)
            have cb : ∀ g' : Ext w1.on, g'.on.cell? ⟨g, t, none⟩ = some (.int .u8 ((xb : Nat) : Int)) := fun g' => by
              have := blk_cell (g'.block (w1.block F1.out)) (HC.out t hlt)
              rwa [HX.out] at this
            simp only [List.take_succ_cons, List.take_zero]
            repeat (go_big_quiet_step (fail))
            refine wpQuiet_nil ?_
            rfl
          have g0 := stay hb' F0.out
          have g1 := stay hb' F1.out
          have g2 := stay hb' F2.out
          replace HB := Lib.hid (HB.out.trans (hb'.mono HB.out.size))
          clear F0 F1 F2 hb'
          have cx := blk_cell g2 (sa_get hq)
          have fz := blk_frozen (j := p / 8) g2
          have h2 : (w0'.setCell ⟨nS, p / 8, none⟩ (.int .u64 ((T (p / 8) ^^^ z : Nat) : Int))).heap[nS]? = _ := blk_set g2 _
          rw [hput] at h2
          have F0 := Lib.hid (blk_other (b := nS) (j := p / 8) g0 (by omega) (.int .u64 ((T (p / 8) ^^^ z : Nat) : Int)))
          have F1 := Lib.hid (blk_other (b := nS) (j := p / 8) g1 (by omega) (.int .u64 ((T (p / 8) ^^^ z : Nat) : Int)))
          have F2 := Lib.hid h2
          clear g0 g1 g2 h2 hput
          simp only [List.drop_succ_cons, List.drop_zero]
          go_upto_region 13 with fail
          clear cx fz hwr hx
          replace HB := Lib.hid (HB.out.setCell (p := ⟨nS, p / 8, none⟩) (by simp; omega) (.int .u64 ((T (p / 8) ^^^ z : Nat) : Int)))
          generalize w0'.setCell ⟨nS, p / 8, none⟩ (.int .u64 ((T (p / 8) ^^^ z : Nat) : Int)) = w5 at *
          have hput : okS (put T p xb) := put_lt HK.out hxb8
          have hss : ss (pad f n) (t + 1) = if p = 135 then tn (put T p xb) 24 else put T p xb := by rw [ss, HP.out, HX.out, ← HT.out]
          have HSS := Lib.hid hss
          have HU := Lib.hid hput
          clear hss hput HT HX HZZ HK HP
          generalize put T p xb = U at *
          by_cases h135 : p = 135
          · have hc : (((p : Nat) : Int) == 135) = true := by simp; omega
            rw [if_pos h135] at HSS
            go_wp2_with (first | (refine wpList_load_row rfl 72 _ rfl _ rfl 72 (sa U) (0, 0) _ F2.out Tryd.underlying72 rfl (infoArrS _) ?_))
            refine (rturn_walk U w5 HU.out).mono ?_
            rintro e w6 ⟨rfl, b6⟩
            have g0 := stay b6 F0.out
            have g1 := stay b6 F1.out
            have g2 := stay b6 F2.out
            replace HB := Lib.hid (HB.out.trans (b6.mono HB.out.size))
            clear F0 F1 F2 b6
            have F0 := Lib.hid (blk_row_other (b := nS) (c' := sa (tn U 24)) g0 (by omega))
            have F1 := Lib.hid (blk_row_other (b := nS) (c' := sa (tn U 24)) g1 (by omega))
            have F2 := Lib.hid (blk_row (c' := sa (tn U 24)) g2)
            clear g0 g1
            go_wp2_with (first | (refine wpList_store_row rfl 72 _ _ rfl _ (sa U) (sa (tn U 24)) rfl rfl g2 (infoArrS _) rfl (arr_one _ _ _) ?_))
            exact ⟨⟨t + 1, by omega, by go_num, below_setRow HB.out (by omega) _, F0.out, F1.out, by rw [HSS.out]; exact F2.out⟩, by simp [intOf]; omega⟩
          · have hc : (((p : Nat) : Int) == 135) = false := by simp; omega
            rw [if_neg h135] at HSS
            go_wp2_with fail
            exact ⟨⟨t + 1, by omega, by go_num, HB.out, F0.out, F1.out, by rw [HSS.out]; exact F2.out⟩, by simp [intOf]; omega⟩
        · obtain rfl : t = k := by omega
          obtain ⟨S, hS⟩ : ∃ S, ss (pad f n) t = S := ⟨_, rfl⟩
          have hkk : hb S = kk f n := by rw [← hS, HL.out]; rfl
          rw [hS] at F2
          have HKK := Lib.hid hkk
          clear hS hkk hF HC F1
          have hC : nS < wr.heap.size := (Array.getElem?_eq_some_iff.1 F2.out).1
          have f0 : ((wr.alloc (.cells zH 57)).setRow wr.heap.size zH).heap[w.heap.size]? = some (.cells zH 57) := blk_row_other (blk_alloc F0.out) (by omega)
          have f2 : ((wr.alloc (.cells zH 57)).setRow wr.heap.size zH).heap[nS]? = some (.cells (sa S) 72) := blk_row_other (blk_alloc F2.out) (by omega)
          have f3 : ((wr.alloc (.cells zH 57)).setRow wr.heap.size zH).heap[wr.heap.size]? = some (.cells (ha (hk S 0)) 57) := by rw [hk_start]; exact blk_row (heap_alloc_new _ _)
          have bW : Below w.heap.size w ((wr.alloc (.cells zH 57)).setRow wr.heap.size zH) := below_setRow (HB.out.alloc HB.out.size _) (by omega) _
          clear F0 F2 HB
          go_wp2_with (first | (refine wpList_alloc_row rfl 57 rfl zH zH_run ?_) | (refine wpList_build_zero rfl 57 rfl Tryd.underlying57 Tryd.sizeOf5 zH zH_run ?_) | (refine wpList_store_row rfl 57 _ _ rfl _ zH zH rfl rfl (heap_alloc_new _ _) (infoArrH _) rfl (arr_one _ _ _) ?_))
          generalize ((wr.alloc (.cells zH 57)).setRow wr.heap.size zH) = W6 at *
          obtain ⟨nO, hnO⟩ : ∃ nO, wr.heap.size = nO := ⟨_, rfl⟩
          rw [hnO] at f3 hC ⊢
          clear hnO
          go_loopw [8] (fun i wr => ∃ k : Nat, k ≤ 32 ∧ i = .int .i64 k ∧ Below w.heap.size w wr ∧ wr.heap[nS]? = some (.cells (sa S) 72) ∧ wr.heap[w.heap.size]? = some (.cells zH 57) ∧ wr.heap[nO]? = some (.cells (ha (hk S k)) 57)) (fun i _ => 32 - (intOf i).toNat)
          case atStart => exact ⟨0, by omega, rfl, bW, f2, f0, f3⟩
          case round =>
            clear bW f0 f2 f3
            obtain ⟨k, hk', rfl, hbw, f0, f1, f2⟩ := hrel
            by_cases hlt : k < 32
            · have hq : k / 8 < 25 := by omega
              have c0 := blk_cell f0 (sa_get (S := S) (i := k / 8) hq)
              have c2 := blk_cell f2 (arr_get .u8 (fun i => ((hk S k i : Nat) : Int)) hlt)
              have fz := blk_frozen (j := k) f2
              have F0 := Lib.hid f0
              have F1 := Lib.hid f1
              have F2 := Lib.hid f2
              have HB := Lib.hid hbw
              clear f0 f1 f2 hbw
              go_wp2_with fail
              rw [hb_val]
              refine ⟨⟨k + 1, by omega, by go_num, HB.out.setCell (by simp; omega) _, blk_other F0.out (by omega) _, blk_other F1.out (by omega) _, ?_⟩, by simp [intOf]; omega⟩
              rw [← hk_next S hlt]
              exact blk_set F2.out _
            · obtain rfl : k = 32 := by omega
              rw [hk_end, HKK.out] at f2
              have HB := Lib.hid hbw
              clear hbw f0
              go_wp2_with (first | (refine wpList_load_row rfl 57 _ rfl _ rfl 57 (ha (kk f n)) (0, 0) _ f2 Tryd.underlying57 rfl (infoArrH _) ?_) | (refine wpList_store_row rfl 57 _ _ rfl _ zH (ha (kk f n)) rfl rfl f1 (infoArrH _) rfl (arr_one _ _ _) ?_))
              refine bodyPost_ret (v := .agg (ha (kk f n))) (results_cell_row rfl _ _ _ 57 (ha (kk f n)) (0, 0) _ rfl (blk_row f1) Tryd.underlying57 rfl (infoArrH _)) rfl ⟨rfl, below_setRow HB.out (Nat.le_refl _) _⟩
    · have hkL : k < L := by have := HL.out; omega
      have hnz : (((k : Nat) : Int) % 136 != 0) = true := by simp; omega
      have hz8 := HZ.out
      have HW := Lib.hid (HO.out.alloc (.cells #[Value.int .u8 0] 5))
      go_wp2_with (at_builtin; refine append_one rfl _ _ rfl (w.heap.size + 1) _ k (bb (pd f n) k) rfl HW.out ⟨wr.heap.size, 0, none⟩ 0 rfl (cell_one_new _ _ _) (by omega) (by simp; omega) ?_; intro v2 w2 hown2 hgrow2)
      rw [show (0 : Int) = ((pd f n k : Nat) : Int) by rw [pd, if_neg (by omega), if_neg (by omega)]; rfl, bb_snoc] at hown2
      have hb2 : Below (w.heap.size + 1) wr w2 := ((Below.refl _ wr).alloc (by omega) (.cells #[Value.int .u8 0] 5)).grown hgrow2 (by simp; omega) (fun b hb' => by have := (HW.out.lt b hb').1; omega)
      obtain ⟨A2, c2, rfl⟩ := own_val hown2
      exact ⟨⟨k + 1, c2, A2, rfl, by omega, by omega, Lib.hid hown2, Lib.hid (HB.out.trans (hb2.mono (Nat.le_succ _))), Lib.hid (Nat.le_trans hz8 hb2.size), Lib.hid ((hb2.block _ (by omega)).trans F0.out)⟩, by simp [lenV]; omega⟩
end Go.Proofs.YtmcbaolecmkpdaaDoor
/- What the functions Word of package keccak, and of the document's own answers, do: the hash as a word. -/
namespace Go.Proofs.YtmcbaolecmkpdaaDoor
open Go.RowKit SmWord
set_option maxRecDepth 100000

/-- The hash as a number. -/
def kw (f : Nat → Nat) (n : Nat) : Nat := val (gd (kk f n) 32) 32
theorem ha_sl {w : World} {b : Nat} {f : Nat → Nat} (h : w.heap[b]? = some (.cells (ha f) 57)) (hf : ∀ i, f i < 256) : Sl w (some ⟨b, 0, none⟩) 32 f :=
  ⟨fun i _ => hf i, fun _ => ⟨b, 0, rfl, (Array.getElem?_eq_some_iff.1 h).1, fun i hi => by rw [Nat.zero_add]; exact blk_cell h (arr_get .u8 (fun i => ((f i : Nat) : Int)) hi)⟩⟩
set_option maxHeartbeats 1000000 in
theorem word_core (A : Option Addr) (n c : Nat) (f : Nat → Nat) (w : World) (V : Nat) (hn : n ≤ maxLen) (hc : n ≤ c) (hT : Tab w) (hs : Sl w A n f) (HV : Hid (∀ (w : World) (b : Nat), w.heap[b]? = some (.cells (ha (kk f n)) 57) → Calls Tryd.prog 20 #[.slice (some ⟨b, 0, none⟩) 32 32] w fun e w' => e = .returned (wd V) ∧ Below w.heap.size w w')) :
    Calls Tryd.prog 30 #[.slice A n c] w fun e w' => e = .returned (wd V) ∧ Below w.heap.size w w' := by
  have HS := Lib.hid hs
  have bW : Below w.heap.size w (w.alloc (.cells #[Value.int .u64 0, .int .u64 0, .int .u64 0, .int .u64 0] 26)) := (Below.refl _ _).alloc (Nat.le_refl _) _
  have f0 : (w.alloc (.cells #[Value.int .u64 0, .int .u64 0, .int .u64 0, .int .u64 0] 26)).heap[w.heap.size]? = some (.cells #[Value.int .u64 0, .int .u64 0, .int .u64 0, .int .u64 0] 26) := heap_alloc_new _ _
  have HT := Lib.hid hT
  clear hT hs
  go_enter Tryd.func30, Tryd.ntmps30
  go_wp2_with fail
  generalize w.alloc (.cells #[Value.int .u64 0, .int .u64 0, .int .u64 0, .int .u64 0] 26) = W at *
  have F0 := Lib.hid f0
  have HB := Lib.hid bW
  clear f0 bW
  refine (sum_walk A n c f W hn hc (HT.out.below HB.out) (HS.out.below HB.out)).mono ?_
  rintro e w1 ⟨rfl, b1⟩
  replace F0 := Lib.hid (stay b1 F0.out)
  replace HB := Lib.hid (HB.out.trans (b1.mono HB.out.size))
  clear b1
  have h0 : w.heap.size < w1.heap.size := (Array.getElem?_eq_some_iff.1 F0.out).1
  have f1 : ((w1.alloc (.cells zH 57)).setRow w1.heap.size (ha (kk f n))).heap[w1.heap.size]? = some (.cells (ha (kk f n)) 57) := blk_row (heap_alloc_new _ _)
  have f0 : ((w1.alloc (.cells zH 57)).setRow w1.heap.size (ha (kk f n))).heap[w.heap.size]? = some (.cells #[Value.int .u64 0, .int .u64 0, .int .u64 0, .int .u64 0] 26) := blk_row_other (blk_alloc F0.out) (by omega)
  have bW : Below w.heap.size w ((w1.alloc (.cells zH 57)).setRow w1.heap.size (ha (kk f n))) := below_setRow (HB.out.alloc HB.out.size _) (by omega) _
  clear F0 HB
  go_wp2_with (first | (refine wpList_alloc_row rfl 57 rfl zH zH_run ?_) | (refine wpList_store_row rfl 57 _ _ rfl _ zH (ha (kk f n)) rfl rfl (heap_alloc_new _ _) (infoArrH _) rfl (arr_one _ _ _) ?_))
  generalize ((w1.alloc (.cells zH 57)).setRow w1.heap.size (ha (kk f n))) = W2 at *
  have F1 := Lib.hid f1
  have F0 := Lib.hid f0
  have HB := Lib.hid bW
  clear f0 f1 bW
  refine (HV.out W2 w1.heap.size F1.out).mono ?_
  rintro e w3 ⟨rfl, b3⟩
  have f3 := stay b3 F0.out
  replace HB := Lib.hid (HB.out.trans (b3.mono HB.out.size))
  clear F0 F1 b3
  go_wp2_with (first | (refine wpList_store_row rfl 26 _ _ rfl _ #[Value.int .u64 0, .int .u64 0, .int .u64 0, .int .u64 0] (wa V) rfl rfl f3 Tryd.infoWa rfl wa_one ?_))
  refine bodyPost_ret (v := wd V) (results_cell_row rfl _ _ _ 26 (wa V) (0, 0) _ rfl (blk_row f3) Tryd.underlying26 rfl Tryd.infoWa) rfl ⟨rfl, below_setRow HB.out (Nat.le_refl _) _⟩
theorem word_walk (A : Option Addr) (n c : Nat) (f : Nat → Nat) (w : World) (hn : n ≤ maxLen) (hc : n ≤ c) (hT : Tab w) (hs : Sl w A n f) :
    Calls Tryd.prog 30 #[.slice A n c] w fun e w' => e = .returned (wd (kw f n)) ∧ Below w.heap.size w w' :=
  word_core A n c f w _ hn hc hT hs (Lib.hid fun W b h => from_wd (some ⟨b, 0, none⟩) 32 32 32 (kk f n) W (by decide) rfl (ha_sl h (kk_lt f n)))
end Go.Proofs.YtmcbaolecmkpdaaDoor
