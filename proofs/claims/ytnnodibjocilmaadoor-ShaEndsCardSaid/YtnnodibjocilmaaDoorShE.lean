/- What the function Sum of package sha does: the hash of bytes. -/
import Derived.Test.YtnnodibjocilmaaDoorShD
import Derived.Deep.CutRange
namespace Go.Proofs.YtnnodibjocilmaaDoor
open Go.RowKit SmWord
set_option maxRecDepth 100000

theorem mm_congr {f g : Nat → Nat} (h : ∀ i, i < 64 → f i = g i) : mm f = mm g := funext fun i => by
  unfold mm m4
  split
  · rw [h (4 * i) (by omega), h (4 * i + 1) (by omega), h (4 * i + 2) (by omega), h (4 * i + 3) (by omega)]
  · rfl
theorem bk_congr (S : Nat → Nat) {f g : Nat → Nat} (h : ∀ i, i < 64 → f i = g i) : bk S f = bk S g := funext fun i => by rw [← bk_mm, ← bk_mm, mm_congr h]
/-- How many bits n bytes are, as 64 bits say it. -/
def cnt (n : Nat) : Nat := n * 8 % B
theorem mod_div_mod (x k : Nat) (h : k < 8) : x % B / 256 ^ k % 256 = x / 256 ^ k % 256 := by
  have e : B = 256 ^ k * (256 * 256 ^ (7 - k)) := by
    rw [← Nat.pow_succ', ← Nat.pow_add, show k + (7 - k).succ = 8 by omega]
  rw [e, Nat.mod_mul_right_div_self, Nat.mod_mul_right_mod]
theorem cnt_byte (n k : Nat) (h : k < 8) : cnt n / 256 ^ k % 256 = n * 8 / 256 ^ k % 256 := mod_div_mod _ _ h
/-- m bytes, a byte 128, and noughts. -/
def cq (f : Nat → Nat) (m i : Nat) : Nat := if i < m then f i else if i = m then 128 else 0
theorem cq_one (F : Nat → Nat) {m : Nat} (h : m < 64) : (pa (cp F m)).setIfInBounds m (.int .u8 128) = pa (cq F m) := by
  rw [show (Value.int .u8 128) = .int .u8 ((128 : Nat) : Int) from rfl, pa_set h]
  refine pa_congr fun i _ => ?_
  unfold cp cq
  by_cases e : i = m
  · subst e; simp
  · by_cases l : i < m
    · simp [e, l]
    · simp [e, l]
/-- The last bytes, k bytes of the count written. -/
def wc (L : Nat → Nat) (c k i : Nat) : Nat := if 64 - k ≤ i then c / 256 ^ (63 - i) % 256 else L i
theorem wc_zero (L : Nat → Nat) (c : Nat) : pa (wc L c 0) = pa L := pa_congr fun i hi => by
  unfold wc
  rw [if_neg (by omega)]
theorem wc_next (L : Nat → Nat) (c : Nat) {k j : Nat} (hk : k < 8) (hj : j + k = 63) {z : Nat} (hz : c / 256 ^ k % 256 = z) : (pa (wc L c k)).setIfInBounds j (.int .u8 ((z : Nat) : Int)) = pa (wc L c (k + 1)) := by
  rw [pa_set (by omega)]
  refine pa_congr fun i hi => ?_
  unfold wc
  by_cases e : i = j
  · rw [if_pos e, if_pos (by omega), e, show 63 - j = k by omega, hz]
  · rw [if_neg e]
    by_cases l : 64 - k ≤ i
    · rw [if_pos l, if_pos (by omega)]
    · rw [if_neg l, if_neg (by omega)]
theorem pow256 (c k : Nat) : (c : Int) / 2 ^ (8 * k) % 256 = ((c / 256 ^ k % 256 : Nat) : Int) := by
  rw [show (256 : Nat) ^ k = 2 ^ (8 * k) by rw [Nat.pow_mul], show (c : Int) / 2 ^ (8 * k) = ((c / 2 ^ (8 * k) : Nat) : Int) by simp]
  omega
theorem nb_small {n m j : Nat} (hm : m + 64 * j = n) (h : m < 56) : nb n = j + 1 := by unfold nb; omega
theorem nb_great {n m j : Nat} (hm : m + 64 * j = n) (h : 56 ≤ m) (h2 : m < 64) : nb n = j + 2 := by unfold nb; omega
/-- The last piece, where the count has its place behind what is left. -/
theorem pad_small (f : Nat → Nat) {n m j : Nat} (hm : m + 64 * j = n) (h : m < 56) : ∀ i, i < 64 → wc (cq (fun i => f (64 * j + i)) m) (cnt n) 8 i = padS f n (64 * j + i) := fun i hi => by
  unfold wc cq padS
  rw [nb_small hm h]
  by_cases h1 : 64 - 8 ≤ i
  · rw [if_pos h1, if_neg (by omega), if_neg (by omega), if_pos (by omega), cnt_byte n _ (by omega), show 64 * (j + 1) - 1 - (64 * j + i) = 63 - i by omega]
  · rw [if_neg h1]
    by_cases h2 : i < m
    · rw [if_pos h2, if_pos (by omega)]
    · rw [if_neg h2, if_neg (show ¬ 64 * j + i < n by omega)]
      by_cases h3 : i = m
      · rw [if_pos h3, if_pos (by omega)]
      · rw [if_neg h3, if_neg (by omega), if_neg (by omega)]
/-- The last but one, where it hasn't. -/
theorem pad_great (f : Nat → Nat) {n m j : Nat} (hm : m + 64 * j = n) (h : 56 ≤ m) (h2 : m < 64) : ∀ i, i < 64 → cq (fun i => f (64 * j + i)) m i = padS f n (64 * j + i) := fun i hi => by
  unfold cq padS
  rw [nb_great hm h h2]
  by_cases h2 : i < m
  · rw [if_pos h2, if_pos (by omega)]
  · rw [if_neg h2, if_neg (show ¬ 64 * j + i < n by omega)]
    by_cases h3 : i = m
    · rw [if_pos h3, if_pos (by omega)]
    · rw [if_neg h3, if_neg (by omega), if_neg (by omega)]
theorem pad_last (f : Nat → Nat) {n m j : Nat} (hm : m + 64 * j = n) (h : 56 ≤ m) (h2 : m < 64) : ∀ i, i < 64 → wc (fun _ => 0) (cnt n) 8 i = padS f n (64 * (j + 1) + i) := fun i hi => by
  unfold wc padS
  rw [nb_great hm h h2, if_neg (show ¬ 64 * (j + 1) + i < n by omega), if_neg (show ¬ 64 * (j + 1) + i = n by omega)]
  by_cases h1 : 64 - 8 ≤ i
  · rw [if_pos h1, if_pos (by omega), cnt_byte n _ (by omega), show 64 * (j + 2) - 1 - (64 * (j + 1) + i) = 63 - i by omega]
  · rw [if_neg h1, if_neg (by omega)]
theorem pad_own (f : Nat → Nat) {n i : Nat} (h : i < n) : padS f n i = f i := by rw [padS, if_pos h]
theorem pad_lt {f : Nat → Nat} {n : Nat} (h : ∀ i, i < n → f i < 256) (i : Nat) : padS f n i < 256 := by
  unfold padS
  split
  · exact h _ (by assumption)
  · split
    · decide
    · split
      · exact Nat.mod_lt _ (by decide)
      · decide
theorem bs64_next (F : Nat → Nat) (j : Nat) : bk (bs64 F j) (fun i => F (64 * j + i)) = bs64 F (j + 1) := by rw [bs64]
theorem bs64_start (F : Nat → Nat) : bs64 F 0 = ch0 := by rw [bs64]
theorem shh_hs (f : Nat → Nat) (n : Nat) : shh f n = hs (bs64 (padS f n) (nb n)) := by rw [shh]
theorem va_ch0 : va ch0 = #[.int .u32 1779033703, .int .u32 3144134277, .int .u32 1013904242, .int .u32 2773480762, .int .u32 1359893119, .int .u32 2600822924, .int .u32 528734635, .int .u32 1541459225] := by kernel_rfl
set_option maxHeartbeats 4000000 in
theorem sum_walk (A : Option Addr) (n c : Nat) (f : Nat → Nat) (w : World) (hn : n ≤ maxLen) (hc : n ≤ c) (hT : Tab w) (hs : Sl w A n f) :
    Calls Tryd.prog 7 #[.slice A n c] w fun e w' => e = .returned (.agg (ha (shh f n))) ∧ Below w.heap.size w w' := by
  have hn' : n ≤ 9223372036854775807 := hn
  have HS := Lib.hid hs
  have HT := Lib.hid hT
  clear hT hs
  go_enter Tryd.func7, Tryd.ntmps7
  go_wp2_with (first | (refine wpList_alloc_row rfl 30 rfl zH zH_run ?_) | (refine wpList_alloc_row rfl 26 rfl zV zV_run ?_) | (refine wpList_store_row rfl 26 _ _ rfl _ zV (va ch0) rfl (by rw [va_ch0]; rfl) (heap_alloc_new _ _) (infoArrV _) rfl (arr_one _ _ _) ?_))
  have f0 : (((w.alloc (.cells zH 30)).alloc (.cells zV 26)).setRow (w.heap.size + 1) (va ch0)).heap[w.heap.size]? = some (.cells zH 30) := blk_row_other (blk_alloc (heap_alloc_new _ _)) (by omega)
  have f1 : (((w.alloc (.cells zH 30)).alloc (.cells zV 26)).setRow (w.heap.size + 1) (va ch0)).heap[w.heap.size + 1]? = some (.cells (va (bs64 (padS f n) 0)) 26) := by rw [bs64_start]; exact blk_row (heap_alloc2_new _ _ _)
  have bW : Below w.heap.size w (((w.alloc (.cells zH 30)).alloc (.cells zV 26)).setRow (w.heap.size + 1) (va ch0)) := below_setRow (((Below.refl _ _).alloc (Nat.le_refl _) _).alloc (by simp) _) (by omega) _
  generalize (((w.alloc (.cells zH 30)).alloc (.cells zV 26)).setRow (w.heap.size + 1) (va ch0)) = W at *
  go_loopw [4] (fun v wr => ∃ (j m c' : Nat) (A' : Option Addr), v = .slice A' m c' ∧ Hid (m + 64 * j = n) ∧ m ≤ c' ∧ Hid (Sl w A' m (fun i => f (64 * j + i))) ∧ Below w.heap.size w wr ∧ wr.heap[w.heap.size]? = some (.cells zH 30) ∧ wr.heap[w.heap.size + 1]? = some (.cells (va (bs64 (padS f n) j)) 26)) (fun v _ => lenOf v)
  case atStart => exact ⟨0, n, c, A, rfl, Lib.hid (by omega), hc, Lib.hid (by simpa using HS.out), bW, f0, f1⟩
  case round =>
    clear f0 f1 bW hc
    obtain ⟨j, m, c', A', rfl, hm, hc', hs', hbw, f0, f1⟩ := hrel
    have hm2 : m ≤ 9223372036854775807 := by have := hm.out; omega
    by_cases hge : 64 ≤ m
    · obtain ⟨b, off, rfl, hbl, hcell⟩ := (hs'.out.below hbw).cells (by omega)
      have ha := fun w => Tryd.arrayP ⟨b, off, none⟩ m c' hge w
      have HR : Hid (∀ i, i < 64 → wr.cell? ⟨b, off + i, none⟩ = some (.int .u8 ((f (64 * j + i) : Nat) : Int))) := Lib.hid fun i hi => hcell i (by omega)
      have F0 := Lib.hid f0
      have F1 := Lib.hid f1
      have HB := Lib.hid hbw
      clear f0 f1 hbw hcell
      go_wp2_with (first | (refine load_pa rfl _ rfl b off rfl (fun i => f (64 * j + i)) HR.out ?_))
      refine (turn_walk (w.heap.size + 1) (bs64 (padS f n) j) (fun i => f (64 * j + i)) wr (bs64_lt _ _) (fun i hi => hs'.out.small i (by omega)) (HT.out.below HB.out) F1.out).mono ?_
      rintro e w1 ⟨rfl, b1, g1⟩
      rw [bk_congr _ (g := fun i => padS f n (64 * j + i)) (fun i hi => (pad_own f (by have := hm.out; omega)).symm), bs64_next] at g1
      have F0' := Lib.hid (b1.other F0.out (by omega))
      have HB1 := Lib.hid (HB.out.trans (b1.below (Nat.le_succ _) HB.out.size))
      have F1' : Hid (w1.heap[w.heap.size + 1]? = some (.cells (va (bs64 (padS f n) (j + 1))) 26)) := Lib.hid g1
      clear b1 g1 F0 F1 HR ha HB
      go_wp2_with fail
      refine ⟨⟨j + 1, m - 64, c' - 64, _, rfl, Lib.hid (by have := hm.out; omega), by omega, Lib.hid ⟨fun i hi => ?_, fun h0 => ?_⟩, HB1.out, F0'.out, F1'.out⟩, by simp [lenOf]; omega⟩
      · have := hs'.out.small (64 + i) (by omega)
        rwa [show 64 * j + (64 + i) = 64 * (j + 1) + i by omega] at this
      · obtain ⟨b1, off1, e1, hl1, hc1⟩ := hs'.out.cells (by omega)
        cases e1
        refine ⟨b, off + 64, by rw [if_neg (by omega)], hl1, fun i hi => ?_⟩
        have := hc1 (64 + i) (by omega)
        rwa [show off + (64 + i) = off + 64 + i by omega, show 64 * j + (64 + i) = 64 * (j + 1) + i by omega] at this
    · have hm6 : m < 64 := by omega
      have F1 := Lib.hid f1
      have F0 := Lib.hid f0
      have HB := Lib.hid hbw
      clear f0 f1 hbw
      have hf2 : (wr.alloc (.cells zP 41)).heap[wr.heap.size]? = some (.cells zP 41) := heap_alloc_new _ _
      have hsl := hs'.out.below (HB.out.alloc HB.out.size (.cells zP 41))
      go_upto_region 8 with (first | (refine wpList_alloc_row rfl 41 rfl zP zP_run ?_) | (refine copy_pa rfl _ _ rfl wr.heap.size m c' A' rfl rfl (by omega) _ hsl hf2 ?_; intro w3 F2 b3))
      have hlt1 : w.heap.size + 1 < wr.heap.size := (Array.getElem?_eq_some_iff.1 F1.out).1
      replace HB := Lib.hid (HB.out.trans (((Below.refl _ wr).alloc HB.out.size (.cells zP 41)).trans (b3.mono HB.out.size)))
      have hb3 : Below wr.heap.size wr w3 := ((Below.refl _ wr).alloc (Nat.le_refl _) (.cells zP 41)).trans b3
      replace F0 := Lib.hid (stay hb3 F0.out)
      replace F1 := Lib.hid (stay hb3 F1.out)
      obtain ⟨l, hl⟩ : ∃ l, wr.heap.size = l := ⟨_, rfl⟩
      rw [hl] at F2 hlt1 ⊢
      clear hf2 hsl b3 hb3
      have c4 := blk_cell F2.out (pa_get (S := cp (fun i => f (64 * j + i)) m) hm6)
      have fz := blk_frozen (j := m) F2.out
      have h4 : (w3.setCell ⟨l, m, none⟩ (.int .u8 128)).heap[l]? = _ := blk_set F2.out _
      rw [cq_one _ hm6] at h4
      have F4 := Lib.hid h4
      clear h4 F2
      go_upto_region 9 with fail
      replace HB := Lib.hid (HB.out.setCell (p := ⟨l, m, none⟩) (by simp; omega) (.int .u8 128))
      replace F0 := Lib.hid (blk_other (b := l) (j := m) F0.out (by omega) (.int .u8 128))
      replace F1 := Lib.hid (blk_other (b := l) (j := m) F1.out (by omega) (.int .u8 128))
      clear c4 fz hl
      generalize w3.setCell ⟨l, m, none⟩ (.int .u8 128) = w4 at *
      obtain ⟨C, hC⟩ : ∃ C, cnt n = C := ⟨_, rfl⟩
      have hcI : IntKind.u64.wrap (8 * (n : Int)) = (C : Int) := by rw [← hC, cnt, IntKind.wrap_u64]; simp only [B]; omega
      have HC := Lib.hid hC
      clear hC
      by_cases hbig : 56 ≤ m
      · have hfin := Lib.hid (pad_last f hm.out hbig hm6)
        have hnb : Hid (nb n = (j + 1) + 1) := Lib.hid (nb_great hm.out hbig hm6)
        rw [HC.out] at hfin
        rw [pa_congr (pad_great f hm.out hbig hm6)] at F4
        go_wp2_with (first | (refine wpList_load_row rfl 41 _ rfl _ rfl 41 (pa (fun i => padS f n (64 * j + i))) (0, 0) _ F4.out Tryd.underlying41 rfl (infoArrP _) ?_))
        refine (turn_walk (w.heap.size + 1) (bs64 (padS f n) j) (fun i => padS f n (64 * j + i)) w4 (bs64_lt _ _) (fun i _ => pad_lt HS.out.small _) (HT.out.below HB.out) F1.out).mono ?_
        rintro e w5 ⟨rfl, b5, g5⟩
        replace F0 := Lib.hid (b5.other F0.out (by omega))
        have f4 := b5.other F4.out (by omega)
        replace HB := Lib.hid (HB.out.trans (b5.below (Nat.le_succ _) HB.out.size))
        rw [bs64_next] at g5
        replace F1 : Hid (w5.heap[w.heap.size + 1]? = some (.cells (va (bs64 (padS f n) (j + 1))) 26)) := Lib.hid g5
        clear b5 g5 F4
        obtain ⟨L, hL⟩ : ∃ L : Nat → Nat, (fun _ => 0) = L := ⟨_, rfl⟩
        have hzL : Hid (zP = pa (wc L C 0)) := Lib.hid (by rw [wc_zero, ← hL]; rfl)
        rw [hL] at hfin
        go_wp2_with (first | (refine wpList_build_zero rfl 41 rfl Tryd.underlying41 Tryd.sizeOf5 zP zP_run ?_) | (refine wpList_store_row rfl 41 _ _ rfl _ (pa (fun i => padS f n (64 * j + i))) zP rfl rfl f4 (infoArrP _) rfl (arr_one _ _ _) ?_))
        have F4 : Hid ((w5.setRow l zP).heap[l]? = some (.cells (pa (wc L C 0)) 41)) := Lib.hid (by rw [← hzL.out]; exact blk_row f4)
        replace F0 := Lib.hid (blk_row_other (b := l) (c' := zP) F0.out (by omega))
        replace F1 := Lib.hid (blk_row_other (b := l) (c' := zP) F1.out (by omega))
        replace HB := Lib.hid (below_setRow HB.out (b := l) (by omega) zP)
        clear f4 hzL hL
        generalize w5.setRow l zP = w6 at *
        clear hcI
        go_loopw [35] (fun i wr => ∃ k : Nat, k ≤ 8 ∧ i = .int .i64 k ∧ Hid (Below w.heap.size w wr) ∧ Hid (wr.heap[w.heap.size]? = some (.cells zH 30)) ∧ Hid (wr.heap[w.heap.size + 1]? = some (.cells (va (bs64 (padS f n) (j + 1))) 26)) ∧ wr.heap[l]? = some (.cells (pa (wc L C k)) 41)) (fun i _ => 8 - (intOf i).toNat)
        case atStart => exact ⟨0, by omega, rfl, HB, F0, F1, F4.out⟩
        case round =>
          clear HB F0 F1 F4
          obtain ⟨k, hk, rfl, HB, F0, F1, f4⟩ := hrel
          by_cases hlt : k < 8
          · obtain ⟨p, hp⟩ : ∃ p, p + k = 63 := ⟨63 - k, by omega⟩
            obtain ⟨z, hz⟩ : ∃ z, C / 256 ^ k % 256 = z := ⟨_, rfl⟩
            have e1 : 63 - (k : Int) = (p : Int) := by omega
            have e2 : (C : Int) / 2 ^ (8 * k) % 256 = (z : Int) := by rw [pow256, hz]
            have cx := blk_cell f4 (pa_get (S := wc L C k) (i := p) (by omega))
            have fz := blk_frozen (j := p) f4
            have h4 : (wr.setCell ⟨l, p, none⟩ (.int .u8 ((z : Nat) : Int))).heap[l]? = _ := blk_set f4 _
            rw [wc_next L C hlt hp hz] at h4
            have F4 := Lib.hid h4
            have hp6 : p < 64 := by omega
            clear h4 f4 hz hp
            go_wp2_with fail
            exact ⟨⟨k + 1, by omega, by go_num, Lib.hid (HB.out.setCell (p := ⟨l, p, none⟩) (by simp; omega) _), Lib.hid (blk_other F0.out (by omega) _), Lib.hid (blk_other F1.out (by omega) _), F4.out⟩, by simp [intOf]; omega⟩
          · obtain rfl : k = 8 := by omega
            rw [pa_congr hfin.out] at f4
            have F4 := Lib.hid f4
            clear f4 hfin
            go_wp2_with (first | (refine wpList_load_row rfl 41 _ rfl _ rfl 41 (pa (fun i => padS f n (64 * (j + 1) + i))) (0, 0) _ F4.out Tryd.underlying41 rfl (infoArrP _) ?_))
            refine (turn_walk (w.heap.size + 1) (bs64 (padS f n) (j + 1)) (fun i => padS f n (64 * (j + 1) + i)) wr (bs64_lt _ _) (fun i _ => pad_lt HS.out.small _) (HT.out.below HB.out) F1.out).mono ?_
            rintro e w7 ⟨rfl, b7, g7⟩
            have F0' := Lib.hid (b7.other F0.out (by omega))
            have HB7 := Lib.hid (HB.out.trans (b7.below (Nat.le_succ _) HB.out.size))
            rw [bs64_next, ← hnb.out] at g7
            have G7 : Hid (w7.heap[w.heap.size + 1]? = some (.cells (va (bs64 (padS f n) (nb n))) 26)) := Lib.hid g7
            clear b7 g7 F0 F1 HB
            obtain ⟨V, hV⟩ : ∃ V, bs64 (padS f n) (nb n) = V := ⟨_, rfl⟩
            have HSH : Hid (shh f n = hs V) := Lib.hid (by rw [shh_hs, hV])
            rw [hV] at G7
            clear hV
            go_wp2_with (first | (refine wpList_load_row rfl 26 _ rfl _ rfl 26 (va V) (0, 0) _ G7.out Tryd.underlying26 rfl (infoArrV _) ?_))
            refine (written_walk V w7).mono ?_
            rintro e w8 ⟨rfl, b8⟩
            have f8 := stay b8 F0'.out
            have HB8 := Lib.hid (HB7.out.trans (b8.mono HB7.out.size))
            clear b8 G7 F0' HB7
            go_wp2_with (first | (refine wpList_store_row rfl 30 _ _ rfl _ zH (ha (hs V)) rfl rfl f8 (infoArrH _) rfl (arr_one _ _ _) ?_))
            refine bodyPost_ret (v := .agg (ha (hs V))) (results_cell_row rfl _ _ _ 30 (ha (hs V)) (0, 0) _ rfl (blk_row f8) Tryd.underlying30 rfl (infoArrH _)) rfl ⟨by rw [HSH.out], below_setRow HB8.out (Nat.le_refl _) _⟩
      · have hfin := Lib.hid (pad_small f hm.out (Nat.lt_of_not_le hbig))
        have hnb : Hid (nb n = j + 1) := Lib.hid (nb_small hm.out (Nat.lt_of_not_le hbig))
        rw [HC.out] at hfin
        obtain ⟨L, hL⟩ : ∃ L, cq (fun i => f (64 * j + i)) m = L := ⟨_, rfl⟩
        rw [hL, ← wc_zero L C] at F4
        rw [hL] at hfin
        clear hL
        go_wp2_with fail
        clear hcI
        go_loopw [35] (fun i wr => ∃ k : Nat, k ≤ 8 ∧ i = .int .i64 k ∧ Hid (Below w.heap.size w wr) ∧ Hid (wr.heap[w.heap.size]? = some (.cells zH 30)) ∧ Hid (wr.heap[w.heap.size + 1]? = some (.cells (va (bs64 (padS f n) j)) 26)) ∧ wr.heap[l]? = some (.cells (pa (wc L C k)) 41)) (fun i _ => 8 - (intOf i).toNat)
        case atStart => exact ⟨0, by omega, rfl, HB, F0, F1, F4.out⟩
        case round =>
          clear HB F0 F1 F4
          obtain ⟨k, hk, rfl, HB, F0, F1, f4⟩ := hrel
          by_cases hlt : k < 8
          · obtain ⟨p, hp⟩ : ∃ p, p + k = 63 := ⟨63 - k, by omega⟩
            obtain ⟨z, hz⟩ : ∃ z, C / 256 ^ k % 256 = z := ⟨_, rfl⟩
            have e1 : 63 - (k : Int) = (p : Int) := by omega
            have e2 : (C : Int) / 2 ^ (8 * k) % 256 = (z : Int) := by rw [pow256, hz]
            have cx := blk_cell f4 (pa_get (S := wc L C k) (i := p) (by omega))
            have fz := blk_frozen (j := p) f4
            have h4 : (wr.setCell ⟨l, p, none⟩ (.int .u8 ((z : Nat) : Int))).heap[l]? = _ := blk_set f4 _
            rw [wc_next L C hlt hp hz] at h4
            have F4 := Lib.hid h4
            have hp6 : p < 64 := by omega
            clear h4 f4 hz hp
            go_wp2_with fail
            exact ⟨⟨k + 1, by omega, by go_num, Lib.hid (HB.out.setCell (p := ⟨l, p, none⟩) (by simp; omega) _), Lib.hid (blk_other F0.out (by omega) _), Lib.hid (blk_other F1.out (by omega) _), F4.out⟩, by simp [intOf]; omega⟩
          · obtain rfl : k = 8 := by omega
            rw [pa_congr hfin.out] at f4
            have F4 := Lib.hid f4
            clear f4 hfin
            go_wp2_with (first | (refine wpList_load_row rfl 41 _ rfl _ rfl 41 (pa (fun i => padS f n (64 * (j) + i))) (0, 0) _ F4.out Tryd.underlying41 rfl (infoArrP _) ?_))
            refine (turn_walk (w.heap.size + 1) (bs64 (padS f n) (j)) (fun i => padS f n (64 * (j) + i)) wr (bs64_lt _ _) (fun i _ => pad_lt HS.out.small _) (HT.out.below HB.out) F1.out).mono ?_
            rintro e w7 ⟨rfl, b7, g7⟩
            have F0' := Lib.hid (b7.other F0.out (by omega))
            have HB7 := Lib.hid (HB.out.trans (b7.below (Nat.le_succ _) HB.out.size))
            rw [bs64_next, ← hnb.out] at g7
            have G7 : Hid (w7.heap[w.heap.size + 1]? = some (.cells (va (bs64 (padS f n) (nb n))) 26)) := Lib.hid g7
            clear b7 g7 F0 F1 HB
            obtain ⟨V, hV⟩ : ∃ V, bs64 (padS f n) (nb n) = V := ⟨_, rfl⟩
            have HSH : Hid (shh f n = hs V) := Lib.hid (by rw [shh_hs, hV])
            rw [hV] at G7
            clear hV
            go_wp2_with (first | (refine wpList_load_row rfl 26 _ rfl _ rfl 26 (va V) (0, 0) _ G7.out Tryd.underlying26 rfl (infoArrV _) ?_))
            refine (written_walk V w7).mono ?_
            rintro e w8 ⟨rfl, b8⟩
            have f8 := stay b8 F0'.out
            have HB8 := Lib.hid (HB7.out.trans (b8.mono HB7.out.size))
            clear b8 G7 F0' HB7
            go_wp2_with (first | (refine wpList_store_row rfl 30 _ _ rfl _ zH (ha (hs V)) rfl rfl f8 (infoArrH _) rfl (arr_one _ _ _) ?_))
            refine bodyPost_ret (v := .agg (ha (hs V))) (results_cell_row rfl _ _ _ 30 (ha (hs V)) (0, 0) _ rfl (blk_row f8) Tryd.underlying30 rfl (infoArrH _)) rfl ⟨by rw [HSH.out], below_setRow HB8.out (Nat.le_refl _) _⟩
end Go.Proofs.YtnnodibjocilmaaDoor
