/- What the function spread of package sha does: the 64 numbers that are made of a piece. -/
import Derived.Test.YtnnodibjocilmaaDoorShA
namespace Go.Proofs.YtnnodibjocilmaaDoor
open Go.RowKit SmWord
set_option maxRecDepth 100000

theorem sd (x n : Nat) (z : Int) (w : World) (hz : (n : Int) = z) (hx : x < D32) (h1 : 1 ≤ n) (h2 : n ≤ 31) :
    Calls Tryd.prog 17 #[.int .u32 (x : Int), .int .i64 z] w fun e w' => e = .returned (.int .u32 ((dn x n : Nat) : Int)) ∧ Below w.heap.size w w' := by
  subst hz
  exact (sdown x n w hx h1 h2).mono fun _ w' ⟨a, b⟩ => ⟨a, by subst b; exact Below.refl _ _⟩
/-- The first c bytes of number i. -/
def an (f : Nat → Nat) (i : Nat) : Nat → Nat
  | 0 => 0
  | c + 1 => an f i c * 256 + f (4 * i + c)
def ac (f : Nat → Nat) (k i : Nat) : Nat := an f i (min (k - 4 * i) 4)
theorem an_m4 (f : Nat → Nat) (i : Nat) : an f i 4 = m4 f i := by
  simp only [an, m4, Nat.add_zero]
  omega
theorem an_lt {f : Nat → Nat} {i : Nat} : ∀ c, (∀ j, j < c → f (4 * i + j) < 256) → an f i c < 256 ^ c
  | 0, _ => by simp [an]
  | c + 1, h => by
    have h1 := an_lt c fun j hj => h j (by omega)
    have h2 := h c (by omega)
    rw [an, Nat.pow_succ]
    omega
theorem ac_step {f : Nat → Nat} {k q : Nat} (hf : ∀ i, i < 64 → f i < 256) (hk : k < 64) (hq : k / 4 = q) : ac f k q < 16777216 ∧ ac f (k + 1) q = ac f k q * 256 + f k ∧ ∀ i, i ≠ q → ac f (k + 1) i = ac f k i := by
  have e1 : min (k - 4 * q) 4 = k % 4 := by omega
  have e2 : min (k + 1 - 4 * q) 4 = k % 4 + 1 := by omega
  refine ⟨?_, ?_, fun i hi => ?_⟩
  · have := an_lt (f := f) (i := q) (k % 4) fun j hj => hf _ (by omega)
    rw [ac, e1]
    exact Nat.lt_of_lt_of_le this (Nat.le_trans (Nat.pow_le_pow_right (by decide) (show k % 4 ≤ 3 by omega)) (by decide))
  · rw [ac, ac, e1, e2, an, show 4 * q + k % 4 = k by omega]
  · rw [ac, ac]
    congr 1
    omega
theorem or_byte {y x : Nat} (hy : y < 16777216) (hx : x < 256) : bits .or .u32 ((y : Int) * 256 % 4294967296) ((x : Int) % 4294967296) = ((y * 256 + x : Nat) : Int) := by
  have e : (y : Int) * 256 % 4294967296 = ((y * 256 : Nat) : Int) := by omega
  have e2 : (x : Int) % 4294967296 = (x : Int) := by omega
  rw [e, e2, u32_or_nat _ _ (by omega) (by omega), nat_join 8 _ _ (by omega) (by omega)]
/-- The first 16 numbers. -/
def mm (f : Nat → Nat) (i : Nat) : Nat := if i < 16 then m4 f i else 0
theorem ac_end (f : Nat → Nat) : ka (ac f 64) = ka (mm f) := ka_congr fun i hi => by
  unfold ac mm
  by_cases h : i < 16
  · rw [if_pos h, show min (64 - 4 * i) 4 = 4 by omega, an_m4]
  · rw [if_neg h, show min (64 - 4 * i) 4 = 0 by omega, an]
theorem ac_start (f : Nat → Nat) : ka (ac f 0) = zK := ka_congr fun i _ => by
  unfold ac
  rw [show min (0 - 4 * i) 4 = 0 by omega, an]
theorem sw_mm (f : Nat → Nat) : ∀ k, ∀ i, i < 16 + k → sw (mm f) k i = sw (m4 f) k i
  | 0, i, hi => by simp only [sw, mm, if_pos (show i < 16 by omega)]
  | k + 1, i, hi => by
    have ih := sw_mm f k
    unfold sw
    by_cases e : i = 16 + k
    · rw [if_pos e, if_pos e, ih k (by omega), ih (k + 9) (by omega), ih (k + 1) (by omega), ih (k + 14) (by omega)]
    · rw [if_neg e, if_neg e, ih i (by omega)]
theorem mm_lt {f : Nat → Nat} (hf : ∀ i, i < 64 → f i < 256) (i : Nat) : mm f i < D32 := by
  unfold mm m4
  split
  · have := hf (4 * i) (by omega)
    have := hf (4 * i + 1) (by omega)
    have := hf (4 * i + 2) (by omega)
    have := hf (4 * i + 3) (by omega)
    simp only [D32]
    omega
  · decide
theorem sw_lt {m : Nat → Nat} (hm : ∀ i, m i < D32) : ∀ k i, sw m k i < D32
  | 0, i => hm i
  | k + 1, i => by
    unfold sw
    split
    · exact Nat.mod_lt _ (by decide)
    · exact sw_lt hm k i
theorem g0_lt {x : Nat} (h : x < D32) : g0 x < D32 := xor_lt32 (xor_lt32 (dn_lt _ h) (dn_lt _ h)) (Nat.lt_of_le_of_lt (Nat.div_le_self _ _) h)
theorem g1_lt {x : Nat} (h : x < D32) : g1 x < D32 := xor_lt32 (xor_lt32 (dn_lt _ h) (dn_lt _ h)) (Nat.lt_of_le_of_lt (Nat.div_le_self _ _) h)
theorem sw_put (m : Nat → Nat) {k n : Nat} (hk : n = 16 + k) (hn : n < 64) {z : Nat} (hz : (sw m k k + sw m k (k + 9) + g0 (sw m k (k + 1)) + g1 (sw m k (k + 14))) % D32 = z) : (ka (sw m k)).setIfInBounds n (.int .u32 ((z : Nat) : Int)) = ka (sw m (k + 1)) := by
  subst hk hz
  rw [ka_set hn]
  rfl
theorem index_pa (f : Nat → Nat) {k : Nat} (hk : k < 64) (w : World) : (Instr.index 41 (.agg (pa f)) (.int .i64 (k : Int))).run Tryd.prog w = .ok (.int .u8 ((f k : Nat) : Int)) w := by
  have hn : (0 : Int) ≤ (k : Int) ∧ (k : Int) < ((64 : Nat) : Int) := by omega
  simp [Instr.index, run_underlying Tryd.underlying41, asIntOf, hn, go_sem, hk, show (pa f)[k]? = _ from arr_get _ _ hk]
set_option maxHeartbeats 2000000 in
theorem spread_walk (f : Nat → Nat) (w : World) (hf : ∀ i, i < 64 → f i < 256) :
    Calls Tryd.prog 16 #[.agg (pa f)] w fun e w' => e = .returned (.agg (ka (sw (mm f) 48))) ∧ Below w.heap.size w w' := by
  have HF := Lib.hid hf
  clear hf
  have f1 : (w.alloc (.cells (pa f) 41)).heap[w.heap.size]? = some (.cells (pa f) 41) := heap_alloc_new _ _
  have f1' : (((w.alloc (.cells (pa f) 41)).alloc (.cells zK 25)).alloc (.cells zK 25)).heap[w.heap.size]? = some (.cells (pa f) 41) := blk_alloc (blk_alloc f1)
  go_enter Tryd.func16, Tryd.ntmps16
  go_wp2_with (first | (refine wpList_alloc_row rfl 25 rfl zK zK_run ?_) | (refine wpList_load_row rfl 41 _ rfl _ rfl 41 (pa f) (0, 0) _ f1' Tryd.underlying41 rfl (infoArrP _) ?_))
  have f0 : (((w.alloc (.cells (pa f) 41)).alloc (.cells zK 25)).alloc (.cells zK 25)).heap[w.heap.size + 1]? = some (.cells zK 25) := blk_alloc (heap_alloc2_new _ _ _)
  have f2 : (((w.alloc (.cells (pa f) 41)).alloc (.cells zK 25)).alloc (.cells zK 25)).heap[w.heap.size + 1 + 1]? = some (.cells (ka (ac f 0)) 25) := by
    rw [ac_start]
    have := heap_alloc_new ((w.alloc (.cells (pa f) 41)).alloc (.cells zK 25)) (.cells zK 25)
    simpa using this
  have bW : Below w.heap.size w (((w.alloc (.cells (pa f) 41)).alloc (.cells zK 25)).alloc (.cells zK 25)) := (((Below.refl _ _).alloc (Nat.le_refl _) _).alloc (by simp) _).alloc (by simp; omega) _
  clear f1 f1'
  generalize (((w.alloc (.cells (pa f) 41)).alloc (.cells zK 25)).alloc (.cells zK 25)) = W at *
  go_loopw [10] (fun i wr => ∃ k : Nat, k ≤ 64 ∧ i = .int .i64 k ∧ Below w.heap.size w wr ∧ wr.heap[w.heap.size + 1]? = some (.cells zK 25) ∧ wr.heap[w.heap.size + 1 + 1]? = some (.cells (ka (ac f k)) 25)) (fun i _ => 64 - (intOf i).toNat)
  case atStart => exact ⟨0, by omega, rfl, bW, f0, f2⟩
  case round =>
    clear bW f0 f2
    obtain ⟨k, hk, rfl, hb, f0, f2⟩ := hrel
    by_cases hlt : k < 64
    · obtain ⟨q, hq⟩ : ∃ q, k / 4 = q := ⟨_, rfl⟩
      have hqI : (k : Int) / 4 = (q : Int) := by omega
      have hq16 : q < 64 := by omega
      obtain ⟨s1, s2, s3⟩ := ac_step HF.out hlt hq
      have hfk := HF.out k hlt
      obtain ⟨y, hy⟩ : ∃ y, ac f k q = y := ⟨_, rfl⟩
      obtain ⟨x, hx⟩ : ∃ x, f k = x := ⟨_, rfl⟩
      have c2 := blk_cell f2 (ka_get (S := ac f k) hq16)
      have fz := blk_frozen (j := q) f2
      have ix := index_pa f hlt wr
      rw [hy] at c2 s1 s2
      rw [hx] at hfk ix s2
      have hv := or_byte s1 hfk
      have hput : (ka (ac f k)).setIfInBounds q (.int .u32 ((y * 256 + x : Nat) : Int)) = ka (ac f (k + 1)) := by
        rw [ka_set hq16]
        refine ka_congr fun i _ => ?_
        by_cases e : i = q
        · rw [if_pos e, e, s2]
        · rw [if_neg e, s3 i e]
      have hz : ∃ z, y * 256 + x = z := ⟨_, rfl⟩
      obtain ⟨z, hz⟩ := hz
      rw [hz] at hv hput
      have h2 : (wr.setCell ⟨w.heap.size + 1 + 1, q, none⟩ (.int .u32 ((z : Nat) : Int))).heap[w.heap.size + 1 + 1]? = _ := blk_set f2 _
      rw [hput] at h2
      have F0 := Lib.hid f0
      have F2 := Lib.hid h2
      have HB := Lib.hid hb
      clear f0 f2 hb hz s1 s2 s3 hq hy hx hfk hput h2
      go_wp2_with fail
      exact ⟨⟨k + 1, by omega, by go_num, HB.out.setCell (by simp; omega) _, blk_other F0.out (by omega) _, F2.out⟩, by simp [intOf]; omega⟩
    · obtain rfl : k = 64 := by omega
      rw [ac_end] at f2
      have F0 := Lib.hid f0
      have F2 := Lib.hid f2
      have HB := Lib.hid hb
      clear f0 f2 hb
      go_wp2_with fail
      go_loopw [6] (fun i wr => ∃ k n : Nat, Hid (n = 16 + k) ∧ n ≤ 64 ∧ i = .int .i64 n ∧ Below w.heap.size w wr ∧ wr.heap[w.heap.size + 1]? = some (.cells zK 25) ∧ wr.heap[w.heap.size + 1 + 1]? = some (.cells (ka (sw (mm f) k)) 25)) (fun i _ => 64 - (intOf i).toNat)
      case atStart => exact ⟨0, 16, Lib.hid rfl, by omega, rfl, HB.out, F0.out, F2.out⟩
      case round =>
        clear F0 F2 HB
        obtain ⟨k, n, hn, hn6, rfl, hb, f0, f2⟩ := hrel
        by_cases hlt : n < 64
        · have HT : ∀ i, sw (mm f) k i < D32 := sw_lt (mm_lt HF.out) k
          obtain ⟨p1, hp1⟩ : ∃ p, k + 1 = p := ⟨_, rfl⟩
          obtain ⟨p14, hp14⟩ : ∃ p, k + 14 = p := ⟨_, rfl⟩
          obtain ⟨p9, hp9⟩ : ∃ p, k + 9 = p := ⟨_, rfl⟩
          have hnn := hn.out
          have i15 : (n : Int) - 15 = (p1 : Int) := by omega
          have i2 : (n : Int) - 2 = (p14 : Int) := by omega
          have i16 : (n : Int) - 16 = (k : Int) := by omega
          have i7 : (n : Int) - 7 = (p9 : Int) := by omega
          have l1 : p1 < 64 := by omega
          have l14 : p14 < 64 := by omega
          have l9 : p9 < 64 := by omega
          have l0 : k < 64 := by omega
          have hput := fun z => sw_put (mm f) (k := k) (z := z) hnn hlt
          rw [hp1, hp14, hp9] at hput
          generalize hTe : sw (mm f) k = T at *
          have c15 := blk_cell f2 (ka_get (S := T) l1)
          have c2 := blk_cell f2 (ka_get (S := T) l14)
          have F0 := Lib.hid f0
          have F2 := Lib.hid f2
          have HB := Lib.hid hb
          have HP := Lib.hid hput
          have HTT := Lib.hid HT
          have HK := Lib.hid hp1
          clear f0 f2 hb hput HT hTe hp1 hp14 hp9 hnn
          go_wp2_with fail
          go_quiet (fail)
          go_wp2_with fail
          have la : T p1 < D32 := HTT.out _
          have lb : T p14 < D32 := HTT.out _
          obtain ⟨a8, ha8⟩ : ∃ x, T p1 / 8 = x := ⟨_, rfl⟩
          obtain ⟨b10, hb10⟩ : ∃ x, T p14 / 1024 = x := ⟨_, rfl⟩
          have ea : ((T p1 : Nat) : Int) / 8 = (a8 : Int) := by omega
          have eb : ((T p14 : Nat) : Int) / 1024 = (b10 : Int) := by omega
          have xa1 := xor32 (dn_lt 7 la) (dn_lt 18 la)
          have xa2 : bits .xor .u32 ((dn (T p1) 7 ^^^ dn (T p1) 18 : Nat) : Int) (a8 : Int) = ((g0 (T p1) : Nat) : Int) := by
            rw [← ha8]
            exact xor32 (xor_lt32 (dn_lt 7 la) (dn_lt 18 la)) (Nat.lt_of_le_of_lt (Nat.div_le_self _ _) la)
          have xb1 := xor32 (dn_lt 17 lb) (dn_lt 19 lb)
          have xb2 : bits .xor .u32 ((dn (T p14) 17 ^^^ dn (T p14) 19 : Nat) : Int) (b10 : Int) = ((g1 (T p14) : Nat) : Int) := by
            rw [← hb10]
            exact xor32 (xor_lt32 (dn_lt 17 lb) (dn_lt 19 lb)) (Nat.lt_of_le_of_lt (Nat.div_le_self _ _) lb)
          obtain ⟨s1, hs1⟩ : ∃ s, (T k + T p9) % D32 = s := ⟨_, rfl⟩
          obtain ⟨s2, hs2⟩ : ∃ s, (s1 + g0 (T p1)) % D32 = s := ⟨_, rfl⟩
          obtain ⟨s3, hs3⟩ : ∃ s, (s2 + g1 (T p14)) % D32 = s := ⟨_, rfl⟩
          have q1 : ((T k : Int) + (T p9 : Int)) % 4294967296 = (s1 : Int) := by rw [← hs1]; exact sum32 _ _
          have q2 : ((s1 : Int) + ((g0 (T p1) : Nat) : Int)) % 4294967296 = (s2 : Int) := by rw [← hs2]; exact sum32 _ _
          have q3 : ((s2 : Int) + ((g1 (T p14) : Nat) : Int)) % 4294967296 = (s3 : Int) := by rw [← hs3]; exact sum32 _ _
          have hput := HP.out s3 (by rw [← hs3, ← hs2, ← hs1]; simp only [D32]; omega)
          have HP2 := Lib.hid hput
          clear HP hput hs1 hs2 hs3 ha8 hb10 c15 c2 i15 i2
          rename_i nq
          refine region_last2 (aQ := ?aQ) 29 (by kernel_rfl) (by kernel_rfl) (fun w1 => ?hq) (fun w0' hb' => ?hh)
          case hq =>
            have cg : ∀ g : Ext w1.on, ∀ i, i < 64 → g.on.cell? ⟨w.heap.size + 1 + 1, i, none⟩ = some (.int .u32 ((T i : Nat) : Int)) := fun g i hi => blk_cell (g.block (w1.block F2.out)) (ka_get (S := T) hi)
            have c16 := fun g => cg g k l0
            have c7 := fun g => cg g p9 l9
            have d1 := fun w => sd (T p1) 7 7 w rfl la (by decide) (by decide)
            have d2 := fun w => sd (T p1) 18 18 w rfl la (by decide) (by decide)
            have d3 := fun w => sd (T p14) 17 17 w rfl lb (by decide) (by decide)
            have d4 := fun w => sd (T p14) 19 19 w rfl lb (by decide) (by decide)
            clear cg
            simp only [List.take_succ_cons, List.take_zero]
            repeat (go_big_quiet_step (first | (go_at_call 17; with_reducible exact calls_ext (d1 _)) | (go_at_call 17; with_reducible exact calls_ext (d2 _)) | (go_at_call 17; with_reducible exact calls_ext (d3 _)) | (go_at_call 17; with_reducible exact calls_ext (d4 _))))
            refine wpQuiet_nil ?_
            rfl
          have g2 : w0'.heap[w.heap.size + 1 + 1]? = some (.cells (ka T) 25) := Ext.block ⟨w0', hb'⟩ F2.out
          have g0 : w0'.heap[w.heap.size + 1]? = some (.cells zK 25) := Ext.block ⟨w0', hb'⟩ F0.out
          replace HB := Lib.hid ((HB.out.trans (below_drewN wr nq |>.mono HB.out.size)).trans (hb'.mono HB.out.size))
          clear F0 F2 hb'
          have cx := blk_cell g2 (ka_get (S := T) hlt)
          have fz := blk_frozen (j := n) g2
          have h2 : (w0'.setCell ⟨w.heap.size + 1 + 1, n, none⟩ (.int .u32 ((s3 : Nat) : Int))).heap[w.heap.size + 1 + 1]? = _ := blk_set g2 _
          rw [HP2.out, ← HK.out] at h2
          have F2 := Lib.hid h2
          have F0 := Lib.hid (blk_other (b := w.heap.size + 1 + 1) (j := n) g0 (by omega) (.int .u32 ((s3 : Nat) : Int)))
          clear h2 g0 g2
          simp only [List.drop_succ_cons, List.drop_zero]
          go_wp2_with fail
          exact ⟨⟨k + 1, n + 1, Lib.hid (by have := hn.out; omega), by omega, by go_num, HB.out.setCell (by simp; omega) _, F0.out, F2.out⟩, by simp [intOf]; omega⟩
        · obtain rfl : n = 64 := by omega
          obtain rfl : k = 48 := by have := hn.out; omega
          have HB := Lib.hid hb
          clear hb
          go_wp2_with (first | (refine wpList_load_row rfl 25 _ rfl _ rfl 25 (ka (sw (mm f) 48)) (0, 0) _ f2 Tryd.underlying25 rfl (infoArrK _) ?_) | (refine wpList_store_row rfl 25 _ _ rfl _ zK (ka (sw (mm f) 48)) rfl rfl f0 (infoArrK _) rfl (arr_one _ _ _) ?_))
          refine bodyPost_ret (v := .agg (ka (sw (mm f) 48))) (results_cell_row rfl _ _ _ 25 (ka (sw (mm f) 48)) (0, 0) _ rfl (blk_row f0) Tryd.underlying25 rfl (infoArrK _)) rfl ⟨rfl, below_setRow HB.out (by omega) _⟩
end Go.Proofs.YtnnodibjocilmaaDoor
