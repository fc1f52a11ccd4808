/- The document's memory: growing, reading and writing. -/
import Derived.Test.YtnffelnmlloonaaG5
import Derived.Test.YtnffelnmlloonaaG6
namespace Go.Proofs.Ytnffelnmlloonaa
open Go.RowKit SmWord
set_option maxRecDepth 100000

/-- The document's row: its own, of n bytes. -/
def ROwn (w : World) (base : Nat) (u : Value) (n : Nat) (f : Nat → Nat) : Prop := w.ownsRow base 5 1 u n (bb f n)
theorem ROwn.same {w : World} {base n : Nat} {u : Value} {f g : Nat → Nat} (h : ROwn w base u n f) (he : ∀ i, i < n → g i = f i) : ROwn w base u n g := by
  unfold ROwn
  rw [bb_congr he]
  exact h
/-- What Grow leaves. -/
theorem rgrow_walk {A : Option Addr} {n c m : Nat} {f : Nat → Nat} (w : World) (hs : Sl w A n f) (hnm : n ≤ m) (hm : m ≤ 4194304) :
    Calls Try.prog 17 #[.slice A n c, .int .i64 (m : Int)] w (RowIs m (ext0 f n) w) := by
  have hmk := Try.make_bytes m (by omega) w
  have e1 : max (m : Int) (n : Int) = (m : Int) := by omega
  have f0 : (w.alloc (.cells (arr .u8 m fun _ => 0) 5)).heap[w.heap.size]? = some (.cells (arr .u8 m fun _ => 0) 5) := heap_alloc_new _ _
  have b0 : Below w.heap.size w (w.alloc (.cells (arr .u8 m fun _ => 0) 5)) := (Below.refl _ _).alloc (Nat.le_refl _) _
  have F0 := Lib.hid f0
  have B0 := Lib.hid b0
  have HS := Lib.hid (hs.below b0)
  have HE : ∀ i, rdb f n 0 i = ext0 f n i := fun i => by unfold rdb ext0; rw [Nat.zero_add]
  clear f0 b0 hs
  go_enter Try.func17, Try.ntmps17
  go_wp2_with (refine copy_new rfl _ _ rfl w.heap.size m m 5 rfl A n c rfl f HS.out F0.out w.heap.size (Nat.le_refl _) ?_; intro kk w2 h2 b2)
  go_ret
  refine ⟨_, rfl, Nat.le_refl _, ?_, B0.out.trans b2⟩
  rw [h2]
  exact congrArg (fun c => some (Obj.cells c 5)) (arr_congr fun i _ => by rw [HE])
/-- What the document reads. -/
theorem rread_bad {A : Option Addr} {n c : Nat} (w : World) (z k : Int) (hz : z < 0) :
    Calls Try.prog 21 #[.slice A n c, .int .i64 z, .int .i64 k] w fun e w' => (∃ v, e = .returned v ∧ ROwn w' w.heap.size v 0 (fun _ => 0)) ∧ Below w.heap.size w w' := by
  have c1 : decide (z < 0) = true := by simp [hz]
  go_enter Try.func21, Try.ntmps21
  go_wp2_with fail
  go_ret
  exact ⟨⟨_, rfl, World.ownsRow_made w #[] 0 (Nat.le_refl _) (Nat.zero_le _) rfl⟩, (Below.refl _ _).alloc (Nat.le_refl _) _⟩
theorem one8 (w : World) (x : Int) : ∀ j v, [Value.int .u8 x][j]? = some v → (w.alloc (.cells #[.int .u8 x] 5)).cell? ((⟨w.heap.size, 0, none⟩ : Addr).add j) = some v := cell_one_new _ _ _
theorem bb_next {f : Nat → Nat} {j : Nat} : bb f j ++ [.int .u8 ((f j : Nat) : Int)] = bb f (j + 1) := by simp [bb, List.range_succ]
set_option maxHeartbeats 2000000 in
theorem rread_good {A : Option Addr} {n c : Nat} {f : Nat → Nat} (w : World) (z k : Nat) (hs : Sl w A n f) (hn : n ≤ 4194304) (hz : z < 9223372036854775808) (hk : k ≤ 4194304) :
    Calls Try.prog 21 #[.slice A n c, .int .i64 (z : Int), .int .i64 (k : Int)] w fun e w' => (∃ v, e = .returned v ∧ ROwn w' w.heap.size v k (rdb f n z)) ∧ Below w.heap.size w w' := by
  have c1 : decide ((z : Int) < 0) = false := by simp
  have c2 : decide ((k : Int) ≤ 4194304) = true := by simp; omega
  have HS := Lib.hid hs
  have HO : Hid (ROwn (w.alloc (.cells #[] 5)) w.heap.size (.slice (some ⟨w.heap.size, 0, none⟩) 0 0) 0 (rdb f n z)) := Lib.hid (World.ownsRow_made w #[] 0 (Nat.le_refl _) (Nat.zero_le _) rfl)
  have HB := Lib.hid ((Below.refl w.heap.size w).alloc (Nat.le_refl _) (.cells #[] 5))
  clear hs
  go_enter Try.func21, Try.ntmps21
  go_wp2_with fail
  generalize w.alloc (.cells #[] 5) = W at *
  go_loopw [7, 8] (fun o i wr => ∃ (j : Nat) (v : Value), j ≤ k ∧ i = .int .i64 (j : Int) ∧ v = o ∧ Hid (ROwn wr w.heap.size v j (rdb f n z)) ∧ Hid (Below w.heap.size w wr)) (fun _ i _ => k - (intOf i).toNat)
  case atStart => exact ⟨0, _, Nat.zero_le _, rfl, rfl, HO, HB⟩
  case round =>
    clear HO HB
    obtain ⟨j, v, hj, rfl, rfl, HO, HB⟩ := hrel
    by_cases hlt : j < k
    · have hjk : decide ((j : Int) < (k : Int)) = true := by simp; omega
      have hbase := HB.out.size
      by_cases hin : z + j < n
      · obtain ⟨b, off, rfl, hbl, hc⟩ := (HS.out.below HB.out).cells (by omega)
        have k1 := hc (z + j) hin
        have c3 : decide ((z : Int) < (n : Int) - (j : Int)) = true := by simp only [decide_eq_true_eq]; omega
        have hrd : rdb f n z j = f (z + j) := if_pos hin
        have hzn : z + j < n := hin
        clear hc
        go_wp2_with (at_builtin; refine append_one rfl _ _ rfl w.heap.size v j _ rfl (World.ownsRow.alloc HO.out _) ⟨wr.heap.size, 0, none⟩ ((f (z + j) : Nat) : Int) rfl (one8 _ _) (by omega) (by simp; omega) ?_; intro v5 w5 o5 g5; have O5 := Lib.hid o5; have B5 := Lib.hid ((HB.out.alloc hbase (.cells #[.int .u8 ((f (z + j) : Nat) : Int)] 5)).grown g5 (by simp; omega) (fun g hg => (World.ownsRow.lt HO.out g hg).1)); clear o5 g5)
        refine ⟨⟨j + 1, _, by omega, by go_num, rfl, Lib.hid ?_, B5⟩, by simp only [intOf]; omega⟩
        unfold ROwn
        rw [← bb_next, hrd]
        exact O5.out
      · have c3 : decide ((z : Int) < (n : Int) - (j : Int)) = false := by simp only [decide_eq_false_iff_not]; omega
        have hrd : rdb f n z j = 0 := if_neg hin
        go_wp2_with (at_builtin; refine append_one rfl _ _ rfl w.heap.size v j _ rfl (World.ownsRow.alloc HO.out _) ⟨wr.heap.size, 0, none⟩ 0 rfl (one8 _ _) (by omega) (by simp; omega) ?_; intro v5 w5 o5 g5; have O5 := Lib.hid o5; have B5 := Lib.hid ((HB.out.alloc hbase (.cells #[.int .u8 0] 5)).grown g5 (by simp; omega) (fun g hg => (World.ownsRow.lt HO.out g hg).1)); clear o5 g5)
        refine ⟨⟨j + 1, _, by omega, by go_num, rfl, Lib.hid ?_, B5⟩, by simp only [intOf]; omega⟩
        unfold ROwn
        rw [← bb_next, hrd]
        exact O5.out
    · obtain rfl : j = k := by omega
      have hjk : decide ((j : Int) < (j : Int)) = false := by simp
      go_wp2_with fail
      go_ret
      exact ⟨⟨_, rfl, HO.out⟩, HB.out⟩
theorem rread_far {A : Option Addr} {n c : Nat} (w : World) (z k : Int) (hz : 0 ≤ z) (hk : k < 0 ∨ 4194304 < k) :
    Calls Try.prog 21 #[.slice A n c, .int .i64 z, .int .i64 k] w fun e w' => (∃ v, e = .returned v ∧ ROwn w' w.heap.size v 0 (fun _ => 0)) ∧ Below w.heap.size w w' := by
  have c1 : decide (z < 0) = false := by simp; omega
  have HO : Hid (ROwn (w.alloc (.cells #[] 5)) w.heap.size (.slice (some ⟨w.heap.size, 0, none⟩) 0 0) 0 (fun _ => 0)) := Lib.hid (World.ownsRow_made w #[] 0 (Nat.le_refl _) (Nat.zero_le _) rfl)
  have HB := Lib.hid ((Below.refl w.heap.size w).alloc (Nat.le_refl _) (.cells #[] 5))
  by_cases h1 : k < 0
  · have c2 : decide (0 < k) = false := by simp; omega
    go_enter Try.func21, Try.ntmps21
    go_wp2_with fail
    go_loopw [7, 8] (fun o i wr => o = .slice (some ⟨w.heap.size, 0, none⟩) 0 0 ∧ i = .int .i64 0 ∧ w.alloc (.cells #[] 5) = wr) (fun _ _ _ => 0)
    case atStart => exact ⟨rfl, rfl, rfl⟩
    case round =>
      obtain ⟨rfl, rfl, rfl⟩ := hrel
      go_wp2_with fail
      go_ret
      exact ⟨⟨_, rfl, HO.out⟩, HB.out⟩
  · have c2 : decide (0 < k) = true := by simp; omega
    have c3 : decide (k ≤ 4194304) = false := by simp; omega
    go_enter Try.func21, Try.ntmps21
    go_wp2_with fail
    go_loopw [7, 8] (fun o i wr => o = .slice (some ⟨w.heap.size, 0, none⟩) 0 0 ∧ i = .int .i64 0 ∧ w.alloc (.cells #[] 5) = wr) (fun _ _ _ => 0)
    case atStart => exact ⟨rfl, rfl, rfl⟩
    case round =>
      obtain ⟨rfl, rfl, rfl⟩ := hrel
      go_wp2_with fail
      go_ret
      exact ⟨⟨_, rfl, HO.out⟩, HB.out⟩
theorem rread_any {A : Option Addr} {n c : Nat} {f : Nat → Nat} (w : World) (z k : Int) (hs : Sl w A n f) (hn : n ≤ 4194304) (hz : z < 9223372036854775808) :
    Calls Try.prog 21 #[.slice A n c, .int .i64 z, .int .i64 k] w (ReadIs (lenR z k) (rdb f n z.toNat) w) := by
  have fin : ∀ m F, (∀ i, i < m → F i < 256) → ∀ e w', ((∃ v, e = Ending.returned v ∧ ROwn w' w.heap.size v m F) ∧ Below w.heap.size w w') → ReadIs m F w e w' := fun m F hF e w' ⟨⟨v, he, ho⟩, hb⟩ => by
    obtain ⟨A1, c1, rfl, h1, h2, h3⟩ := own_sl ho hF
    exact ⟨A1, c1, he, h1, h2, h3, hb⟩
  unfold lenR
  by_cases h : z < 0 ∨ k < 0 ∨ 4194304 < k
  · rw [if_pos h]
    have zz : ∀ e w', ((∃ v, e = Ending.returned v ∧ ROwn w' w.heap.size v 0 (fun _ => 0)) ∧ Below w.heap.size w w') → ReadIs 0 (rdb f n z.toNat) w e w' := fun e w' ⟨⟨v, he, ho⟩, hb⟩ => fin 0 _ (fun i hi => by omega) e w' ⟨⟨v, he, ho.same fun i hi => by omega⟩, hb⟩
    by_cases h1 : z < 0
    · exact (rread_bad w z k h1).mono zz
    · exact (rread_far w z k (by omega) (by omega)).mono zz
  · rw [if_neg h]
    obtain ⟨z', rfl⟩ : ∃ z' : Nat, z = (z' : Int) := ⟨z.toNat, by omega⟩
    obtain ⟨k', rfl⟩ : ∃ k' : Nat, k = (k' : Int) := ⟨k.toNat, by omega⟩
    rw [Int.toNat_natCast, Int.toNat_natCast]
    exact (rread_good w z' k' hs hn (by omega) (by omega)).mono (fin k' _ fun i _ => rdb_lt hs.small _ _)
theorem rword_any {A : Option Addr} {n c : Nat} {f : Nat → Nat} (w : World) (z : Int) (hs : Sl w A n f) (hn : n ≤ 4194304) (hz : z < 9223372036854775808) :
    Calls Try.prog 26 #[.slice A n c, .int .i64 z] w fun e w' => e = .returned (wd (wrd f n z)) ∧ Below w.heap.size w w' := by
  have f0 : (w.alloc (.cells (wa 0) 30)).heap[w.heap.size]? = some (.cells (wa 0) 30) := heap_alloc_new _ _
  have b0 : Below w.heap.size w (w.alloc (.cells (wa 0) 30)) := (Below.refl _ _).alloc (Nat.le_refl _) _
  have K := Lib.hid (rread_any (A := A) (n := n) (c := c) (f := f) (w.alloc (.cells (wa 0) 30)) z 32 (hs.below b0) hn hz)
  have F0 := Lib.hid f0
  have HB := Lib.hid b0
  have hz4 := z4_w0
  have hl := lenR_32 z
  clear hs f0 b0
  unfold wrd
  generalize lenR z 32 = L at *
  generalize rdb f n z.toNat = F at *
  go_enter Try.func26, Try.ntmps26
  go_wp2_with fail
  refine K.out.mono ?_
  rintro e w1 ⟨A1, c1, rfl, _, _, hs, b1⟩
  replace F0 := Lib.hid (stay b1 F0.out)
  replace HB := Lib.hid (HB.out.trans (b1.mono HB.out.size))
  clear b1
  go_wp2_with fail
  refine (from_ref A1 L c1 L F w1 (by unfold maxLen; omega) (by omega) hs).mono ?_
  rintro e w2 ⟨rfl, b2⟩
  replace F0 := Lib.hid (stay b2 F0.out)
  replace HB := Lib.hid (HB.out.trans (b2.mono HB.out.size))
  clear b2 hs
  go_wp2_with fail
  refine (word_ref _ w2).mono ?_
  rintro e w3 ⟨rfl, b3⟩
  have f3 := stay b3 F0.out
  replace HB := Lib.hid (HB.out.trans (b3.mono HB.out.size))
  clear b3 F0
  go_wp2_with (refine wpList_store_row rfl 30 _ _ rfl _ (wa 0) (wa (val (gd F L) L)) rfl rfl f3 Try.infoWa rfl wa_one ?_)
  refine bodyPost_ret (v := wd (val (gd F L) L)) (results_cell_row rfl _ _ _ 30 (wa (val (gd F L) L)) (0, 0) _ rfl (blk_row f3) Try.underlying30 rfl Try.infoWa) rfl ⟨rfl, below_setRow HB.out (Nat.le_refl _) _⟩
/-- A write of the first j of some bytes, from place a on, into n others. -/
theorem wrb_put (f F : Nat → Nat) {n a j : Nat} (h : a + j < n) : (arr .u8 n fun i => ((wrb f a j F i : Nat) : Int)).setIfInBounds (a + j) (.int .u8 ((F j : Nat) : Int)) = arr .u8 n fun i => ((wrb f a (j + 1) F i : Nat) : Int) := by
  apply Array.ext_getElem?
  intro i
  rw [Array.getElem?_setIfInBounds, arr_size]
  by_cases hi : i < n
  · rw [arr_get .u8 _ hi]
    by_cases e : a + j = i
    · subst e
      rw [if_pos rfl, if_pos h, arr_get .u8 _ hi]
      unfold wrb
      rw [if_pos (by omega), show a + j - a = j by omega]
    · rw [if_neg e, arr_get .u8 _ hi]
      congr 2
      unfold wrb
      by_cases h1 : a ≤ i ∧ i < a + j
      · rw [if_pos h1, if_pos (by omega)]
      · rw [if_neg h1, if_neg (by omega)]
  · rw [if_neg (by omega), Array.getElem?_eq_none (by rw [arr_size]; omega), Array.getElem?_eq_none (by rw [arr_size]; omega)]
theorem wrb_past (f F : Nat → Nat) {n a j : Nat} (h : n ≤ a + j) : (arr .u8 n fun i => ((wrb f a j F i : Nat) : Int)) = arr .u8 n fun i => ((wrb f a (j + 1) F i : Nat) : Int) := arr_congr fun i hi => by
  congr 1
  unfold wrb
  by_cases h1 : a ≤ i ∧ i < a + j
  · rw [if_pos h1, if_pos (by omega)]
  · rw [if_neg h1, if_neg (by omega)]
set_option maxHeartbeats 2000000 in
theorem rwrite_core {A B : Option Addr} {n c m d : Nat} {f F : Nat → Nat} (w : World) (z : Int) (hs : Sl w A n f) (hb : Sl w B m F) (hn : n ≤ 4194304) (hm : m ≤ maxLen) (hz0 : 0 ≤ z) (hz : z < 9223372036854775808) :
    Calls Try.prog 19 #[.slice A n c, .int .i64 z, .slice B m d] w (RowIs n (wrb f z.toNat m F) w) := by
  obtain ⟨a, rfl⟩ : ∃ a : Nat, z = (a : Int) := ⟨z.toNat, by omega⟩
  rw [Int.toNat_natCast]
  have hmk := Try.make_bytes n (by omega) w
  have f0 : (w.alloc (.cells (arr .u8 n fun _ => 0) 5)).heap[w.heap.size]? = some (.cells (arr .u8 n fun _ => 0) 5) := heap_alloc_new _ _
  have b0 : Below w.heap.size w (w.alloc (.cells (arr .u8 n fun _ => 0) 5)) := (Below.refl _ _).alloc (Nat.le_refl _) _
  have F0 := Lib.hid f0
  have B0 := Lib.hid b0
  have HS := Lib.hid (hs.below b0)
  have HF := Lib.hid hb
  have hm63 : m ≤ 9223372036854775807 := hm
  clear f0 b0 hs hb
  go_enter Try.func19, Try.ntmps19
  go_upto_block 0 with (refine copy_new rfl _ _ rfl w.heap.size n n 5 rfl A n c rfl f HS.out F0.out w.heap.size (Nat.le_refl _) ?_; intro kk w2 h2 b2; have H2 := Lib.hid h2; have B2 := Lib.hid (B0.out.trans b2); clear h2 b2)
  have HH : Hid (w2.heap[w.heap.size]? = some (.cells (arr .u8 n fun i => ((wrb f a 0 F i : Nat) : Int)) 5)) := Lib.hid (H2.out.trans (congrArg (fun c => some (Obj.cells c 5)) (arr_congr fun i hi => by
    congr 1
    unfold rdb wrb
    rw [Nat.zero_add, if_pos hi, if_neg (by omega)])))
  clear H2 hmk F0 B0 HS
  go_wp2_with fail
  go_loopw [8] (fun i wr => ∃ j : Nat, j ≤ m ∧ i = .int .i64 (j : Int) ∧ Hid (wr.heap[w.heap.size]? = some (.cells (arr .u8 n fun i => ((wrb f a j F i : Nat) : Int)) 5)) ∧ Hid (Below w.heap.size w wr)) (fun i _ => m - (intOf i).toNat)
  case atStart => exact ⟨0, Nat.zero_le _, rfl, HH, B2⟩
  case round =>
    clear HH B2
    obtain ⟨j, hj, rfl, HH, HB⟩ := hrel
    by_cases hlt : j < m
    · have hjm : decide ((j : Int) < (m : Int)) = true := by simp; omega
      have ha0 : decide (0 ≤ (a : Int)) = true := by simp
      obtain ⟨b, off, rfl, hbl, hc⟩ := (HF.out.below HB.out).cells (by omega)
      have k1 := hc j hlt
      clear hc
      by_cases hin : a + j < n
      · have c3 : decide ((a : Int) < (n : Int) - (j : Int)) = true := by simp only [decide_eq_true_eq]; omega
        have c2 := blk_cell HH.out (arr_get .u8 (fun i => ((wrb f a j F i : Nat) : Int)) hin)
        have c4 := blk_frozen (j := a + j) HH.out
        go_wp2_with fail
        refine ⟨⟨j + 1, by omega, by go_num, Lib.hid ((blk_set HH.out _).trans ?_), Lib.hid (HB.out.setCell (Nat.le_refl _) _)⟩, by simp only [intOf]; omega⟩
        rw [wrb_put f F hin]
      · have c3 : decide ((a : Int) < (n : Int) - (j : Int)) = false := by simp only [decide_eq_false_iff_not]; omega
        go_wp2_with fail
        refine ⟨⟨j + 1, by omega, by go_num, Lib.hid (HH.out.trans ?_), HB⟩, by simp only [intOf]; omega⟩
        rw [wrb_past f F (by omega)]
    · obtain rfl : j = m := by omega
      go_wp2_with fail
      go_ret
      exact ⟨_, rfl, Nat.le_refl _, HH.out, HB.out⟩
theorem rwrite_neg {A B : Option Addr} {n c m d : Nat} {f : Nat → Nat} (w : World) (z : Int) (hs : Sl w A n f) (hn : n ≤ 4194304) (hm : m ≤ maxLen) (hz : z < 0) :
    Calls Try.prog 19 #[.slice A n c, .int .i64 z, .slice B m d] w (RowIs n f w) := by
  have hmk := Try.make_bytes n (by omega) w
  have f0 : (w.alloc (.cells (arr .u8 n fun _ => 0) 5)).heap[w.heap.size]? = some (.cells (arr .u8 n fun _ => 0) 5) := heap_alloc_new _ _
  have b0 : Below w.heap.size w (w.alloc (.cells (arr .u8 n fun _ => 0) 5)) := (Below.refl _ _).alloc (Nat.le_refl _) _
  have F0 := Lib.hid f0
  have B0 := Lib.hid b0
  have HS := Lib.hid (hs.below b0)
  have hm63 : m ≤ 9223372036854775807 := hm
  clear f0 b0 hs
  have c1 : decide (0 ≤ z) = false := by simp; omega
  go_enter Try.func19, Try.ntmps19
  go_upto_block 0 with (refine copy_new rfl _ _ rfl w.heap.size n n 5 rfl A n c rfl f HS.out F0.out w.heap.size (Nat.le_refl _) ?_; intro kk w2 h2 b2; have H2 := Lib.hid h2; have B2 := Lib.hid (B0.out.trans b2); clear h2 b2)
  have HH : Hid (w2.heap[w.heap.size]? = some (.cells (arr .u8 n fun i => ((f i : Nat) : Int)) 5)) := Lib.hid (H2.out.trans (congrArg (fun c => some (Obj.cells c 5)) (arr_congr fun i hi => by
    congr 1
    unfold rdb
    rw [Nat.zero_add, if_pos hi])))
  clear H2 hmk F0 B0 HS
  go_wp2_with fail
  go_loopw [8] (fun i wr => i = .int .i64 0 ∧ w2 = wr) (fun _ _ => 0)
  case atStart => exact ⟨rfl, rfl⟩
  case round =>
    obtain ⟨rfl, rfl⟩ := hrel
    go_wp2_with fail
    all_goals
      go_ret
      exact ⟨_, rfl, Nat.le_refl _, HH.out, B2.out⟩
theorem rwrite_any {A B : Option Addr} {n c m d : Nat} {f F : Nat → Nat} (w : World) (z : Int) (hs : Sl w A n f) (hb : Sl w B m F) (hn : n ≤ 4194304) (hm : m ≤ maxLen) (hz : z < 9223372036854775808) :
    Calls Try.prog 19 #[.slice A n c, .int .i64 z, .slice B m d] w (RowIs n (wrI f z m F) w) := by
  unfold wrI
  by_cases h : z < 0
  · rw [if_pos h]
    exact rwrite_neg w z hs hn hm h
  · rw [if_neg h]
    exact rwrite_core w z hs hb hn hm (by omega) hz
theorem rsetword_any {A : Option Addr} {n c : Nat} {f : Nat → Nat} (w : World) (z : Int) (a : Nat) (hs : Sl w A n f) (hn : n ≤ 4194304) (hz : z < 9223372036854775808) :
    Calls Try.prog 23 #[.slice A n c, .int .i64 z, wd a] w (RowIs n (wrI f z 32 fun i => dig a (31 - i)) w) := by
  have f0 : (w.alloc (.cells (wa a) 30)).heap[w.heap.size]? = some (.cells (wa a) 30) := heap_alloc_new _ _
  have b0 : Below w.heap.size w (w.alloc (.cells (wa a) 30)) := (Below.refl _ _).alloc (Nat.le_refl _) _
  have HM := Lib.hid (hs.below b0)
  have HB := Lib.hid b0
  have K1 := Lib.hid fun w => of_ref a w
  have K2 := Lib.hid fun w => bytes_ref a w
  clear hs b0
  go_enter Try.func23, Try.ntmps23
  go_upto_region 1 with fail
  generalize w.alloc (.cells (wa a) 30) = W at *
  go_wp2_with (refine wpList_load_row rfl 30 _ rfl _ rfl 30 _ (0, 0) _ f0 Try.underlying30 rfl Try.infoWa ?_)
  refine (K1.out _).mono ?_
  rintro e w1 ⟨rfl, b1⟩
  replace HM := Lib.hid (HM.out.below b1)
  replace HB := Lib.hid (HB.out.trans (b1.mono HB.out.size))
  clear b1 f0 K1
  go_wp2_with fail
  refine (K2.out _).mono ?_
  rintro e w1' ⟨rfl, b1⟩
  replace HM := Lib.hid (HM.out.below b1)
  replace HB := Lib.hid (HB.out.trans (b1.mono HB.out.size))
  clear b1 K2
  have s0 : (w1'.alloc (.cells zY 74)).heap[w1'.heap.size]? = some (.cells zY 74) := heap_alloc_new _ _
  have s1 : ((w1'.alloc (.cells zY 74)).setRow w1'.heap.size (ya a)).heap[w1'.heap.size]? = some (.cells (ya a) 74) := blk_row s0
  have b2 : Below w1'.heap.size w1' ((w1'.alloc (.cells zY 74)).setRow w1'.heap.size (ya a)) := below_setRow ((Below.refl _ _).alloc (Nat.le_refl _) _) (Nat.le_refl _) _
  have HM2 := Lib.hid (HM.out.below b2)
  have HB2 := Lib.hid (HB.out.trans (b2.mono HB.out.size))
  have hsl : Sl ((w1'.alloc (.cells zY 74)).setRow w1'.heap.size (ya a)) (some ⟨w1'.heap.size, 0, none⟩) 32 (fun i => dig a (31 - i)) := ⟨fun _ _ => dig_lt _ _, fun _ => ⟨w1'.heap.size, 0, rfl, (Array.getElem?_eq_some_iff.1 s1).1, fun i hi => by
    rw [Nat.zero_add]
    exact blk_cell s1 (arr_get .u8 (fun j => ((dig a (31 - j) : Nat) : Int)) hi)⟩⟩
  have HS := Lib.hid hsl
  clear hsl b2 HM HB
  go_wp2_with (first | (refine wpList_alloc_row rfl 74 rfl zY zY_run ?_) | (refine wpList_store_row rfl 74 _ _ rfl _ zY (ya a) rfl rfl s0 (infoArrY _) rfl (arr_one _ _ _) ?_))
  refine (rwrite_any _ z HM2.out HS.out hn (by decide) hz).mono ?_
  rintro e w3 ⟨g, rfl, hg, h3, b3⟩
  go_wp2_with fail
  go_ret
  exact ⟨g, rfl, Nat.le_trans HB2.out.size hg, h3, HB2.out.trans (b3.mono HB2.out.size)⟩
end Go.Proofs.Ytnffelnmlloonaa
