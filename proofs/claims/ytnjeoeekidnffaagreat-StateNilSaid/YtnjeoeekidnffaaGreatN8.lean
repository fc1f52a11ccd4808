/- What the methods Len and Bytes and the function Compare of the document's digits do: how many bits, the bytes with the highest first, and -1, 0 or 1 as the first is less, the same or more. -/
import Derived.Test.YtnjeoeekidnffaaGreatN6
import Derived.Test.YtnjeoeekidnffaaGreatN7
import Derived.Deep.LoopGhost
import Derived.Test.YtnjeoeekidnffaaGreatN4
namespace Go.Proofs.YtnjeoeekidnffaaGreat
open Go.RowKit SmWord
set_option maxRecDepth 100000

theorem cmp_low (m n k : Nat) : m % 256 ^ (k + 1) = m % 256 ^ k + 256 ^ k * dig m k ∧ n % 256 ^ (k + 1) = n % 256 ^ k + 256 ^ k * dig n k := by
  constructor <;> (rw [Nat.pow_succ, Nat.mod_mul]; rfl)
/-- From the highest digit down: as long as they are the same, what is below decides. -/
theorem cmp_step (m n k : Nat) : (dig m k < dig n k → cmpN (m % 256 ^ (k + 1)) (n % 256 ^ (k + 1)) = -1) ∧ (dig n k < dig m k → cmpN (m % 256 ^ (k + 1)) (n % 256 ^ (k + 1)) = 1) ∧
    (dig m k = dig n k → cmpN (m % 256 ^ (k + 1)) (n % 256 ^ (k + 1)) = cmpN (m % 256 ^ k) (n % 256 ^ k)) := by
  obtain ⟨e1, e2⟩ := cmp_low m n k
  rw [e1, e2]
  have hp : 0 < 256 ^ k := Nat.pow_pos (by decide)
  have h1 : m % 256 ^ k < 256 ^ k := Nat.mod_lt _ hp
  have h2 : n % 256 ^ k < 256 ^ k := Nat.mod_lt _ hp
  generalize m % 256 ^ k = x at *
  generalize n % 256 ^ k = y at *
  generalize 256 ^ k = p at *
  generalize dig m k = a at *
  generalize dig n k = b at *
  have key : ∀ {a b x y : Nat}, x < p → a < b → x + p * a < y + p * b := fun {a b x y} hx hab => by
    have := Nat.mul_le_mul_left p (show a + 1 ≤ b from hab)
    rw [Nat.mul_add] at this
    omega
  unfold cmpN
  refine ⟨fun h => ?_, fun h => ?_, fun h => ?_⟩
  · rw [if_pos (key h1 h)]
  · have := key (y := x) h2 h
    rw [if_neg (by omega), if_pos this]
  · subst h
    (repeat' split) <;> omega

set_option maxHeartbeats 2000000 in
theorem compare_ref (m n : Nat) (w : World) : Calls Tryz.prog 85 #[.agg (da m), .agg (da n)] w fun e w' => e = .returned (.int .i64 (cmpN (m % M) (n % M))) ∧ Below w.heap.size w w' := by
  have hds : ∀ x, (da x).size = 32 := fun x => arr_size _ _ _
  go_enter Tryz.func85, Tryz.ntmps85
  go_wp2_with fail
  clear hds
  have f0 : ((w.alloc (.cells (da m) 148)).alloc (.cells (da n) 148)).heap[w.heap.size]? = some (.cells (da m) 148) := blk_alloc (heap_alloc_new _ _)
  have f1 : ((w.alloc (.cells (da m) 148)).alloc (.cells (da n) 148)).heap[w.heap.size + 1]? = some (.cells (da n) 148) := heap_alloc2_new _ _ _
  have bW : Below w.heap.size w ((w.alloc (.cells (da m) 148)).alloc (.cells (da n) 148)) := ((Below.refl _ _).alloc (Nat.le_refl _) _).alloc (by simp) _
  generalize (w.alloc (.cells (da m) 148)).alloc (.cells (da n) 148) = W at *
  go_loopw [5] (fun i wr => ∃ k : Nat, k ≤ 32 ∧ i = .int .i64 ((k : Int) - 1) ∧ Hid (cmpN (m % M) (n % M) = cmpN (m % 256 ^ k) (n % 256 ^ k)) ∧ Below w.heap.size w wr ∧ wr.heap[w.heap.size]? = some (.cells (da m) 148) ∧ wr.heap[w.heap.size + 1]? = some (.cells (da n) 148)) (fun i _ => (intOf i + 1).toNat)
  case atStart => exact ⟨32, Nat.le_refl _, rfl, by rw [M_256]; exact Lib.hid rfl, bW, f0, f1⟩
  case round =>
    obtain ⟨k, hk, rfl, HC, hb, ha, hn⟩ := hrel
    clear f0 f1 bW
    by_cases hlt : 0 < k
    · obtain ⟨j, rfl⟩ : ∃ j, k = j + 1 := ⟨k - 1, by omega⟩
      have e1 : ((j + 1 : Nat) : Int) - 1 = (j : Int) := by omega
      rw [e1]
      have hj : j < 32 := by omega
      have c1 := blk_cell ha (arr_get .i64 _ hj)
      have c2 := blk_cell hn (arr_get .i64 _ hj)
      have HA := Lib.hid ha
      have HN := Lib.hid hn
      have HB := Lib.hid hb
      obtain ⟨s1, s2, s3⟩ := cmp_step m n j
      have S1 := Lib.hid s1
      have S2 := Lib.hid s2
      have S3 := Lib.hid s3
      clear ha hn hb e1 s1 s2 s3
      have ht : (dig m j < dig n j) ∨ (dig n j < dig m j) ∨ dig m j = dig n j := by omega
      rcases ht with ht | ht | ht
      · have d1 : decide (((dig m j : Nat) : Int) < ((dig n j : Nat) : Int)) = true := by simp; omega
        go_wp2_with fail
        go_region
        go_wp2_with fail
        go_ret
        exact ⟨by rw [HC.out, S1.out ht]; rfl, HB.out.drew⟩
      · have d1 : decide (((dig m j : Nat) : Int) < ((dig n j : Nat) : Int)) = false := by simp; omega
        have d2 : decide (((dig n j : Nat) : Int) < ((dig m j : Nat) : Int)) = true := by simp; omega
        go_wp2_with fail
        go_region
        go_wp2_with fail
        go_region
        go_wp2_with fail
        go_ret
        exact ⟨by rw [HC.out, S2.out ht]; rfl, HB.out.drew.drew⟩
      · have d1 : decide (((dig m j : Nat) : Int) < ((dig n j : Nat) : Int)) = false := by simp; omega
        have d2 : decide (((dig n j : Nat) : Int) < ((dig m j : Nat) : Int)) = false := by simp; omega
        go_wp2_with fail
        go_region
        go_wp2_with fail
        go_region
        go_wp2_with fail
        exact ⟨⟨j, by omega, rfl, Lib.hid (by rw [HC.out, S3.out ht]), HB.out.drew.drew, HA.out, HN.out⟩, by simp [intOf]⟩
    · obtain rfl : k = 0 := by omega
      go_wp2_with fail
      go_ret
      refine ⟨?_, hb⟩
      rw [HC.out]
      simp [Nat.mod_one, cmpN]

/-- The bytes of n, the highest first. -/
def ya (n : Nat) : Array Value := arr .u8 32 (fun i => ((dig n (31 - i) : Nat) : Int))
def zY : Array Value := arr .u8 32 (fun _ => 0)
theorem ya_congr {m n : Nat} (h : m % M = n % M) : ya m = ya n := arr_congr fun _ hi => by rw [dig_congr h (by omega)]
theorem fillH_step (f : Nat → Int) (k : Nat) (hk : k < 32) (v : Int) (hv : v = f (31 - k)) :
    (arr .u8 32 (fun j => if 32 - k ≤ j then f j else 0)).setIfInBounds (31 - k) (.int .u8 v) = arr .u8 32 (fun j => if 32 - (k + 1) ≤ j then f j else 0) := by
  rw [arr_set _ _ _ (by omega)]
  refine arr_congr fun i _ => ?_
  by_cases h1 : i = 31 - k
  · subst h1; rw [if_pos rfl, if_pos (by omega), hv]
  · rw [if_neg h1]
    by_cases h2 : 32 - k ≤ i
    · rw [if_pos h2, if_pos (by omega)]
    · rw [if_neg h2, if_neg (by omega)]
theorem fillH_start (f : Nat → Int) : arr .u8 32 (fun j => if 32 - 0 ≤ j then f j else 0) = zY := arr_congr fun i hi => by rw [if_neg (by omega)]
theorem fillH_end (f : Nat → Int) : arr .u8 32 (fun j => if 32 - 32 ≤ j then f j else 0) = arr .u8 32 f := arr_congr fun i hi => by rw [if_pos (by omega)]
end Go.Proofs.YtnjeoeekidnffaaGreat
/- Right, the program's and the document's. -/
namespace Go.Proofs.YtnjeoeekidnffaaGreat
open Go.RowKit SmWord
set_option maxRecDepth 100000

/-- The i-th slot. -/
def sat (l : List (Nat × Nat)) (i : Nat) : Nat × Nat := l.getD i (0, 0)
def okAt (l : List (Nat × Nat)) (i : Nat) : Prop := (sat l i).2 ≠ 0 ∧ (i = 0 ∨ (sat l (i - 1)).1 < (sat l i).1)
theorem sat_get {l : List (Nat × Nat)} {i : Nat} (h : i < l.length) : l[i]? = some (sat l i) := by simp [sat, h]
theorem rightS_iff : ∀ l : List (Nat × Nat), rightS l = true ↔ ∀ i, i < l.length → okAt l i
  | [] => by simp [rightS]
  | [s] => by
    simp only [rightS]
    constructor
    · intro h i hi
      obtain rfl : i = 0 := by simpa using hi
      exact ⟨by simpa [sat] using h, .inl rfl⟩
    · intro h
      have := (h 0 (by simp)).1
      simpa [sat] using this
  | s :: t :: l => by
    have ih := rightS_iff (t :: l)
    simp only [rightS, Bool.and_eq_true, ih]
    constructor
    · rintro ⟨⟨h1, h2⟩, h3⟩ i hi
      match i with
      | 0 => exact ⟨by simpa [sat] using h1, .inl rfl⟩
      | 1 => exact ⟨by have := (h3 0 (by simp)).1; simpa [sat] using this, .inr (by simpa [sat] using h2)⟩
      | i + 2 =>
        have := h3 (i + 1) (by simpa using hi)
        refine ⟨by simpa [sat] using this.1, .inr ?_⟩
        rcases this.2 with h | h
        · omega
        · simpa [sat] using h
    · intro h
      refine ⟨⟨?_, ?_⟩, fun i hi => ?_⟩
      · have := (h 0 (by simp)).1; simpa [sat] using this
      · have := (h 1 (by simp)).2; simpa [sat] using this
      · have := h (i + 1) (by simpa using hi)
        refine ⟨by simpa [sat] using this.1, ?_⟩
        by_cases e : i = 0
        · exact .inl e
        · rcases this.2 with h' | h'
          · omega
          · refine .inr ?_
            obtain ⟨j, rfl⟩ : ∃ j, i = j + 1 := ⟨i - 1, by omega⟩
            simpa [sat] using h'
theorem zero82 : (Tryz.prog.info? 136).map (fun i => (i.zero, i.size)) = some (some (.agg (wa 0 ++ wa 0)), 8) := by kernel_rfl
theorem zero82_run (w : World) : (zeroValue 136).run Tryz.prog w = .ok (.agg (wa 0 ++ wa 0)) w := (zero_of_info zero82).1 w
theorem scs_one (s : Nat × Nat) : (scs s).toArray.all (·.oneCell') = true := all_oneCell_toArray fun v hv => by
  unfold scs at hv
  rcases List.mem_append.1 hv with h | h
  · exact (Array.all_eq_true_iff_forall_mem.1 (wa_one (n := s.1))) v (by simpa using h)
  · exact (Array.all_eq_true_iff_forall_mem.1 (wa_one (n := s.2))) v (by simpa using h)
theorem store_newS (w : World) (s : Nat × Nat) : (storeCells ⟨w.heap.size, 0, none⟩ (scs s) 0).run Tryz.prog (w.alloc (.cells (wa 0 ++ wa 0) 136)) = .ok () (w.alloc (.cells (scs s).toArray 136)) := by
  have := run_storeCells_new (P := Tryz.prog) w 136 (wa 0 ++ wa 0) (scs s).toArray (by simpa using infoScs s) (by simp [wa_size, scs_len]) (scs_one s)
  simpa using this
theorem slotcells {w : World} {b o : Nat} {s : Nat × Nat} (h : w.rangeAt b o (scs s)) : w.rangeAt b o (wa s.1).toList ∧ w.rangeAt b (o + 4) (wa s.2).toList :=
  ⟨fun j v hv => by have := h _ _ (scs_k s j v hv); simpa using this, fun j v hv => by have := h _ _ (scs_v s j v hv); rwa [← Nat.add_assoc] at this⟩
theorem below_at {w w' : World} (hb : Below w.heap.size w w') {b o : Nat} {cs : List Value} (h : w.rangeAt b o cs) : w'.rangeAt b o cs := fun j v hv => by
  have := h j v hv
  exact (hb.cell (p := ⟨b, o + j, none⟩) (by simpa using World.block_lt_of_cell? w _ this)).trans this
theorem cmpN_lt (m n : Nat) : cmpN m n < 0 ↔ m < n := by
  unfold cmpN
  split
  · simp [*]
  · split <;> simp [*]
end Go.Proofs.YtnjeoeekidnffaaGreat
/- The document's Right. -/
namespace Go.Proofs.YtnjeoeekidnffaaGreat
open Go.RowKit SmWord
set_option maxRecDepth 100000

theorem wbox2 (w : World) (m n : Nat) :
    ((w.alloc (.cells (wa m) 44)).alloc (.cells (wa n) 44)).heap[w.heap.size]? = some (.cells (wa m) 44) ∧
    ((w.alloc (.cells (wa m) 44)).alloc (.cells (wa n) 44)).heap[w.heap.size + 1]? = some (.cells (wa n) 44) ∧
    Below w.heap.size w ((w.alloc (.cells (wa m) 44)).alloc (.cells (wa n) 44)) :=
  ⟨blk_alloc (heap_alloc_new _ _), heap_alloc2_new _ _ _, ((Below.refl _ _).alloc (Nat.le_refl _) _).alloc (by simp) _⟩
theorem wblk {w : World} {b n : Nat} (h : w.heap[b]? = some (.cells (wa n) 44)) : w.rangeAt b 0 (wa n).toList := fun j v hv => by
  rw [Nat.zero_add]
  exact blk_cell h (by simpa using hv)
theorem wcellsAt4 {w : World} {b o n : Nat} (h : w.rangeAt b (o + 4) (wa n).toList) :
    w.cell? ⟨b, o + 4, none⟩ = some (.int .u64 ((l0 n : Nat) : Int)) ∧ w.cell? ⟨b, o + 5, none⟩ = some (.int .u64 ((l1 n : Nat) : Int)) ∧ w.cell? ⟨b, o + 6, none⟩ = some (.int .u64 ((l2 n : Nat) : Int)) ∧ w.cell? ⟨b, o + 7, none⟩ = some (.int .u64 ((l3 n : Nat) : Int)) := wcellsAt h
theorem rless_walk (m n : Nat) (w : World) : Calls Tryz.prog 79 #[wd m, wd n] w fun e w' => e = .returned (.bool (decide (m % M < n % M))) ∧ Below w.heap.size w w' := by
  obtain ⟨f0, f1, bW⟩ := wbox2 w m n
  have hs := wa_size
  have fo := fold_wa
  have KO := Lib.hid fun m => of_ref m
  have KC := Lib.hid (compare_ref m n)
  have HD : Hid (decide (cmpN (m % M) (n % M) < 0) = decide (m % M < n % M)) := Lib.hid (by simp [cmpN_lt])
  generalize cmpN (m % M) (n % M) = cv at *
  obtain ⟨W, hW⟩ : ∃ W, (w.alloc (.cells (wa m) 44)).alloc (.cells (wa n) 44) = W := ⟨_, rfl⟩
  rw [hW] at f0 f1 bW
  have HB := Lib.hid bW
  obtain ⟨a0, a1, a2, a3⟩ := wcellsAt (wblk f0)
  obtain ⟨b0, b1, b2, b3⟩ := wcellsAt (wblk f1)
  simp only [Nat.zero_add] at a1 a2 a3 b1 b2 b3
  have cell : ∀ (g : Ext W) {b o : Nat} {v : Value}, W.cell? ⟨b, o, none⟩ = some v → g.on.cell? ⟨b, o, none⟩ = some v := fun g b o v h => (g.below.cell (p := ⟨b, o, none⟩) (by simpa using World.block_lt_of_cell? W _ h)).trans h
  have x0 := fun g => cell g a0
  have x1 := fun g => cell g a1
  have x2 := fun g => cell g a2
  have x3 := fun g => cell g a3
  have y0 := fun g => cell g b0
  have y1 := fun g => cell g b1
  have y2 := fun g => cell g b2
  have y3 := fun g => cell g b3
  clear bW cell a0 a1 a2 a3 b0 b1 b2 b3 f0 f1
  go_enter Tryz.func79, Tryz.ntmps79
  go_upto_region 1 with fail
  clear hW
  refine region_ext (by kernel_rfl) (by kernel_rfl) ?_
  repeat (go_big_quiet_step (first
    | (go_at_call 86; with_reducible exact calls_ext (KO.out _ _))
    | (go_at_call 85; with_reducible exact calls_ext (KC.out _))))
  refine wpQuiet_nil ?_
  rintro w' ⟨gg, rfl⟩
  have HG := Lib.hid gg.below
  generalize gg.on = wg at *
  clear x0 x1 x2 x3 y0 y1 y2 y3
  go_wp2_with fail
  go_ret
  exact ⟨by rw [← HD.out]; rfl, HB.out.trans (HG.out.mono HB.out.size)⟩
set_option maxHeartbeats 2000000 in
theorem rright_walk (x : AV) (w : World) (h : AccZ (hp w) x) : Calls Tryz.prog 38 #[aval x] w fun e w' => e = .returned (.bool (rightA x.a)) ∧ Below w.heap.size w w' := by
  unfold aval rightA
  obtain ⟨f0, bW⟩ := boxA w x
  have hs : (acs x).toArray.size = 27 := by simp [acs_len]
  have HR := Lib.hid (rightS_iff x.a.so)
  obtain ⟨A, c, hq, hn, hc, hA, hcells⟩ := h.sto.one (fun s _ => scs_len s)
  have hsl := h.sl
  have HM := Lib.hid h.sM
  obtain ⟨W, hW⟩ : ∃ W, w.alloc (.cells (acs x).toArray 69) = W := ⟨_, rfl⟩
  rw [hW] at f0 bW
  obtain ⟨-, -, -, p3, -⟩ := boxcells f0
  rw [hq] at p3
  have HC : Hid (0 < x.a.so.length → ∃ b off, A = some ⟨b, off, none⟩ ∧ ∀ i s, x.a.so[i]? = some s → rng (hp W) b (off + i * 8) (scs s)) := Lib.hid fun hn => by
    obtain ⟨b, off, e, _, hi⟩ := hcells hn
    exact ⟨b, off, e, fun i s hs => (hi i s hs).sub (hp_below bW)⟩
  have HB := Lib.hid bW
  generalize x.a.so = so at *
  generalize hN : so.length = n at *
  have HN := Lib.hid hN
  clear hcells bW h hN f0
  go_enter Tryz.func38, Tryz.ntmps38
  go_upto_region 1 with fail
  clear hW
  go_wp2_with fail
  go_loopw [7] (fun i wr => ∃ k : Nat, k ≤ n ∧ i = .int .i64 k ∧ Hid (∀ j, j < k → okAt so j) ∧ Hid (Below W.heap.size W wr)) (fun i _ => n - (intOf i).toNat)
  case atStart => exact ⟨0, Nat.zero_le _, rfl, Lib.hid fun j hj => absurd hj (by omega), Lib.hid (Below.refl _ _)⟩
  case round =>
    obtain ⟨k, hk, rfl, HO, HW⟩ := hrel
    by_cases hlt : k < n
    · obtain ⟨b, off, rfl, hi⟩ := HC.out (by omega)
      have r1 := ((hi k _ (sat_get (by rw [HN.out]; exact hlt))).sub (hp_below HW.out)).at
      have eg := Tryz.guardW
      have fo := fold_wa
      have e0 := z4w
      have hMk : (sat so k).2 < M := (HM.out _ (List.mem_of_getElem? (sat_get (by rw [HN.out]; exact hlt)))).2
      have eq := run_eq_wa0 _ hMk
      obtain ⟨g1, g2⟩ := slotcells r1
      obtain ⟨q0, q1, q2, q3⟩ := wcellsAt4 g2
      have px := (HW.out.cell (p := ⟨w.heap.size, 26, none⟩) (by have := World.block_lt_of_cell? W _ p3; simpa using this)).trans p3
      have HO1 : Hid ((sat so k).2 = 0 ↔ ((sat so k).2 == 0) = true) := Lib.hid (by simp)
      cases hz : ((sat so k).2 == 0) <;> rw [hz] at eq
      · go_wp2_with fail
        have cell : ∀ (g : Ext wr) {b o : Nat} {v : Value}, wr.cell? ⟨b, o, none⟩ = some v → g.on.cell? ⟨b, o, none⟩ = some v := fun g b o v h => (g.below.cell (p := ⟨b, o, none⟩) (by simpa using World.block_lt_of_cell? wr _ h)).trans h
        have gx1 := fun g => cell g px
        replace HO1 : Hid ((sat so k).2 ≠ 0) := Lib.hid (fun e => by have := HO1.out.1 e; rw [hz] at this; cases this)
        rcases Nat.eq_zero_or_pos k with rfl | hk0
        · clear eq hz q0 q1 q2 q3 cell px
          refine region_ext (by kernel_rfl) (by kernel_rfl) ?_
          repeat (go_big_quiet_step (fail))
          refine wpQuiet_nil ?_
          rintro w' ⟨gg, rfl⟩
          have HG := Lib.hid gg.below
          generalize gg.on = wg at *
          go_wp2_with fail
          exact ⟨⟨1, by omega, by go_num, Lib.hid (fun j hj => by obtain rfl : j = 0 := by omega
                                                                  exact ⟨HO1.out, .inl rfl⟩), Lib.hid (HW.out.trans (HG.out.mono HW.out.size))⟩, by simp [intOf]; omega⟩
        · obtain ⟨r4, _⟩ := slotcells ((hi (k - 1) _ (sat_get (by rw [HN.out]; omega))).sub (hp_below HW.out)).at
          obtain ⟨a0, a1, a2, a3⟩ := wcellsAt r4
          obtain ⟨y0, y1, y2, y3⟩ := wcellsAt g1
          have b0 := fun g => cell g a0
          have b1 := fun g => cell g a1
          have b2 := fun g => cell g a2
          have b3 := fun g => cell g a3
          have z0 := fun g => cell g y0
          have z1 := fun g => cell g y1
          have z2 := fun g => cell g y2
          have z3 := fun g => cell g y3
          have m1 := (HM.out _ (List.mem_of_getElem? (sat_get (i := k - 1) (by rw [HN.out]; omega)))).1
          have m2 := (HM.out _ (List.mem_of_getElem? (sat_get (i := k) (by rw [HN.out]; exact hlt)))).1
          have KC := Lib.hid (rless_walk (sat so (k - 1)).1 (sat so k).1)
          rw [Nat.mod_eq_of_lt m1, Nat.mod_eq_of_lt m2] at KC
          have i1 : (k : Int) - 1 = ((k - 1 : Nat) : Int) := by omega
          have HCM : Hid (decide ((sat so (k - 1)).1 < (sat so k).1) = true ↔ (sat so (k - 1)).1 < (sat so k).1) := Lib.hid (by simp)
          generalize decide ((sat so (k - 1)).1 < (sat so k).1) = cv at *
          clear eq hz y0 y1 y2 y3 q0 q1 q2 q3 g1 g2 cell a0 a1 a2 a3 r4 px m1 m2
          cases cv
          · refine region_ext (by kernel_rfl) (by kernel_rfl) ?_
            repeat (go_big_quiet_step (first | (go_at_call 79; with_reducible exact calls_ext (KC.out _))))
            refine wpQuiet_nil ?_
            rintro w' ⟨gg, rfl⟩
            have HG := Lib.hid gg.below
            generalize gg.on = wg at *
            go_wp2_with fail
            go_ret
            refine ⟨?_, HB.out.trans ((HW.out.trans (HG.out.mono HW.out.size)).mono HB.out.size)⟩
            have : rightS so = false := by
              cases hr : rightS so
              · rfl
              · rcases (HR.out.1 hr k hlt).2 with h | h
                · omega
                · have := HCM.out.2 h; cases this
            rw [this]
            rfl
          · refine region_ext (by kernel_rfl) (by kernel_rfl) ?_
            repeat (go_big_quiet_step (first | (go_at_call 79; with_reducible exact calls_ext (KC.out _))))
            refine wpQuiet_nil ?_
            rintro w' ⟨gg, rfl⟩
            have HG := Lib.hid gg.below
            generalize gg.on = wg at *
            go_wp2_with fail
            refine ⟨⟨k + 1, by omega, by go_num, Lib.hid (fun j hj => ?_), Lib.hid (HW.out.trans (HG.out.mono HW.out.size))⟩, by simp [intOf]; omega⟩
            by_cases e : j = k
            · rw [e]; exact ⟨HO1.out, .inr (HCM.out.1 rfl)⟩
            · exact HO.out j (by omega)
      · go_wp2_with fail
        go_ret
        refine ⟨?_, HB.out.trans (HW.out.mono HB.out.size)⟩
        have : rightS so = false := by
          cases hr : rightS so
          · rfl
          · exact absurd (HO1.out.2 hz) (HR.out.1 hr k hlt).1
        rw [this]
        rfl
    · obtain rfl : k = n := by omega
      go_wp2_with fail
      go_ret
      exact ⟨by rw [HR.out.2 HO.out]; rfl, HB.out.trans (HW.out.mono HB.out.size)⟩
end Go.Proofs.YtnjeoeekidnffaaGreat
