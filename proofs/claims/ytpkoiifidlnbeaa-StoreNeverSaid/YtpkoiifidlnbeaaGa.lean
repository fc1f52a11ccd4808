/- An account copied: its code and its slots lie in rows of its own, which may be wiped. -/
import Derived.Test.YtpkoiifidlnbeaaG6
import Derived.Test.YtpkoiifidlnbeaaG4
import Derived.Test.YtpkoiifidlnbeaaShelfS
import Derived.Lib.BytesEntry
import Derived.Sort.Grow
import Derived.Shelf.SlSortCmp.NoneTotal
import Derived.Test.YtpkoiifidlnbeaaG8
namespace Go.Proofs.Ytpkoiifidlnbeaa
open Go.RowKit SmWord
set_option maxRecDepth 100000

/-- A slice of n elements of k cells each at the beginning of a row that may be written. -/
def ClrZ (Z : Hp) (v : Value) (n k : Nat) (e : TypeId) : Prop :=
  (v = .slice none 0 0 ∧ n = 0) ∨ ∃ (b c : Nat) (cur : Array Value), v = .slice (some ⟨b, 0, none⟩) n c ∧ Z b = some (.cells cur e) ∧ n * k ≤ cur.size
theorem ClrZ.sub {Z Z' : Hp} {v : Value} {n k : Nat} {e : TypeId} (h : ClrZ Z v n k e) (hs : Sub Z Z') : ClrZ Z' v n k e := by
  rcases h with h | ⟨b, c, cur, h1, h2, h3⟩
  · exact .inl h
  · exact .inr ⟨b, c, cur, h1, hs _ _ h2, h3⟩
theorem ClrZ.ownF {w : World} {base : Nat} {e : TypeId} {k n : Nat} {v : Value} {xs : List Value} (h : w.ownsRow base e k v n xs) : ClrZ (fr base w) v n k e := by
  rcases h.2 with ⟨rfl, rfl⟩ | ⟨g, cap, cur, rfl, hbg, hg, hn, hc, hcs, ht⟩
  · exact .inl ⟨rfl, rfl⟩
  · exact .inr ⟨g, cap, cur, rfl, by unfold fr; rw [if_pos hbg]; exact hg, by rw [hcs]; exact Nat.mul_le_mul_right _ hn⟩
structure AccC (Z : Hp) (x : AV) : Prop extends AccZ Z x where
  cp : ClrZ Z x.p x.a.co.length 1 5
  cq : ClrZ Z x.q x.a.so.length 8 82
theorem AccC.sub {Z Z' : Hp} {x : AV} (h : AccC Z x) (hs : Sub Z Z') : AccC Z' x := { AccZ.sub h.toAccZ hs with cp := h.cp.sub hs, cq := h.cq.sub hs }
set_option maxHeartbeats 2000000 in
theorem copied_own (x : AV) (w : World) (h : AccZ (hp w) x) : Calls Try.prog 33 #[aval x] w fun e w' => ∃ p q, e = .returned (aval ⟨x.a, p, q⟩) ∧ AccC (fr w.heap.size w') ⟨x.a, p, q⟩ ∧ Below w.heap.size w w' := by
  unfold aval
  have hs : ∀ x, (acs x).toArray.size = 27 := fun x => by simp [acs_len]
  obtain ⟨W, hW⟩ : ∃ W, (w.alloc (.cells (acs x).toArray 46)).alloc (.cells (acs noneAV).toArray 46) = W := ⟨_, rfl⟩
  have f0 : W.heap[w.heap.size]? = some (.cells (acs x).toArray 46) := hW ▸ blk_alloc (heap_alloc_new _ _)
  have f1 : W.heap[w.heap.size + 1]? = some (.cells (acs noneAV).toArray 46) := hW ▸ heap_alloc2_new _ _ _
  have bW : Below w.heap.size w W := hW ▸ ((Below.refl _ _).alloc (Nat.le_refl _) _).alloc (by simp) _
  have sW : W.heap.size = w.heap.size + 2 := by rw [← hW]; simp
  obtain ⟨-, -, p2, -, -⟩ := boxcells f0
  have fz := blk_frozen (j := 25) f0
  go_enter Try.func33, Try.ntmps33
  go_upto_region 1 with (refine wpList_alloc_row rfl 46 rfl _ zeroAcc ?_)
  rw [hW]
  clear hW
  have F0 := Lib.hid f0
  have F1 := Lib.hid f1
  have HB := Lib.hid bW
  clear f0 f1 bW
  have HX := Lib.hid h
  clear h
  go_wp2_with (first
    | (refine append_row rfl _ _ 43 rfl 5 (.int .u8 0) 1 1 Try.underlying43 infoU8 rfl (by decide) (by decide) w.heap.size (.slice none 0 0) 0 [] rfl (World.ownsRow_nil _ _ _ _) x.p x.a.co.length (x.a.co.map u8v) rfl (HX.out.cod.sub (hp_below HB.out)) (u8_one _) (by have := HX.out.cl; omega) (by omega) ?_
       intro v1 w1 ho1 hg1 _
       simp only [Nat.zero_add, List.nil_append] at ho1
       obtain ⟨A1, c1, rfl⟩ := own_sl ho1
       have f2 := (hg1.block w.heap.size (by omega) (by simp [Value.ownBlock])).trans F0.out
       have fz1 := blk_frozen (j := 25) f2
       obtain ⟨-, -, g2, g3, -⟩ := boxcells f2
       have HO1 := Lib.hid ho1
       have F2 := Lib.hid f2
       have F3 := Lib.hid ((hg1.block (w.heap.size + 1) (by omega) (by simp [Value.ownBlock])).trans F1.out)
       have hz1 := hg1.size
       have HB1 : Hid (Below w.heap.size w w1) := Lib.hid (HB.out.grown hg1 (by omega) (by simp [Value.ownBlock]))
       clear ho1 hg1 f2)
    | (refine append_row rfl _ _ 44 rfl 82 (.agg (wa 0 ++ wa 0)) 8 64 Try.underlying44 infoSlot (by simp [Value.cells, wa_size]) (by decide) (by decide) w.heap.size (.slice none 0 0) 0 [] rfl (World.ownsRow_nil _ _ _ _) x.q x.a.so.length (x.a.so.flatMap scs) rfl (HX.out.sto.sub (hp_below (HB1.out.setCell (Nat.le_refl _) _))) (so_one _) (by have := HX.out.sl; omega) (by simp [World.setCell]; omega) ?_
       intro v2 w2 ho2 hg2 _
       simp only [Nat.zero_add, List.nil_append] at ho2
       obtain ⟨A2, c2, rfl⟩ := own_sl ho2
       have f3 := (hg2.block w.heap.size (by simp [World.setCell]; omega) (by simp [Value.ownBlock])).trans (blk_set F2.out (j := 25) (.slice A1 x.a.co.length c1))
       have f5 := (hg2.block (w.heap.size + 1) (by simp [World.setCell]; omega) (by simp [Value.ownBlock])).trans (blk_other F3.out (by omega) (j := 25) (.slice A1 x.a.co.length c1))
       have fz1 := blk_frozen (j := 26) f3
       have g5 : w2.cell? ⟨w.heap.size, 26, none⟩ = some x.q := blk_cell f3 (by rw [Array.getElem?_setIfInBounds_ne (by decide)]; simpa using acs_q x)
       have F4 := Lib.hid f3
       have F5 := Lib.hid f5
       have HO2 := Lib.hid ho2
       have HG2 := Lib.hid hg2
       have F6 : Hid ((w2.setCell ⟨w.heap.size, 26, none⟩ (.slice A2 x.a.so.length c2)).heap[w.heap.size]? = some (.cells (acs ⟨x.a, .slice A1 x.a.co.length c1, .slice A2 x.a.so.length c2⟩).toArray 46)) := Lib.hid (by rw [← acs_set x]; exact blk_set f3 _)
       have F7 := Lib.hid (blk_other f5 (show w.heap.size + 1 ≠ w.heap.size by omega) (j := 26) (.slice A2 x.a.so.length c2))
       have one := all_oneCell_toArray (oneA ⟨x.a, .slice A1 x.a.co.length c1, .slice A2 x.a.so.length c2⟩ rfl rfl)
       clear ho2 hg2 f3 f5)
    | (refine wpList_load_mid rfl 46 _ rfl w.heap.size 0 rfl (acs ⟨x.a, .slice A1 x.a.co.length c1, .slice A2 x.a.so.length c2⟩) _ (rng_block F6.out).at Try.underlying46 rfl (infoAcs _) ?_)
    | (refine wpList_store_row rfl 46 _ _ rfl (w.heap.size + 1) _ (acs ⟨x.a, .slice A1 x.a.co.length c1, .slice A2 x.a.so.length c2⟩).toArray rfl rfl F7.out (by simpa using infoAcs _) (by simp [acs_len]) one ?_))
  refine bodyPost_ret (v := .agg (acs ⟨x.a, .slice A1 x.a.co.length c1, .slice A2 x.a.so.length c2⟩).toArray) (results_cell_row rfl _ _ _ 46 _ (0, 0) _ rfl (blk_row F7.out) Try.underlying46 rfl (by simpa using infoAcs _)) rfl ⟨_, _, rfl, ?_, ?_⟩
  · have e1 : ∀ b, (Value.slice A1 x.a.co.length c1).ownBlock = some b → ((w2.setCell ⟨w.heap.size, 26, none⟩ (.slice A2 x.a.so.length c2)).setRow (w.heap.size + 1) (acs ⟨x.a, .slice A1 x.a.co.length c1, .slice A2 x.a.so.length c2⟩).toArray).heap[b]? = w1.heap[b]? := fun b hb => by
      have n1 := own_not HO1.out F2.out (by decide) b hb
      have n2 := own_not HO1.out F3.out (by decide) b hb
      rw [setRow_other _ _ _ _ n2, Below.heap_setCell _ _ _ _ n1, HG2.out.block b (by have := (HO1.out.lt b hb).2; simpa [World.setCell] using this) (by simp [Value.ownBlock]), Below.heap_setCell _ _ _ _ n1]
    have e2 : ∀ b, (Value.slice A2 x.a.so.length c2).ownBlock = some b → ((w2.setCell ⟨w.heap.size, 26, none⟩ (.slice A2 x.a.so.length c2)).setRow (w.heap.size + 1) (acs ⟨x.a, .slice A1 x.a.co.length c1, .slice A2 x.a.so.length c2⟩).toArray).heap[b]? = w2.heap[b]? := fun b hb => by
      have n1 := own_not HO2.out F4.out (by decide) b hb
      have n2 := own_not HO2.out F5.out (by decide) b hb
      rw [setRow_other _ _ _ _ n2, Below.heap_setCell _ _ _ _ n1]
    exact { HX.out with cod := RowZ.ownF (own_same HO1.out e1), sto := RowZ.ownF (own_same HO2.out e2), cp := ClrZ.ownF (own_same HO1.out e1), cq := ClrZ.ownF (own_same HO2.out e2) }
  · exact below_setRow ((((HB1.out.setCell (Nat.le_refl _) _).grown HG2.out (by simp [World.setCell]; omega) (by simp [Value.ownBlock]))).setCell (Nat.le_refl _) _) (by omega) _
end Go.Proofs.Ytpkoiifidlnbeaa
/- How two accounts' addresses stand to each other; sorting a row of accounts by them. -/
namespace Go.Proofs.Ytpkoiifidlnbeaa
open Go.RowKit SmWord Go.Sort
set_option maxRecDepth 100000

/-- Which of two rows of bytes is below the other one, from place k on: -1, 0, 1. -/
def lx (f g : Nat → Nat) : Nat → Nat → Int
  | 0, _ => 0
  | n + 1, k => if f k < g k then -1 else if g k < f k then 1 else lx f g n (k + 1)
theorem lx_ab (A C : Nat) : ∀ n, n ≤ 20 → lx (ab A) (ab C) n (20 - n) = cmpN (A % 256 ^ n) (C % 256 ^ n)
  | 0, _ => by simp [lx, cmpN, Nat.mod_one]
  | n + 1, h => by
    have ih := lx_ab A C n (by omega)
    rw [lx, show 20 - (n + 1) + 1 = 20 - n by omega, ih]
    unfold ab
    rw [show 19 - (20 - (n + 1)) = n by omega, Nat.pow_succ, Nat.mod_mul, Nat.mod_mul]
    have h1 : A % 256 ^ n < 256 ^ n := Nat.mod_lt _ (Nat.pow_pos (by decide))
    have h2 : C % 256 ^ n < 256 ^ n := Nat.mod_lt _ (Nat.pow_pos (by decide))
    generalize A / 256 ^ n % 256 = a
    generalize C / 256 ^ n % 256 = c
    generalize A % 256 ^ n = x at *
    generalize C % 256 ^ n = y at *
    generalize 256 ^ n = p at *
    unfold cmpN
    by_cases e1 : a < c
    · have : p * (a + 1) ≤ p * c := Nat.mul_le_mul_left _ e1
      rw [Nat.mul_succ] at this
      rw [if_pos e1, if_pos (by omega)]
    · by_cases e2 : c < a
      · have : p * (c + 1) ≤ p * a := Nat.mul_le_mul_left _ e2
        rw [Nat.mul_succ] at this
        rw [if_neg e1, if_pos e2, if_neg (by omega), if_pos (by omega)]
      · obtain rfl : a = c := by omega
        rw [if_neg e1, if_neg e2]
        by_cases e3 : x < y
        · rw [if_pos e3, if_pos (by omega)]
        · by_cases e4 : y < x
          · rw [if_neg e3, if_pos e4, if_neg (by omega), if_pos (by omega)]
          · rw [if_neg e3, if_neg e4, if_neg (by omega), if_neg (by omega)]
/-- The bytes from place k on. -/
def bk (f : Nat → Nat) (k n : Nat) : List UInt8 := (List.range n).map fun i => UInt8.ofNat (f (k + i))
theorem bk_cons (f : Nat → Nat) (k n : Nat) : bk f k (n + 1) = UInt8.ofNat (f k) :: bk f (k + 1) n := by
  unfold bk
  rw [List.range_succ_eq_map]
  simp only [List.map_cons, List.map_map, Nat.add_zero]
  congr 1
  refine List.map_congr_left fun i _ => ?_
  simp only [Function.comp]
  rw [show k + i.succ = k + 1 + i by omega]
theorem u8_lt {x y : Nat} (hx : x < 256) (hy : y < 256) : UInt8.ofNat x < UInt8.ofNat y ↔ x < y := by
  rw [UInt8.lt_iff_toNat_lt]
  simp
  omega
theorem cmp_bk {f g : Nat → Nat} : ∀ n k, (∀ i, i < k + n → f i < 256) → (∀ i, i < k + n → g i < 256) → Lib.compareBytes (bk f k n) (bk g k n) = lx f g n k
  | 0, _, _, _ => rfl
  | n + 1, k, hf, hg => by
    rw [bk_cons, bk_cons, Lib.compareBytes, lx, cmp_bk n (k + 1) (fun i hi => hf i (by omega)) (fun i hi => hg i (by omega))]
    have h1 := u8_lt (hf k (by omega)) (hg k (by omega))
    have h2 := u8_lt (hg k (by omega)) (hf k (by omega))
    simp only [h1, h2]
theorem bytes_bk (f : Nat → Nat) (n : Nat) : Lib.bytesOf ((List.range n).map fun i => ((f i : Nat) : Int)) = bk f 0 n := by
  simp [Lib.bytesOf, bk]
theorem load_sl {w : World} {b off n c : Nat} {f : Nat → Nat} (h : ∀ i, i < n → w.cell? ⟨b, off + i, none⟩ = some (.int .u8 ((f i : Nat) : Int))) :
    (Extern.Bytes.bytesOf (.slice (some ⟨b, off, none⟩) n c)).run Try.prog w = .ok ⟨(bk f 0 n).toArray⟩ w := by
  have hl := Lib.run_loadBytesX (P := Try.prog) w ((List.range n).map fun i => ((f i : Nat) : Int)) ⟨b, off, none⟩ .empty (fun j x hj => by
    have hjl : j < n := by have := (List.getElem?_eq_some_iff.1 hj).1; simpa using this
    have e : (⟨b, off, none⟩ : Addr).add j = ⟨b, off + j, none⟩ := by unfold Addr.add; split <;> simp_all
    rw [List.getElem?_map, List.getElem?_range hjl] at hj
    cases hj
    rw [e, h j hjl])
  rw [List.length_map, List.length_range, bytes_bk] at hl
  have he : (⟨ByteArray.empty.data ++ (bk f 0 n).toArray⟩ : ByteArray) = ⟨(bk f 0 n).toArray⟩ := by
    apply ByteArray.ext
    show (#[] : Array UInt8) ++ (bk f 0 n).toArray = (bk f 0 n).toArray
    simp
  rw [he] at hl
  exact hl
theorem run_compare {w : World} {b1 o1 b2 o2 c1 c2 n : Nat} {f g : Nat → Nat} (hf : ∀ i, i < n → f i < 256) (hg : ∀ i, i < n → g i < 256)
    (h1 : ∀ i, i < n → w.cell? ⟨b1, o1 + i, none⟩ = some (.int .u8 ((f i : Nat) : Int))) (h2 : ∀ i, i < n → w.cell? ⟨b2, o2 + i, none⟩ = some (.int .u8 ((g i : Nat) : Int))) :
    (Extern.BytealgCompare.compare #[.slice (some ⟨b1, o1, none⟩) n c1, .slice (some ⟨b2, o2, none⟩) n c2]).run Try.prog w = .ok (.int .i64 (lx f g n 0)) w := by
  change Sem.run Try.prog (do pure (goInt (Extern.BytealgCompare.cmp (← Extern.Bytes.bytesOf (.slice (some ⟨b1, o1, none⟩) n c1)) (← Extern.Bytes.bytesOf (.slice (some ⟨b2, o2, none⟩) n c2))))) w = _
  simp only [Sem.run_bind, Sem.run_pure, load_sl h1, load_sl h2, Result.andThen]
  rw [Lib.cmp_eq]
  show Result.ok (goInt (Lib.compareBytes (bk f 0 n) (bk g 0 n))) w = _
  rw [cmp_bk n 0 (by simpa using hf) (by simpa using hg)]
  rfl
theorem bcompare_walk {b1 o1 b2 o2 c1 c2 n : Nat} {f g : Nat → Nat} (w : World) (hf : ∀ i, i < n → f i < 256) (hg : ∀ i, i < n → g i < 256)
    (h1 : ∀ i, i < n → w.cell? ⟨b1, o1 + i, none⟩ = some (.int .u8 ((f i : Nat) : Int))) (h2 : ∀ i, i < n → w.cell? ⟨b2, o2 + i, none⟩ = some (.int .u8 ((g i : Nat) : Int))) :
    Calls Try.prog 62 #[.slice (some ⟨b1, o1, none⟩) n c1, .slice (some ⟨b2, o2, none⟩) n c2] w fun e w' => e = .returned (.int .i64 (lx f g n 0)) ∧ w' = w := by
  have hr := run_compare (c1 := c1) (c2 := c2) hf hg h1 h2
  clear h1 h2 hf hg
  go_enter Try.func62, Try.ntmps62
  go_wp2_with fail
  rw [run_callFunc_extern Try.func70 (by kernel_rfl) (by kernel_rfl) (by kernel_rfl) (e := Extern.BytealgCompare.compare) (by kernel_rfl), hr]
  simp only [Result.andThen]
  rw [Oper.upon_value]
  go_wp2
  go_ret
  exact ⟨rfl, rfl⟩
set_option maxHeartbeats 1000000 in
theorem acompare_walk (A C : Nat) (w : World) :
    Calls Try.prog 46 #[.agg (aN A), .agg (aN C)] w fun e w' => e = .returned (.int .i64 (cmpN (A % 256 ^ 20) (C % 256 ^ 20))) ∧ ∃ os, w' = grow w.drew os := by
  have f0 : ((w.alloc (.cells (aN A) 24)).alloc (.cells (aN C) 24)).heap[w.heap.size]? = some (.cells (aN A) 24) := blk_alloc (heap_alloc_new _ _)
  have f1 : ((w.alloc (.cells (aN A) 24)).alloc (.cells (aN C) 24)).heap[w.heap.size + 1]? = some (.cells (aN C) 24) := heap_alloc2_new _ _ _
  have hG : ∃ os, ((w.alloc (.cells (aN A) 24)).alloc (.cells (aN C) 24)).drew = grow w.drew os := ⟨_, by rw [alloc_eq_grow, alloc_eq_grow, grow_grow, drew_grow]⟩
  have KC := Lib.hid (bcompare_walk (b1 := w.heap.size) (o1 := 0) (b2 := w.heap.size + 1) (o2 := 0) (c1 := 20) (c2 := 20) (n := 20) ((w.alloc (.cells (aN A) 24)).alloc (.cells (aN C) 24)).drew (fun i _ => ab_lt A i) (fun i _ => ab_lt C i)
    (fun i hi => by rw [Nat.zero_add]; exact blk_cell (w := World.drew _) f0 (arr_get .u8 (fun i => ((ab A i : Nat) : Int)) hi)) (fun i hi => by rw [Nat.zero_add]; exact blk_cell (w := World.drew _) f1 (arr_get .u8 (fun i => ((ab C i : Nat) : Int)) hi)))
  have hL := lx_ab A C 20 (Nat.le_refl _)
  rw [Nat.sub_self] at hL
  rw [hL] at KC
  clear f0 f1 hL
  generalize cmpN (A % 256 ^ 20) (C % 256 ^ 20) = r at *
  have hs : ∀ A, (aN A).size = 20 := aN_size
  go_enter Try.func46, Try.ntmps46
  go_wp2_with fail
  generalize ((w.alloc (.cells (aN A) 24)).alloc (.cells (aN C) 24)) = W at *
  go_region_with (go_at_call 62; refine KC.out.mono ?_; rintro e w1 ⟨rfl, rfl⟩)
  go_wp2_with fail
  go_ret
  exact ⟨rfl, hG⟩
set_option maxHeartbeats 1000000 in
theorem aordered_walk (x y : AV) (w : World) :
    Calls Try.prog 35 #[aval x, aval y] w fun e w' => e = .returned (.int .i64 (cmpN (x.a.ad % 256 ^ 20) (y.a.ad % 256 ^ 20))) ∧ ∃ q os, w' = grow (w.drewN q) os := by
  unfold aval
  have hs : (acs x).toArray.size = 27 := by simp [acs_len]
  have hs' : (acs y).toArray.size = 27 := by simp [acs_len]
  obtain ⟨f0, bW⟩ := boxA w x
  obtain ⟨W, hW⟩ : ∃ W, w.alloc (.cells (acs x).toArray 46) = W := ⟨_, rfl⟩
  rw [hW] at f0 bW
  obtain ⟨f1, bV⟩ := boxA W y
  obtain ⟨V, hV⟩ : ∃ V, W.alloc (.cells (acs y).toArray 46) = V := ⟨_, rfl⟩
  rw [hV] at f1 bV
  obtain ⟨os, hG⟩ : ∃ os, V = grow w os := ⟨_, by rw [← hV, ← hW, alloc_eq_grow, alloc_eq_grow, grow_grow]⟩
  have HG := Lib.hid hG
  have KC := Lib.hid (acompare_walk x.a.ad y.a.ad)
  obtain ⟨-, -, -, -, l0⟩ := boxcells (stay bV f0)
  obtain ⟨-, -, -, -, l1⟩ := boxcells f1
  clear f0 f1 hG bW bV
  generalize cmpN (x.a.ad % 256 ^ 20) (y.a.ad % 256 ^ 20) = r at *
  go_enter Try.func35, Try.ntmps35
  go_upto_region 1 with fail
  clear hW hV
  go_wp2_with (first
    | (refine wpList_load_mid rfl 24 _ rfl w.heap.size 0 rfl (aN x.a.ad).toList _ l0 Try.underlying24 rfl (infoAd _) ?_; simp only [Array.toArray_toList])
    | (refine wpList_load_mid rfl 24 _ rfl W.heap.size 0 rfl (aN y.a.ad).toList _ l1 Try.underlying24 rfl (infoAd _) ?_; simp only [Array.toArray_toList])
    | (go_at_call 46; refine (KC.out _).mono ?_; rintro e w1 ⟨rfl, os1, rfl⟩))
  go_ret
  exact ⟨rfl, 1, os ++ os1, by rw [HG.out, drew_grow, grow_grow]; rfl⟩
end Go.Proofs.Ytpkoiifidlnbeaa
/- A row of accounts, sorted by their addresses. -/
namespace Go.Proofs.Ytpkoiifidlnbeaa
open Go.RowKit SmWord Go.Sort
set_option maxRecDepth 100000

def nrm (v : Value) : Value := if v.oneCell' then v else .slice none 0 0
theorem nrm_one (v : Value) : (nrm v).oneCell' = true := by
  unfold nrm
  split
  · assumption
  · rfl
def nrmA (x : AV) : AV := ⟨x.a, nrm x.p, nrm x.q⟩
def acn (x : AV) : List Value := acs (nrmA x)
theorem acn_len (x : AV) : (acn x).length = 27 := acs_len _
theorem acn_one (x : AV) : ∀ v ∈ acn x, v.oneCell' = true := oneA _ (nrm_one _) (nrm_one _)
theorem acn_eq {x : AV} (h : x.p.oneCell' = true) (h' : x.q.oneCell' = true) : acn x = acs x := by
  unfold acn nrmA nrm
  rw [if_pos h, if_pos h']
theorem flatK_list (enc : AV → List Value) (k : Nat) (hk0 : 0 < k) (hk : ∀ x, (enc x).length = k) (l : List AV) : (flatK enc k l.toArray).toList = l.flatMap enc := by
  apply List.ext_getElem?
  intro t
  have hlen : (l.flatMap enc).length = l.length * k := flat_len l fun x _ => hk x
  by_cases ht : t < l.length * k
  · have h1 : t / k < l.length := (Nat.div_lt_iff_lt_mul hk0).2 ht
    have h2 : t % k < (enc l[t / k]).length := by rw [hk]; exact Nat.mod_lt _ hk0
    have h3 := flat_get l (fun x _ => hk x) (t / k) l[t / k] (List.getElem?_eq_getElem h1) (t % k) _ (List.getElem?_eq_getElem h2)
    rw [show t / k * k + t % k = t by rw [Nat.mul_comm]; exact Nat.div_add_mod t k] at h3
    rw [h3, Array.getElem?_toList, flatK]
    have h4 : t < (l.toArray).size * k := by simpa using ht
    simp only [Array.getElem?_map, Array.getElem?_range, h4, if_true, Option.map_some]
    rw [getElem!_pos l.toArray (t / k) (by simpa using h1)]
    simp only [List.getElem_toArray]
    rw [getElem!_pos (enc l[t / k]) (t % k) h2]
  · rw [List.getElem?_eq_none (by simp; omega), List.getElem?_eq_none (by omega)]
theorem holds_flat {w : World} {g : Nat} {cur : Array Value} {e : TypeId} {F : Array Value} (hb : w.heap[g]? = some (.cells cur e (0, 0))) (ht : cur.toList.take F.size = F.toList) : Holds id w g 0 F := by
  intro j hj
  refine ⟨?_, by simp [World.frozen?, hb]⟩
  have h1 : (cur.toList.take F.size)[j]? = F.toList[j]? := by rw [ht]
  rw [List.getElem?_take_of_lt hj] at h1
  simp only [World.cell?, hb, Nat.zero_add]
  simp only [Option.isSome_none, Bool.false_eq_true, if_false]
  rw [← Array.getElem?_toList, h1]
  simp [hj]
theorem heap_flat {w : World} {g n : Nat} {os : Array Obj} {cur : Array Value} {e : TypeId} {fr : Nat × Nat} (F : Array Value) (hb : w.heap[g]? = some (.cells cur e fr)) :
    (grow (putRow id (Sort.ahead w n) g 0 F) os).heap[g]? = some (.cells (putCells id 0 F cur) e fr) := by
  have hg : g < w.heap.size := (Array.getElem?_eq_some_iff.1 hb).1
  rw [heap_grow_old _ _ (by simpa using hg)]
  simp [putRow, mapBlock, Sort.ahead, Array.getElem?_modify, hb, onCells]
theorem grownBy_flat {w : World} {g n : Nat} {os : Array Obj} (F : Array Value) : w.grownBy (grow (putRow id (Sort.ahead w n) g 0 F) os) (some g) := by
  refine ⟨rfl, rfl, rfl, by simp, fun k hk hne => ?_⟩
  rw [heap_grow_old _ _ (by simpa using hk)]
  have : g ≠ k := fun e => hne (by rw [e])
  simp [putRow, mapBlock, Sort.ahead, Array.getElem?_modify, this]
theorem take_flat (cur F : Array Value) (h : F.size ≤ cur.size) : (putCells id 0 F cur).toList.take F.size = F.toList := by
  apply List.ext_getElem?
  intro j
  by_cases hj : j < F.size
  · rw [List.getElem?_take_of_lt hj, Array.getElem?_toList]
    simp [putCells, hj, show j < cur.size by omega]
  · rw [List.getElem?_take_eq_none (by omega), List.getElem?_eq_none (by simp; omega)]
def ordA (x y : AV) : Int := cmpN (x.a.ad % 256 ^ 20) (y.a.ad % 256 ^ 20)
theorem ordA_lt (x y : AV) : ltOf ordA x y = decide (x.a.ad % 256 ^ 20 < y.a.ad % 256 ^ 20) := by
  unfold ltOf ordA cmpN
  generalize x.a.ad % 256 ^ 20 = a
  generalize y.a.ad % 256 ^ 20 = b
  by_cases h1 : a < b
  · simp [h1]
  · by_cases h2 : b < a <;> simp [h1, h2]
theorem swoA : SWO (ltOf ordA) where
  irrefl x := by rw [ordA_lt]; simp
  trans x y z h1 h2 := by rw [ordA_lt] at *; simp only [decide_eq_true_eq] at *; omega
  ntrans x y z h1 h2 := by rw [ordA_lt] at *; simp only [decide_eq_false_iff_not] at *; omega
theorem sort_walk {w : World} {base : Nat} {v : Value} {xs : List AV} (h : w.ownsRow base 46 27 v xs.length (xs.flatMap acs)) (h1 : ∀ x ∈ xs, x.p.oneCell' = true ∧ x.q.oneCell' = true) (hn : xs.length ≤ 4294967296) :
    Calls Try.prog 34 #[v, .func (.func 35) #[] #[]] w fun e w' => e = .returned (.tuple #[]) ∧ ∃ ys : List AV, ys.Perm xs ∧ ys.Pairwise (fun x y => x.a.ad % 256 ^ 20 ≤ y.a.ad % 256 ^ 20) ∧
      w'.ownsRow base 46 27 v xs.length (ys.flatMap acs) ∧ w.grownBy w' v.ownBlock := by
  have hacn : ∀ l : List AV, (∀ x ∈ l, x.p.oneCell' = true ∧ x.q.oneCell' = true) → l.flatMap acn = l.flatMap acs := fun l hl => by
    rw [List.flatMap_def, List.flatMap_def, List.map_congr_left fun x hx => acn_eq (hl x hx).1 (hl x hx).2]
  rcases h.2 with ⟨rfl, hz⟩ | ⟨g, cap, cur, rfl, hb, hg, hnc, hcM, hcs, ht⟩
  · have hx : xs = [] := List.eq_nil_of_length_eq_zero hz
    subst hx
    refine (AnyF.slices_SortFunc_none Try.sortA none 0 _ w).mono fun e w' ⟨he, hw⟩ => ?_
    subst hw
    exact ⟨he, [], .nil, .nil, h, ⟨rfl, rfl, rfl, Nat.le_refl _, fun _ _ _ => rfl⟩⟩
  · have hF : (flatK acn 27 xs.toArray).toList = xs.flatMap acs := by rw [flatK_list acn 27 (by decide) acn_len, hacn xs h1]
    have hsz : (flatK acn 27 xs.toArray).size = xs.length * 27 := by simp
    have hH : HoldsK acn 27 w g 0 xs.toArray := holds_flat hg (by rw [hsz, hF, ht])
    have hlt := (Array.getElem?_eq_some_iff.1 hg).1
    have eg : ∀ args w, (callFunc 35 args).run Try.prog w = .ok (.enter 35 args) w := enters_of Try.func35 (by kernel_rfl) rfl
    have hcmp : CmpLays Try.prog 35 #[] acn 27 ordA g 0 xs.toArray.size w := fun m os dk _ x y => aordered_walk (nrmA x) (nrmA y) _
    have hcon := AnyQ.slices_SortFunc Try.sortA 27 (fun w => Try.isAgg46 w) (fun w => Try.sizeOf46 w) acn acn_len acn_one ordA swoA 35 #[] g 0 cap xs.toArray w eg hcmp hH hlt (by simp; omega)
    simp only [List.size_toArray] at hcon
    refine hcon.mono fun e w' ⟨he, d', m, os, hp, hs, hw⟩ => ?_
    subst hw
    have hds : d'.size = xs.length := by simpa using hp.1
    have hperm : d'.toList.Perm xs := by
      have := hp.2.2
      rw [Array.extract_eq_self_of_le (by omega), Array.extract_eq_self_of_le (by simp)] at this
      simpa using this
    have hF' : (flatK acn 27 d').toList = d'.toList.flatMap acs := by
      have := flatK_list acn 27 (by decide) acn_len d'.toList
      rw [Array.toArray_toList] at this
      rw [this, hacn d'.toList fun x hx => h1 x (hperm.subset hx)]
    have hsz' : (flatK acn 27 d').size = xs.length * 27 := by simp [hds]
    refine ⟨he, d'.toList, hperm, ?_, ⟨by rw [flat_len (k := 27) _ fun x _ => acs_len x]; simp [hds], .inr ⟨g, cap, _, rfl, hb, heap_flat (flatK acn 27 d') hg, hnc, hcM, by simp [putCells, hcs], ?_⟩⟩, grownBy_flat _⟩
    · rw [List.pairwise_iff_getElem]
      intro i j hi hj hij
      have hj' : j < d'.size := by simpa using hj
      have := hs i j (Nat.zero_le _) hij (by omega)
      rw [ordA_lt, getElem!_pos d' j hj', getElem!_pos d' i (by omega)] at this
      simp only [decide_eq_false_iff_not, Nat.not_lt] at this
      simpa using this
    · rw [← hsz', take_flat _ _ (by rw [hsz', hcs]; exact Nat.mul_le_mul_right _ hnc), hF']
end Go.Proofs.Ytpkoiifidlnbeaa
/- All of a version: what is gathered when some addresses are still to come. -/
namespace Go.Proofs.Ytpkoiifidlnbeaa
open Go.RowKit SmWord
set_option maxRecDepth 100000

/-- Two parts of memory together. -/
def orH (Z Z' : Hp) : Hp := fun b => (Z b).or (Z' b)
theorem orH_left (Z Z' : Hp) : Sub Z (orH Z Z') := fun b o h => by unfold orH; rw [h]; rfl
theorem orH_right {Z Z' : Hp} (h : ∀ b o o', Z b = some o → Z' b = some o' → o = o') : Sub Z' (orH Z Z') := fun b o hb => by
  unfold orH
  cases hz : Z b with
  | none => exact hb
  | some o1 => rw [h b o1 o hz hb]; rfl
theorem orH_some {Z Z' : Hp} {b : Nat} {o : Obj} (h : orH Z Z' b = some o) : Z b = some o ∨ Z' b = some o := by
  unfold orH at h
  cases hz : Z b with
  | none => rw [hz] at h; exact .inr h
  | some o1 => rw [hz] at h; exact .inl h
structure P3 (w0 : World) (g : Gh) (La : List Acc) (r : Nat) (wr : World) (left : Nat → Bool) (cnt : Nat) (val : Value) (xs : List AV) (Z : Hp) : Prop where
  it : rangesIs wr g.mb r g.cnt (setF g) left cnt
  below : Below w0.heap.size w0 wr
  rge : w0.heap.size ≤ r
  mbl : g.mb < w0.heap.size
  own : wr.ownsRow w0.heap.size 46 27 val xs.length (xs.flatMap acs)
  each : ∀ x ∈ xs, AccC Z x
  sub : Sub Z (hp wr)
  zge : ∀ b o, Z b = some o → w0.heap.size ≤ b
  zr : Z r = none
  zo : ∀ b, val.ownBlock = some b → Z b = none
  k1 : ∀ x ∈ xs, lookA La x.a.ad = some x.a ∧ emptyA x.a = false ∧ left x.a.ad = false
  k2 : ∀ A y, A < 2 ^ 160 → (setF g A).isSome = true → left A = false → lookA La A = some y → emptyA y = false → y ∈ xs.map AV.a
  k3 : (xs.map fun x => x.a.ad).Nodup
  le : xs.length + cnt ≤ g.cnt
section
variable {w0 wr wa wc wd we : World} {g : Gh} {La : List Acc} {r : Nat} {left : Nat → Bool} {cnt cnt' : Nat} {val v' : Value} {xs : List AV} {Z : Hp} {A : Nat}
theorem P3.start (hit : rangesIs wr g.mb r g.cnt (setF g) (fun A => (setF g A).isSome) cnt) (hb : Below w0.heap.size w0 wr) (hr : w0.heap.size ≤ r) (hm : g.mb < w0.heap.size) (hc : cnt ≤ g.cnt) : P3 w0 g La r wr (fun A => (setF g A).isSome) cnt (.slice none 0 0) [] (fun _ => none) :=
  ⟨hit, hb, hr, hm, ⟨rfl, .inl ⟨rfl, rfl⟩⟩, fun x hx => (by simp at hx), fun b o h => (by cases h), fun b o h => (by cases h), rfl, fun b h => rfl, fun x hx => (by simp at hx), fun A y _ h1 h2 => (by rw [h1] at h2; cases h2), .nil, by simpa using hc⟩
theorem P3.rne (h : P3 w0 g La r wr left cnt val xs Z) : ∀ b, val.ownBlock = some b → b ≠ r ∧ b < wr.heap.size ∧ w0.heap.size ≤ b := by
  rintro b hb
  refine ⟨?_, (h.own.lt b hb).2, (h.own.lt b hb).1⟩
  rintro rfl
  obtain ⟨cs, hcs⟩ := own_block h.own hb
  obtain ⟨D, lf, ⟨_, _, _, _, _, _, _, _, _, hri, _⟩, _⟩ := h.it
  rw [hri] at hcs
  cases hcs
/-- An address of which nothing is gathered. -/
theorem P3.skip (h : P3 w0 g La r wr left cnt val xs Z) (hit : rangesIs wa g.mb r g.cnt (setF g) (fun B => left B && !decide (B = A)) cnt') (hcnt : cnt' < cnt) (hra : wr.grownBy wa (some r)) (hbe : Below wa.heap.size wa we)
    (hno : ∀ y, lookA La A = some y → emptyA y = true) : P3 w0 g La r we (fun B => left B && !decide (B = A)) cnt' val xs Z := by
  have z1 := hra.size
  have z2 := hbe.size
  have hlr := h.it.lt
  have z0 := h.below.size
  have hmb := h.mbl
  have hrne := h.rne
  refine ⟨hit.same (hbe.block _ hit.map.lt) (hbe.block _ hit.lt), ?_, h.rge, hmb, own_same h.own fun b hb => ?_, h.each, fun b o hb => ?_, h.zge, h.zr, h.zo, fun x hx => ?_, fun B y hB h1 h2 h3 h4 => ?_, h.k3, ?_⟩
  · exact ⟨hbe.os.trans (hra.os.trans h.below.os), hbe.tape.trans (hra.tape.trans h.below.tape), hbe.output.trans (hra.output.trans h.below.output), by omega, fun b hb => by rw [hbe.block b (by omega), hra.block b (by omega) (by have := h.rge; simp; omega), h.below.block b hb]⟩
  · obtain ⟨q1, q2, q3⟩ := hrne b hb
    rw [hbe.block b (by omega), hra.block b q2 (by simpa using q1)]
  · have h1 : wr.heap[b]? = some o := h.sub b o hb
    have h2 : b < wr.heap.size := (Array.getElem?_eq_some_iff.1 h1).1
    have h3 : b ≠ r := fun e => by subst e; rw [h.zr] at hb; cases hb
    show we.heap[b]? = some o
    rw [hbe.block b (by omega), hra.block b h2 (by simpa using h3), h1]
  · obtain ⟨q1, q2, q3⟩ := h.k1 x hx
    exact ⟨q1, q2, by rw [q3]; rfl⟩
  · by_cases e : B = A
    · subst e
      rw [hno y h3] at h4
      cases h4
    · exact h.k2 B y hB h1 (by simpa [e] using h2) h3 h4
  · have := h.le; omega
/-- One account more. -/
theorem P3.push (h : P3 w0 g La r wr left cnt val xs Z) (hla : left A = true) (hit : rangesIs wa g.mb r g.cnt (setF g) (fun B => left B && !decide (B = A)) cnt') (hcnt : cnt' < cnt) (hra : wr.grownBy wa (some r)) (hac : Below wa.heap.size wa wc) (hcd : Below wc.heap.size wc wd) {m : Nat} (hm : wa.heap.size ≤ m) {x : AV} (hx : AccC (fr m wc) x)
    (ho : we.ownsRow w0.heap.size 46 27 v' (xs.length + 1) (xs.flatMap acs ++ acs x)) (hde : wd.grownBy we val.ownBlock) (hloc : v'.ownBlock = val.ownBlock ∨ v'.ownBlock = some wd.heap.size)
    (hL : lookA La A = some x.a) (hAd : x.a.ad = A) (hE : emptyA x.a = false) : P3 w0 g La r we (fun B => left B && !decide (B = A)) cnt' v' (xs ++ [x]) (orH Z (fr m wc)) := by
  have z1 := hra.size
  have z2 := hac.size
  have z3 := hcd.size
  have z4 := hde.size
  have hlr := h.it.lt
  have z0 := h.below.size
  have hmb := h.mbl
  have hrne := h.rne
  have hrg := h.rge
  have hr0 : some r ≠ val.ownBlock := fun e => (hrne r e.symm).1 rfl
  have hg0 : some g.mb ≠ val.ownBlock := fun e => by have := (hrne g.mb e.symm).2.2; omega
  have eold : ∀ b, b < wr.heap.size → b ≠ r → some b ≠ val.ownBlock → we.heap[b]? = wr.heap[b]? := fun b h1 h2 h3 => by
    rw [hde.block b (by omega) h3, hcd.block b (by omega), hac.block b (by omega), hra.block b h1 (by simpa using h2)]
  have zlt : ∀ b o, Z b = some o → b < wr.heap.size ∧ b ≠ r ∧ some b ≠ val.ownBlock := fun b o hb => by
    refine ⟨(Array.getElem?_eq_some_iff.1 (h.sub b o hb)).1, fun e => (by subst e; rw [h.zr] at hb; cases hb), fun e => ?_⟩
    rw [h.zo b e.symm] at hb; cases hb
  have frw : ∀ b o, fr m wc b = some o → m ≤ b ∧ b < wc.heap.size ∧ wc.heap[b]? = some o := fun b o hb => by
    unfold fr at hb
    split at hb
    · exact ⟨by assumption, (Array.getElem?_eq_some_iff.1 hb).1, hb⟩
    · cases hb
  have frn : ∀ b o, fr m wc b = some o → we.heap[b]? = some o := fun b o hb => by
    obtain ⟨q1, q2, q3⟩ := frw b o hb
    rw [hde.block b (by omega) (fun e => by have := (hrne b e.symm).2.1; omega), hcd.block b q2, q3]
  refine ⟨hit.same ?_ ?_, ?_, hrg, hmb, by simpa using ho, fun y hy => ?_, fun b o hb => ?_, fun b o hb => ?_, ?_, fun b hb => ?_, fun y hy => ?_, fun B y hB h1 h2 h3 h4 => ?_, ?_, ?_⟩
  · rw [hde.block _ (by have := hit.map.lt; omega) hg0, hcd.block _ (by have := hit.map.lt; omega), hac.block _ hit.map.lt]
  · rw [hde.block _ (by omega) hr0, hcd.block _ (by omega), hac.block _ hit.lt]
  · exact ⟨hde.os.trans (hcd.os.trans (hac.os.trans (hra.os.trans h.below.os))), hde.tape.trans (hcd.tape.trans (hac.tape.trans (hra.tape.trans h.below.tape))), hde.output.trans (hcd.output.trans (hac.output.trans (hra.output.trans h.below.output))), by omega, fun b hb => (eold b (by omega) (by omega) (fun e => by have := (hrne b e.symm).2.2; omega)).trans (h.below.block b hb)⟩
  · rcases List.mem_append.1 hy with hy | hy
    · exact (h.each y hy).sub (orH_left _ _)
    · simp at hy
      subst hy
      exact hx.sub (orH_right fun b o o' h1 h2 => by
        have := (zlt b o h1).1
        have := (frw b o' h2).1
        omega)
  · rcases orH_some hb with hb | hb
    · obtain ⟨q1, q2, q3⟩ := zlt b o hb
      exact (eold b q1 q2 q3).trans (h.sub b o hb)
    · exact frn b o hb
  · rcases orH_some hb with hb | hb
    · exact h.zge b o hb
    · have := (frw b o hb).1; omega
  · unfold orH
    rw [h.zr]
    unfold fr
    rw [if_neg (by omega)]
    rfl
  · have hb' : Z b = none ∧ fr m wc b = none := by
      rcases hloc with e | e
      · rw [e] at hb
        refine ⟨h.zo b hb, ?_⟩
        unfold fr
        rw [if_neg (by have := (hrne b hb).2.1; omega)]
      · rw [e] at hb
        cases hb
        refine ⟨?_, ?_⟩
        · cases hz : Z wd.heap.size with
          | none => rfl
          | some o => have := (zlt _ o hz).1; omega
        · cases hz : fr m wc wd.heap.size with
          | none => rfl
          | some o => have := (frw _ o hz).2.1; omega
    unfold orH
    rw [hb'.1, hb'.2]
    rfl
  · rcases List.mem_append.1 hy with hy | hy
    · obtain ⟨q1, q2, q3⟩ := h.k1 y hy
      exact ⟨q1, q2, by rw [q3]; rfl⟩
    · simp at hy
      subst hy
      exact ⟨hAd ▸ hL, hE, by simp [hAd]⟩
  · by_cases e : B = A
    · subst e
      rw [hL] at h3
      cases h3
      simp
    · have := h.k2 B y hB h1 (by simpa [e] using h2) h3 h4
      rw [List.map_append]
      exact List.mem_append_left _ this
  · rw [List.map_append, List.nodup_append]
    refine ⟨h.k3, by simp, fun a ha b hb => ?_⟩
    simp at hb
    subst hb
    obtain ⟨y, hy, rfl⟩ := List.mem_map.1 ha
    intro e
    have := (h.k1 y hy).2.2
    rw [e, hAd, hla] at this
    cases this
  · have := h.le; simp; omega
end
/-- Strictly rising, the same members: the same list. -/
theorem srt_ext : ∀ {l l' : List Acc}, Srt l → Srt l' → (∀ x, x ∈ l ↔ x ∈ l') → l = l'
  | [], [], _, _, _ => rfl
  | [], y :: l', _, _, h => by have := (h y).2 (by simp); simp at this
  | x :: l, [], _, _, h => by have := (h x).1 (by simp); simp at this
  | x :: l, y :: l', h1, h2, h => by
    obtain ⟨a1, a2⟩ := List.pairwise_cons.1 h1
    obtain ⟨b1, b2⟩ := List.pairwise_cons.1 h2
    have hxy : x = y := by
      rcases List.mem_cons.1 ((h x).1 (by simp)) with e | hx
      · exact e
      · rcases List.mem_cons.1 ((h y).2 (by simp)) with e | hy
        · exact e.symm
        · have := a1 y hy
          have := b1 x hx
          omega
    subst hxy
    rw [srt_ext a2 b2 fun z => ?_]
    have := h z
    simp only [List.mem_cons] at this
    constructor
    · intro hz
      rcases this.1 (.inr hz) with rfl | e
      · exact absurd (a1 _ hz) (by omega)
      · exact e
    · intro hz
      rcases this.2 (.inr hz) with rfl | e
      · exact absurd (b1 _ hz) (by omega)
      · exact e
theorem pairwise_strict : ∀ {ys : List AV}, ys.Pairwise (fun x y => x.a.ad % 256 ^ 20 ≤ y.a.ad % 256 ^ 20) → (∀ x ∈ ys, x.a.ad < 2 ^ 160) → (ys.map fun x => x.a.ad).Nodup → Srt (ys.map AV.a)
  | [], _, _, _ => .nil
  | x :: ys, h1, h2, h3 => by
    obtain ⟨a1, a2⟩ := List.pairwise_cons.1 h1
    rw [List.map_cons, List.nodup_cons] at h3
    refine List.pairwise_cons.2 ⟨fun z hz => ?_, pairwise_strict a2 (fun y hy => h2 y (by simp [hy])) h3.2⟩
    obtain ⟨y, hy, rfl⟩ := List.mem_map.1 hz
    have := a1 y hy
    have e1 := h2 x (by simp)
    have e2 := h2 y (by simp [hy])
    rw [Nat.mod_eq_of_lt (by simpa using e1), Nat.mod_eq_of_lt (by simpa using e2)] at this
    have : x.a.ad ≠ y.a.ad := fun e => h3.1 (by rw [e]; exact List.mem_map_of_mem hy)
    omega
end Go.Proofs.Ytpkoiifidlnbeaa
/- All accounts of a version. -/
namespace Go.Proofs.Ytpkoiifidlnbeaa
open Go.RowKit SmWord
set_option maxRecDepth 100000

theorem infoA27 : (Try.prog.info? 46).map (fun i => (i.zero, i.size, i.bytes)) = some (some (.agg (acs noneAV).toArray), 27, 112) := by kernel_rfl
theorem copied2_walk (x : AV) (w : World) (h : AccZ (hp w) x) : Calls Try.prog 33 #[.agg (acs x).toArray] w fun e w' => ∃ x5 : AV, e = .returned (.agg (acs x5).toArray) ∧ x5.a = x.a ∧ AccC (fr w.heap.size w') x5 ∧ Below w.heap.size w w' :=
  (copied_own x w h).mono fun _ _ ⟨p, q, he, ha, hb⟩ => ⟨⟨x.a, p, q⟩, he, rfl, ha, hb⟩
theorem P3.ownS {w0 wr wa we : World} {g : Gh} {La : List Acc} {r : Nat} {left : Nat → Bool} {cnt : Nat} {val : Value} {xs : List AV} {Z : Hp} (h : P3 w0 g La r wr left cnt val xs Z) (hra : wr.grownBy wa (some r)) (hbe : Below wa.heap.size wa we) : we.ownsRow w0.heap.size 46 27 val xs.length (xs.flatMap acs) :=
  own_same h.own fun b hb => by
    have z1 := hra.size
    obtain ⟨q1, q2, q3⟩ := h.rne b hb
    rw [hbe.block b (by omega), hra.block b q2 (by simpa using q1)]
theorem rowOne {w : World} {x : AV} {b : Nat} (h : w.heap[b]? = some (.cells (acs x).toArray 46)) : RowZ (hp w) (.slice (some ⟨b, 0, none⟩) 1 1) 1 27 (acs x) :=
  ⟨by simp [acs_len], some ⟨b, 0, none⟩, 1, rfl, Nat.le_refl _, by simp [maxLen], fun h => by simp at h, fun _ => ⟨b, 0, rfl, by simpa using rng_block h⟩⟩
/-- What All answers. -/
structure AllIs (w0 : World) (La : List Acc) (w : World) (val : Value) (ys : List AV) (Z : Hp) : Prop where
  own : w.ownsRow w0.heap.size 46 27 val ys.length (ys.flatMap acs)
  each : ∀ x ∈ ys, AccC Z x
  sub : Sub Z (hp w)
  zge : ∀ b o, Z b = some o → w0.heap.size ≤ b
  zo : ∀ b, val.ownBlock = some b → Z b = none
  eq : ys.map AV.a = La.filter fun x => !emptyA x
  below : Below w0.heap.size w0 w
theorem AllIs.accs {w0 w : World} {La : List Acc} {val : Value} {ys : List AV} {Z : Hp} (h : AllIs w0 La w val ys Z) : AccsZ (hp w) val ys := ⟨RowZ.own h.own, fun x hx => ((h.each x hx).sub h.sub).toAccZ⟩
theorem mem_look {La : List Acc} (hs : Srt La) {x : Acc} : x ∈ La ↔ lookA La x.ad = some x := ⟨lookA_of_mem hs, fun h => (lookA_some h).1⟩
section
variable {base : Nat} {Z : Hp} {w : World} {sb : Nat} {g : Gh} {L : Nat → List Acc}
/-- All addresses are gone through, and what is gathered is sorted. -/
theorem P3.done (h : StoreAt base Z w sb g L) {v : Nat} (hv : v < g.n) {r : Nat} {wr we : World} {left : Nat → Bool} {cnt : Nat} {val : Value} {xs ys : List AV} {Zp : Hp} (hP : P3 w g (L v) r wr left cnt val xs Zp) (hl : ∀ A, A < 2 ^ 160 → left A = false)
    (hp : ys.Perm xs) (hs : ys.Pairwise (fun x y => x.a.ad % 256 ^ 20 ≤ y.a.ad % 256 ^ 20)) (ho : we.ownsRow w.heap.size 46 27 val xs.length (ys.flatMap acs)) (hg : wr.grownBy we val.ownBlock) : AllIs w (L v) we val ys Zp := by
  have hrne := hP.rne
  have hS := h.srt v hv
  refine ⟨by rw [hp.length_eq]; exact ho, fun x hx => hP.each x (hp.subset hx), fun b o hb => ?_, hP.zge, hP.zo, ?_, ?_⟩
  · have h1 : wr.heap[b]? = some o := hP.sub b o hb
    have h2 := (Array.getElem?_eq_some_iff.1 h1).1
    exact (hg.block b h2 (fun e => by rw [hP.zo b e.symm] at hb; cases hb)).trans h1
  · refine srt_ext (pairwise_strict hs (fun x hx => (hP.each x (hp.subset hx)).ad) ((hp.map _).nodup_iff.2 hP.k3)) (hS.filter _) fun x => ?_
    rw [List.mem_filter]
    constructor
    · intro hx
      obtain ⟨y, hy, rfl⟩ := List.mem_map.1 hx
      obtain ⟨q1, q2, _⟩ := hP.k1 y (hp.subset hy)
      exact ⟨(mem_look hS).2 q1, by rw [q2]; rfl⟩
    · rintro ⟨q1, q2⟩
      have hA := h.adL v hv x q1
      have hk := (mem_look hS).1 q1
      have hset : (setF g x.ad).isSome = true := by
        have := h.look v x.ad hv hA
        rw [hk] at this
        cases hn : near g.par (fun v => g.acc v x.ad) v with
        | none => rw [hn] at this; cases this
        | some b =>
          obtain ⟨u, hu, hub⟩ := near_mem h.parlt v hv b hn
          have hm : u ∈ seqA g x.ad := List.mem_filter.2 ⟨List.mem_range.2 (by omega), by simp [hub]⟩
          unfold setF
          cases hq : seqA g x.ad with
          | nil => rw [hq] at hm; simp at hm
          | cons => rfl
      have := hP.k2 x.ad x hA hset (hl _ hA) hk (by simpa using q2)
      obtain ⟨y, hy, e⟩ := List.mem_map.1 this
      exact List.mem_map.2 ⟨y, hp.symm.subset hy, e⟩
  · have z1 := hg.size
    have z0 := hP.below.size
    exact ⟨hg.os.trans hP.below.os, hg.tape.trans hP.below.tape, hg.output.trans hP.below.output, by omega, fun b hb => (hg.block b (by omega) (fun e => by have := (hrne b e.symm).2.2; omega)).trans (hP.below.block b hb)⟩
set_option maxHeartbeats 4000000 in
theorem all_walk (h : StoreAt base Z w sb g L) (hn : g.n ≤ 4000) (v : Nat) (hv : v < g.n) :
    Calls Try.prog 16 #[.pointer (some ⟨sb, 0, none⟩), .int .i64 (v : Int)] w fun e w' => ∃ val ys Zp, e = .returned val ∧ AllIs w (L v) w' val ys Zp := by
  have hsA : ∀ x, (acs x).toArray.size = 27 := fun x => by simp [acs_len]
  have hsN : ∀ A, (aN A).size = 20 := aN_size
  have KH := Lib.hid (has_walk h (v : Int))
  rw [decide_eq_true (by omega)] at KH
  have c1 := h.cell1
  have HH := Lib.hid h
  have HN := Lib.hid hn
  have HV := Lib.hid hv
  clear h hn
  go_enter Try.func16, Try.ntmps16
  go_wp2_with (first
    | (go_at_call 28; refine KH.out.mono ?_; rintro e w1 ⟨rfl, rfl⟩)
    | (refine wpList_range_map rfl _ 69 rfl 86 Try.underlying69 g.mb g.cnt _ rfl HH.out.setm ?_; intro w2 cnt hit hg2 hs2' hcle; have HP2 := Lib.hid (P3.start (La := L v) hit ((Below.refl _ _).grown hg2 (by omega) (fun k hk => by cases hk)) (Nat.le_refl _) HH.out.setm.lt hcle); clear hit hg2))
  clear c1
  go_frame
  go_loopw [5] (fun v5 wx => ∃ left cnt xs Zp, Hid (P3 w g (L v) w.heap.size wx left cnt v5 xs Zp)) (fun _ wx => wx.rangeLeft g.mb w.heap.size)
  case atStart => exact ⟨_, _, _, _, HP2⟩
  case round =>
    obtain ⟨left, cnt, xs, Zp, HQ⟩ := hrel
    clear HP2
    rcases HQ.out.it.next 0 with ⟨hc0, hl0, hrun⟩ | ⟨A, vv, wa, cnt', hA, hlA, hvA, hrun, hita, hcl, hga, hsa, hen⟩
    · have HL0 := Lib.hid hl0
      have hlen : xs.length ≤ 4294967296 := by have := HQ.out.le; have := HH.out.cntle; have := HN.out; omega
      have KS := Lib.hid (sort_walk HQ.out.own (fun x hx => ⟨(HQ.out.each x hx).cod.oneCell, (HQ.out.each x hx).sto.oneCell⟩) hlen)
      obtain ⟨A1, c1, e1⟩ := own_sl HQ.out.own
      subst e1
      clear hl0 hlen
      go_wp2_with (go_at_call 34; refine KS.out.mono ?_; rintro e w3 ⟨rfl, ys, hp, hs, ho, hg⟩)
      go_ret
      exact ⟨_, _, _, rfl, P3.done HH.out HV.out HQ.out HL0.out hp hs ho hg⟩
    · have sn := store_newAd
      obtain ⟨A1, c1, e1⟩ := own_sl HQ.out.own
      subst e1
      obtain ⟨Wk, hWk⟩ : ∃ Wk, wa.alloc (.cells (aN A) 24) = Wk := ⟨_, rfl⟩
      have k0 : Wk.heap[wa.heap.size]? = some (.cells (aN A) 24) := hWk ▸ heap_alloc_new _ _
      have HK : Hid (Below wa.heap.size wa Wk) := Lib.hid (hWk ▸ (Below.refl _ _).alloc (Nat.le_refl _) _)
      have r0 := adblk k0
      have bwa : Below w.heap.size w wa := HQ.out.below.grown hga (by have := HQ.out.below.size; omega) (fun k hk => by cases hk; exact Nat.le_refl _)
      have bwk : Below w.heap.size w Wk := bwa.trans (HK.out.mono bwa.size)
      have BK := Lib.hid bwk
      have hlk := HH.out.look v A hv hA
      have KL := last_walk (HH.out.below bwk) v A hv hA
      have HGA := Lib.hid hga
      have HIA := Lib.hid hita
      have HSA := Lib.hid hsa
      have hlen : xs.length + 1 ≤ 4294967296 := by have := HQ.out.le; have := HH.out.cntle; have := HN.out; omega
      have hz := HQ.out.below.size
      clear bwa bwk k0 hga hita hsa hvA
      cases hnr : near g.par (fun v => g.acc v A) v with
      | none =>
        rw [hnr] at KL hlk
        have KLo := Lib.hid KL
        have HLk := Lib.hid hlk
        clear KL hlk hnr
        go_wp2_with (first
          | (refine wpList_alloc_row rfl 24 rfl _ zeroAd_run ?_)
          | (refine wpList_load_mid rfl 24 _ rfl wa.heap.size 0 rfl (aN A).toList _ r0 Try.underlying24 rfl (infoAd A) ?_; simp only [Array.toArray_toList])
          | (go_at_call 32; refine KLo.out.mono ?_; rintro e w3 ⟨rfl, b3⟩; have B3 := Lib.hid b3; simp only [ptrV]; clear b3))
        have HP3 := HQ.out.skip HIA.out hcl HGA.out (HK.out.trans (B3.out.mono HK.out.size)) (fun y hy => by rw [HLk.out] at hy; cases hy)
        exact ⟨⟨_, _, _, _, Lib.hid HP3⟩, by rw [HP3.it.left_eq, HQ.out.it.left_eq]; exact hcl⟩
      | some b =>
        obtain ⟨fb, hx, had, _⟩ := HH.out.found hv hA hnr
        rw [hnr] at KL hlk
        have KLo := Lib.hid KL
        have HLk := Lib.hid hlk
        have FB := Lib.hid (HH.out.sub _ _ fb)
        have HX := Lib.hid (hx.sub HH.out.sub)
        have HAd := Lib.hid had
        clear KL hlk hnr fb hx had
        go_upto_region 8 with (first
          | (refine wpList_alloc_row rfl 24 rfl _ zeroAd_run ?_)
          | (refine wpList_load_mid rfl 24 _ rfl wa.heap.size 0 rfl (aN A).toList _ r0 Try.underlying24 rfl (infoAd A) ?_; simp only [Array.toArray_toList])
          | (go_at_call 32; refine KLo.out.mono ?_; rintro e w3 ⟨rfl, b3⟩; have B3 := Lib.hid b3; simp only [ptrV]; clear b3))
        have BW3 : Hid (Below w.heap.size w w3) := Lib.hid (BK.out.trans (B3.out.mono BK.out.size))
        have e2 := fun g : Ext w3 => (rng_block (g.block (stay BW3.out FB.out))).at
        have KE := Lib.hid fun g1 : Ext w3 => empty_walk (g.X b) g1.on (HX.out.sub (hp_below (BW3.out.trans (g1.below.mono BW3.out.size))))
        unfold aval at KE
        cases hem : emptyA (g.X b).a
        · have HE := Lib.hid hem
          rw [hem] at KE
          clear hem
          refine region_seq ?_
          repeat (first
            | (go_big_quiet_want; refine quiet_load_mid 46 _ rfl b 0 (acs (g.X b)) rfl (fun w2 hw2 => by obtain ⟨g1, rfl⟩ := hw2; exact e2 g1) Try.underlying46 rfl (infoAcs _) ?_; simp only [Act.put, List.setIfInBounds_toArray, List.set_cons_succ, List.set_cons_zero]; go_big_quiet_on)
            | go_big_quiet_step (first | (go_at_call 26; with_reducible exact calls_ext (KE.out _))))
          refine wpQuiet_nil ?_
          rintro w' ⟨gg, rfl⟩
          have B4 := Lib.hid gg.below
          clear e2 KE
          generalize gg.on = w4 at *
          have BW4 : Hid (Below w.heap.size w w4) := Lib.hid (BW3.out.trans (B4.out.mono BW3.out.size))
          have r4 := (rng_block (stay BW4.out FB.out)).at
          have KC := Lib.hid (copied2_walk (g.X b) w4 (HX.out.sub (hp_below BW4.out)))
          go_wp2_with (first
            | (refine wpList_load_mid rfl 46 _ rfl b 0 rfl (acs (g.X b)) _ r4 Try.underlying46 rfl (infoAcs _) ?_)
            | (go_at_call 33
               refine KC.out.mono ?_
               rintro e w5 ⟨x5, rfl, ha5, ha, b5⟩
               have HX5 := Lib.hid ha5
               have one := ha.ones
               have OneL := Lib.hid (oneA x5 ha.cod.oneCell ha.sto.oneCell)
               have f27 := fold27 x5
               have s27 : (acs x5).toArray.size = 27 := by simp [acs_len]
               have HA5 := Lib.hid ha
               have B5 := Lib.hid b5
               have bA5 : Below wa.heap.size wa w5 := HK.out.trans ((B3.out.trans ((B4.out.trans (b5.mono B4.out.size)).mono B3.out.size)).mono HK.out.size)
               have BA5 := Lib.hid bA5
               have bA6 : Below wa.heap.size wa (w5.alloc (.cells (acs x5).toArray 46)) := bA5.trans (((Below.refl _ _).alloc (Nat.le_refl _) _).mono bA5.size)
               have HO5 := Lib.hid (HQ.out.ownS HGA.out bA6)
               have HR5 := Lib.hid (rowOne (heap_alloc_new w5 (.cells (acs x5).toArray 46)))
               have hz5 : w.heap.size ≤ w5.heap.size := by have := bA5.size; have := HSA.out; omega
               clear ha b5 ha5 hsA bA5 bA6)
            | (refine append_row rfl _ _ 30 rfl 46 (.agg (acs noneAV).toArray) 27 112 Try.underlying30 infoA27 (by simp [Value.cells, acs_len]) (by decide) (by decide) w.heap.size (.slice A1 xs.length c1) xs.length (xs.flatMap acs) rfl HO5.out (.slice (some ⟨w5.heap.size, 0, none⟩) 1 1) 1 (acs x5) rfl HR5.out OneL.out hlen (by simp; omega) ?_
               intro v7 w7 ho7 hg7 hl7
               have HO7 := Lib.hid ho7
               have HG7 := Lib.hid hg7
               have HL7 := Lib.hid hl7
               obtain ⟨A7, c7, rfl⟩ := own_sl ho7
               clear ho7 hg7 hl7))
          have hz4 : wa.heap.size ≤ w4.heap.size := by have := HK.out.size; have := B3.out.size; have := B4.out.size; omega
          have HP3 := HQ.out.push hlA HIA.out hcl HGA.out BA5.out ((Below.refl _ _).alloc (Nat.le_refl _) _) hz4 HA5.out HO7.out HG7.out HL7.out (by rw [HLk.out, HX5.out]; rfl) (by rw [HX5.out]; exact HAd.out) (by rw [HX5.out]; exact HE.out)
          rw [← List.length_singleton (a := x5), ← List.length_append] at HP3 ⊢
          exact ⟨⟨_, _, _, _, Lib.hid HP3⟩, by rw [HP3.it.left_eq, HQ.out.it.left_eq]; exact hcl⟩
        · have HE := Lib.hid hem
          rw [hem] at KE
          clear hem
          refine region_seq ?_
          repeat (first
            | (go_big_quiet_want; refine quiet_load_mid 46 _ rfl b 0 (acs (g.X b)) rfl (fun w2 hw2 => by obtain ⟨g1, rfl⟩ := hw2; exact e2 g1) Try.underlying46 rfl (infoAcs _) ?_; simp only [Act.put, List.setIfInBounds_toArray, List.set_cons_succ, List.set_cons_zero]; go_big_quiet_on)
            | go_big_quiet_step (first | (go_at_call 26; with_reducible exact calls_ext (KE.out _))))
          refine wpQuiet_nil ?_
          rintro w' ⟨gg, rfl⟩
          have B4 := Lib.hid gg.below
          clear e2 KE
          generalize gg.on = w4 at *
          go_wp2_with fail
          have HP3 := HQ.out.skip HIA.out hcl HGA.out (HK.out.trans ((B3.out.trans (B4.out.mono B3.out.size)).mono HK.out.size)) (fun y hy => by rw [HLk.out] at hy; cases hy; exact HE.out)
          exact ⟨⟨_, _, _, _, Lib.hid HP3⟩, by rw [HP3.it.left_eq, HQ.out.it.left_eq]; exact hcl⟩
end
end Go.Proofs.Ytpkoiifidlnbeaa
