/- The address of a contract by a nonce: the program's function. -/
import Derived.Test.YtmcbaolecmkpdaaDoorGd
import Derived.Test.YtmcbaolecmkpdaaDoorG7
import Derived.Test.YtmcbaolecmkpdaaDoorGe
import Derived.Test.YtmcbaolecmkpdaaDoorGg
namespace Go.Proofs.YtmcbaolecmkpdaaDoor
open Go.RowKit SmWord
set_option maxRecDepth 100000

theorem fo2_rows (f : Nat → Nat) (n : Nat) : rows (fo2 f n) = [⟨true, [], 2⟩, ⟨false, bf f 0 20, 0⟩, ⟨false, bdig (nbl n) n, 0⟩] := rfl
theorem fo2_one (f : Nat → Nat) (n : Nat) : One (fo2 f n) := rfl
theorem fo2_dps (f : Nat → Nat) (n : Nat) : dps (fo2 f n) ≤ 64 := by simp [fo2, dps]
theorem fo2_wt (f : Nat → Nat) {n : Nat} (hn : n < B) : wt (rows (fo2 f n)) ≤ 1000000 := by
  have := nbl_8 hn
  rw [fo2_rows]
  simp [wt, bf_length, bdig_length]
  omega
theorem nf_list (n : Nat) (i : Nat) : nf n i = (bdig (nbl n) n).getD i 0 := rfl
theorem nodes3 {w : World} {b : Nat} {t : TypeId} {f : Nat → Nat} {n p q o : Nat} (hn : n < B)
    (h : w.heap[b]? = some (.cells #[.bool true, .slice none 0 0, .int .i64 2, .bool false, .slice (some ⟨p, 0, none⟩) 20 20, .int .i64 0, .bool false, .slice (some ⟨q, o, none⟩) (nbl n) (nbl n), .int .i64 0] t))
    (h1 : Sl w (some ⟨p, 0, none⟩) 20 f) (h2 : Sl w (some ⟨q, o, none⟩) (nbl n) (nf n)) : Arg w (some ⟨b, 0, none⟩) 3 3 (rows (fo2 f n)) := by
  have hl1 := bf_length f 0 20
  have hl2 := bdig_length (nbl n) n
  have h8 := nbl_8 hn
  refine ⟨rfl, Nat.le_refl _, (fun e => by cases e), ⟨fun _ => ⟨b, 0, rfl, (Array.getElem?_eq_some_iff.1 h).1, fun i x hx => ?_⟩⟩, fun i x hx => ?_⟩
  · rw [fo2_rows] at hx
    match i, hx with
    | 0, hx =>
      cases hx
      exact ⟨blk_cell h rfl, ⟨none, 0, blk_cell h rfl, Nat.le_refl _, Nat.zero_le _, fun _ => ⟨rfl, rfl⟩, ⟨fun _ h => absurd h (Nat.not_lt_zero _), fun h => absurd h (Nat.not_lt_zero _)⟩⟩, blk_cell h rfl⟩
    | 1, hx =>
      cases hx
      refine ⟨blk_cell h rfl, ⟨some ⟨p, 0, none⟩, 20, ?_, ?_, ?_, (fun e => by cases e), ?_⟩, blk_cell h rfl⟩
      · rw [hl1]; exact blk_cell h rfl
      · rw [hl1]; exact Nat.le_refl _
      · rw [hl1]; decide
      · rw [hl1]; exact h1.same fun i hi => (lf_bf f hi).symm
    | 2, hx =>
      cases hx
      refine ⟨blk_cell h rfl, ⟨some ⟨q, o, none⟩, nbl n, ?_, ?_, ?_, (fun e => by cases e), ?_⟩, blk_cell h rfl⟩
      · rw [hl2]; exact blk_cell h rfl
      · rw [hl2]; exact Nat.le_refl _
      · rw [hl2]; exact Nat.le_trans h8 (by decide)
      · rw [hl2]; exact h2
    | i + 3, hx => cases hx
  · rw [fo2_rows] at hx
    match i, hx with
    | 0, hx => cases hx; exact ⟨fun _ h => (List.not_mem_nil h).elim, by decide, by decide⟩
    | 1, hx =>
      cases hx
      refine ⟨fun y hy => ?_, Int.le_of_lt (by decide : (-9223372036854775808 : Int) < 0), (by decide : (0 : Int) ≤ 9223372036854775807)⟩
      obtain ⟨j, hj, rfl⟩ := List.mem_map.1 hy
      rw [Nat.zero_add]
      exact h1.small j (List.mem_range.1 hj)
    | 2, hx => cases hx; exact ⟨bdig_lt _ _, Int.le_of_lt (by decide : (-9223372036854775808 : Int) < 0), (by decide : (0 : Int) ≤ 9223372036854775807)⟩
    | i + 3, hx => cases hx
theorem lf_small {l : List Nat} (h : ∀ y ∈ l, y < 256) : ∀ i, i < l.length → lf l i < 256 := fun i hi => by
  unfold lf
  rw [List.getD_eq_getElem?_getD, List.getElem?_eq_getElem hi]
  exact h _ (List.getElem_mem hi)
theorem fo2_lt (f : Nat → Nat) {n : Nat} (hn : n < B) (hf : ∀ i, i < 20 → f i < 256) : ∀ y ∈ wrs (fo2 f n), y < 256 := by
  refine wrs_lt _ (fo2_wt f hn) fun x hx y hy => ?_
  rw [fo2_rows] at hx
  simp only [List.mem_cons, List.not_mem_nil, or_false] at hx
  rcases hx with rfl | rfl | rfl
  · exact absurd hy List.not_mem_nil
  · obtain ⟨j, hj, rfl⟩ := List.mem_map.1 hy
    rw [Nat.zero_add]
    exact hf j (List.mem_range.1 hj)
  · exact bdig_lt _ _ y hy
theorem fo2_len (f : Nat → Nat) {n : Nat} (hn : n < B) : (wrs (fo2 f n)).length ≤ 1000000 := Nat.le_trans (wrs_le _ (fo2_wt f hn)) (fo2_wt f hn)
set_option maxHeartbeats 2000000 in
theorem create_core (f : Nat → Nat) (nn : Nat) (L : List Nat) (F : Nat → Nat) (N : Nat) (w : World) (hL : Hid (wrs (fo2 f nn) = L)) (hF : Hid (lf L = F)) (hN : Hid (L.length = N)) (V : Nat → Nat) (K : Nat)
    (KW : Hid (∀ (A : Option Addr) (c : Nat) (w : World), N ≤ c → Tab w → Sl w A N F → Calls Tryd.prog 30 #[.slice A N c] w fun e w' => e = .returned (wd K) ∧ Below w.heap.size w w'))
    (KO : Hid (∀ w : World, Calls Tryd.prog 10 #[wd K] w fun e w' => e = .returned (.agg (aa V)) ∧ Below w.heap.size w w'))
    (hlt : ∀ i, i < L.length → lf L i < 256) (hf : ∀ i, i < 20 → f i < 256) (hn : nn < B) (hT : Tab w) :
    Calls Tryd.prog 12 #[.agg (aa f), .int .u64 (nn : Int)] w fun e w' => e = .returned (.agg (aa V)) ∧ Below w.heap.size w w' := by
  have HT := Lib.hid hT
  have HF := Lib.hid hf
  clear hT hf
  have hn' : nn < 18446744073709551616 := hn
  have K1 := Lib.hid fun w => of_wd nn w hn
  go_enter Tryd.func12, Tryd.ntmps12
  go_wp2_with (first | (refine wpList_alloc_row rfl 23 rfl zA zA_run ?_))
  simp only [Act.put, List.setIfInBounds_toArray, List.set_cons_succ, List.set_cons_zero, World.size_alloc]
  have g0 : ((w.alloc (.cells (aa f) 23)).alloc (.cells zA 23)).drew.heap[w.heap.size]? = some (.cells (aa f) 23) := blk_alloc (heap_alloc_new _ _)
  have g1 : ((w.alloc (.cells (aa f) 23)).alloc (.cells zA 23)).drew.heap[w.heap.size + 1]? = some (.cells zA 23) := heap_alloc2_new _ _ _
  have bW : Below w.heap.size w ((w.alloc (.cells (aa f) 23)).alloc (.cells zA 23)).drew := (((Below.refl _ _).alloc (Nat.le_refl _) _).alloc (by simp) _).drew
  have S0 := Lib.hid (aa_sl g0 HF.out)
  have R0 := Lib.hid g1
  have B0 := Lib.hid bW
  have HN := Lib.hid (show nn < 256 ^ 32 from Nat.lt_trans hn (by decide))
  have HB := Lib.hid hn
  clear g0 g1 bW hn HF
  go_region_with (first
    | (go_at_call 29; refine (K1.out _).mono ?_; rintro e w1 ⟨rfl, b1⟩; have S1 := Lib.hid (S0.out.below b1); have R1 := Lib.hid (stay b1 R0.out); have B1 := Lib.hid (B0.out.trans (b1.mono B0.out.size)); clear b1)
    | (go_at_call 28; refine (number_walk nn w1 HN.out).mono ?_; rintro e w2 ⟨⟨q, o, rfl, hq, hs⟩, b2⟩; have Q2 := Lib.hid hs; have S2 := Lib.hid (S1.out.below b2); have R2 := Lib.hid (stay b2 R1.out); have B2 := Lib.hid (B1.out.trans (b2.mono B1.out.size)); clear b2 hs hq)
    | (go_at_call 27; have bX := (Below.refl w2.heap.size w2).alloc (Nat.le_refl _) (.cells #[.bool true, .slice none 0 0, .int .i64 2, .bool false, .slice (some ⟨w.heap.size, 0, none⟩) 20 20, .int .i64 0, .bool false, .slice (some ⟨q, o, none⟩) (nbl nn) (nbl nn), .int .i64 0] 53); have hx := heap_alloc_new w2 (.cells #[.bool true, .slice none 0 0, .int .i64 2, .bool false, .slice (some ⟨w.heap.size, 0, none⟩) 20 20, .int .i64 0, .bool false, .slice (some ⟨q, o, none⟩) (nbl nn) (nbl nn), .int .i64 0] 53); refine (encode_ok (fo2_one f nn) rfl (fo2_dps f nn) (fo2_wt f HB.out) (nodes3 HB.out hx (S2.out.below bX) (Q2.out.below bX))).mono ?_; rintro e w3 ⟨⟨v, rfl, ho⟩, b3⟩; rw [hL.out] at ho; have O3 := Lib.hid ho; have R3 := Lib.hid (stay b3 (stay bX R2.out)); have B3 := Lib.hid ((B2.out.trans (bX.mono B2.out.size)).trans (b3.mono (B2.out.trans (bX.mono B2.out.size)).size)); clear b3 ho hx bX))
  obtain ⟨A, c, rfl, hc, _, hs⟩ := own_list O3.out hlt
  rw [hN.out] at hs hc ⊢
  rw [hF.out] at hs
  have HS := Lib.hid hs
  have HC := Lib.hid hc
  clear O3 hs hc hlt hL hF hN Q2 S2 R2 B2 S1 R1 B1 S0 R0 B0 K1
  simp only [Act.put, List.setIfInBounds_toArray]
  go_wp2_with fail
  refine (KW.out A c w3 HC.out (HT.out.below B3.out) HS.out).mono ?_
  rintro e w4 ⟨rfl, b4⟩
  have R4 := Lib.hid (stay b4 R3.out)
  have B4 := Lib.hid (B3.out.trans (b4.mono B3.out.size))
  clear b4 HS R3 B3
  go_wp2_with fail
  refine (KO.out w4).mono ?_
  rintro e w5 ⟨rfl, b5⟩
  have R5 := stay b5 R4.out
  have B5 := Lib.hid (B4.out.trans (b5.mono B4.out.size))
  clear b5 R4 B4
  go_wp2_with (first | (refine wpList_store_row rfl 23 _ _ rfl _ zA (aa V) rfl rfl R5 (infoArrA _) rfl (arr_one _ _ _) ?_))
  refine bodyPost_ret (v := .agg (aa V)) (results_cell_row rfl _ _ _ 23 (aa V) (0, 0) _ rfl (blk_row R5) Tryd.underlying23 rfl (infoArrA _)) rfl ⟨rfl, below_setRow B5.out (by omega) _⟩
theorem create_walk (f : Nat → Nat) (nn : Nat) (w : World) (hf : ∀ i, i < 20 → f i < 256) (hn : nn < B) (hT : Tab w) :
    Calls Tryd.prog 12 #[.agg (aa f), .int .u64 (nn : Int)] w fun e w' => e = .returned (.agg (aa (ad1 f nn))) ∧ Below w.heap.size w w' := by
  have hm : (wrs (fo2 f nn)).length ≤ maxLen := Nat.le_trans (fo2_len f hn) (by decide)
  have h := create_core f nn (wrs (fo2 f nn)) _ _ w (Lib.hid rfl) (Lib.hid rfl) (Lib.hid rfl) _ _ (Lib.hid fun A c w hc hT hs => word_walk A _ c (lf (wrs (fo2 f nn))) w hm hc hT hs) (Lib.hid fun w => aof_walk _ w) (lf_small (fo2_lt f hn hf)) hf hn hT
  rwa [show (aa fun i => dig (kw (lf (wrs (fo2 f nn))) (wrs (fo2 f nn)).length) (19 - i)) = aa (ad1 f nn) from aa_congr fun i hi => kw_dig _ _ hi] at h
end Go.Proofs.YtmcbaolecmkpdaaDoor
/- The address of a contract by a nonce: the document's function; the statement AddrCreates at every address and nonce. -/
namespace Go.Proofs.YtmcbaolecmkpdaaDoor
open Go.RowKit SmWord
set_option maxRecDepth 100000

theorem wd_low {n : Nat} (hn : n < B) : wd n = .agg #[.int .u64 (n : Int), .int .u64 0, .int .u64 0, .int .u64 0] := by
  have := wd_num (a := n) (b := 0) (c := 0) (d := 0) hn (by decide) (by decide) (by decide)
  simpa [num] using this
/-- The bytes of a list of an account and a nonce. -/
def ins (f : Nat → Nat) (n : Nat) : List Nat := [148] ++ bf f 0 20 ++ (if nbl n = 1 ∧ nf n 0 < 128 then bf (nf n) 0 (nbl n) else [128 + nbl n] ++ bf (nf n) 0 (nbl n))
theorem bdig_bf (n : Nat) : bf (nf n) 0 (nbl n) = bdig (nbl n) n := by
  have := bf_list (bdig (nbl n) n)
  rwa [bdig_length] at this
theorem ins_len (f : Nat → Nat) {n : Nat} (hn : n < B) : (ins f n).length ≤ 30 := by
  have := nbl_8 hn
  unfold ins
  split <;> simp [bf_length] <;> omega
theorem wrs_ins (f : Nat → Nat) {n : Nat} (hn : n < B) : wrs (fo2 f n) = [192 + (ins f n).length] ++ ins f n := by
  have h8 := nbl_8 hn
  have h30 := ins_len f hn
  have hk : wrs (.st (bf f 0 20) (.st (bdig (nbl n) n) .no)) = ins f n := by
    unfold ins
    rw [bdig_bf]
    simp only [wrs, ws, bf_length, bdig_length, List.append_nil]
    rw [if_neg (by omega)]
    have e1 : hea 20 0 = [148] := by simp [hea]
    have e2 : hea (nbl n) 0 = [128 + nbl n] := by simp [hea]; omega
    rw [e1, e2]
    rfl
  unfold fo2
  rw [wrs, hk]
  simp only [wrs, List.append_nil]
  have : hea (ins f n).length 64 = [192 + (ins f n).length] := by simp [hea]; omega
  rw [this]
theorem own_oneI (w : World) {base : Nat} (u : Int) (hb : base ≤ w.heap.size) : (w.alloc (.cells #[Value.int .u8 u] 5)).ownsRow base 5 1 (.slice (some ⟨w.heap.size, 0, none⟩) 1 1) 1 [Value.int .u8 u] :=
  ⟨rfl, .inr ⟨w.heap.size, 1, #[Value.int .u8 u], rfl, hb, heap_alloc_new _ _, Nat.le_refl _, by decide, rfl, rfl⟩⟩
theorem lb8_plus (x y : Nat) (l : List Nat) : [Value.int .u8 ((x : Int) + (y : Int))] ++ lb8 l = lb8 ([x + y] ++ l) := by simp [lb8]
set_option maxHeartbeats 2000000 in
theorem rcreate_core (f F V : Nat → Nat) (nn k N M : Nat) (I L : List Nat) (w : World) (hI : I.length = N) (hN : N ≤ 30) (hM : 1 + N = M) (hLM : L.length = M) (hL : Hid ([192 + N] ++ I = L)) (hF : Hid (lf L = F)) (hIl : ∀ i, i < I.length → lf I i < 256) (hLl : ∀ i, i < L.length → lf L i < 256)
    (hIA : k = 1 → nf nn 0 < 128 → N = 22 ∧ [148] ++ bf f 0 20 ++ [nf nn 0] = I) (hIB : ¬ (k = 1 ∧ nf nn 0 < 128) → N = 22 + k ∧ [148] ++ bf f 0 20 ++ [128 + k] ++ bf (nf nn) 0 k = I) (hf : ∀ i, i < 20 → f i < 256) (hn : nn < B) (hk : Hid (nbl nn = k)) (hk8 : k ≤ 8)
    (KV : Hid (∀ (A : Option Addr) (c : Nat) (w : World), (A = none → M = 0 ∧ c = 0) → Sl w A M F → Calls Tryd.prog 32 #[.slice A M c] w fun e w' => e = .returned (.agg (ha V)) ∧ Below w.heap.size w w')) :
    Calls Tryd.prog 13 #[.agg (aa f), .int .u64 (nn : Int)] w fun e w' => e = .returned (.agg (aa fun i => V (12 + i))) ∧ Below w.heap.size w w' := by
  have HF := Lib.hid hf
  clear hf
  have hn' : nn < 18446744073709551616 := hn
  have K1 := Lib.hid fun w => rnumber_walk nn w (Nat.lt_trans hn (by decide))
  rw [wd_low hn, hk.out] at K1
  have g0 : ((w.alloc (.cells (aa f) 23)).alloc (.cells zA 23)).heap[w.heap.size]? = some (.cells (aa f) 23) := blk_alloc (heap_alloc_new _ _)
  have g1 : ((w.alloc (.cells (aa f) 23)).alloc (.cells zA 23)).heap[w.heap.size + 1]? = some (.cells zA 23) := heap_alloc2_new _ _ _
  have bW : Below w.heap.size w ((w.alloc (.cells (aa f) 23)).alloc (.cells zA 23)) := ((Below.refl _ _).alloc (Nat.le_refl _) _).alloc (by simp) _
  have hsz : w.heap.size + 2 ≤ ((w.alloc (.cells (aa f) 23)).alloc (.cells zA 23)).heap.size := by simp
  go_enter Tryd.func13, Tryd.ntmps13
  go_wp2_with (first | (refine wpList_alloc_row rfl 23 rfl zA zA_run ?_))
  generalize ((w.alloc (.cells (aa f) 23)).alloc (.cells zA 23)) = W at *
  refine (K1.out _).mono ?_
  rintro e w1 ⟨⟨v, rfl, ho⟩, b1⟩
  obtain ⟨A1, c1, rfl, hc1, hA1, hs1⟩ := own_sl ho (by rw [← hk.out]; exact nf_lt nn)
  have G0 := stay b1 g0
  have G1 := stay b1 g1
  have HB := bW.trans (b1.mono bW.size)
  have hz1 := Nat.le_trans hsz b1.size
  clear g0 g1 bW b1 hsz ho K1
  have o0 : (w1.alloc (.cells #[Value.int .u8 148] 5)).ownsRow w1.heap.size 5 1 (.slice (some ⟨w1.heap.size, 0, none⟩) 1 1) 1 (lb8 [148]) := own_one w1 148 (Nat.le_refl _)
  have b0 : Below w1.heap.size w1 (w1.alloc (.cells #[Value.int .u8 148] 5)) := (Below.refl _ _).alloc (Nat.le_refl _) _
  have O0 := Lib.hid o0
  have B0 := Lib.hid b0
  have z0 : w1.heap.size ≤ (w1.alloc (.cells #[Value.int .u8 148] 5)).heap.size := b0.size
  clear o0 b0
  go_upto_region 3 with fail
  generalize w1.alloc (.cells #[Value.int .u8 148] 5) = X0 at *
  have s0 := (aa_sl G0 HF.out).below B0.out
  go_upto_region 4 with (at_builtin; refine append_sl rfl _ _ rfl w1.heap.size _ _ _ rfl O0.out _ 20 20 f rfl (fun h => by cases h) s0 (by decide) z0 ?_; intro v1 X1 o1 g1)
  have b1' : Below w1.heap.size w1 X1 := B0.out.grown g1 z0 (fun b hb' => (O0.out.lt b hb').1)
  obtain ⟨A2, c2, rfl⟩ := own_val o1
  rw [bb_lb8, ← lb8_app] at o1
  have O1 := Lib.hid o1
  have B1 := Lib.hid b1'
  have z1 : w1.heap.size ≤ X1.heap.size := b1'.size
  have N1 := hs1.below b1'
  clear o1 g1 b1' s0 z0 O0 B0
  by_cases h1 : k = 1
  · subst h1
    obtain ⟨q, o, rfl, _, hc⟩ := N1.cells (by decide)
    have c0 := hc 0 (by decide)
    have x8 := N1.small 0 (by decide)
    rw [Nat.add_zero] at c0
    have HS := Lib.hid N1
    clear hc N1
    obtain ⟨x, hx⟩ : ∃ x, nf nn 0 = x := ⟨_, rfl⟩
    rw [hx] at c0 x8 hIA hIB
    by_cases hlt : x < 128
    · obtain ⟨hN2, hI2⟩ := hIA rfl hlt
      have p0 := Lib.hid (O1.out.alloc (.cells #[Value.int .u8 (x : Int)] 5))
      have bp0 : Below w1.heap.size w1 (X1.alloc (.cells #[Value.int .u8 (x : Int)] 5)) := B1.out.alloc z1 _
      have zp0 := bp0.size
      clear hIA hIB
      go_upto_region 8 with (at_builtin; refine append_one rfl _ _ rfl w1.heap.size _ _ _ rfl p0.out ⟨X1.heap.size, 0, none⟩ (x : Int) rfl (cell_one_new _ _ _) (by decide) zp0 ?_; intro vn Xn on gn)
      have bn : Below w1.heap.size w1 Xn := bp0.grown gn zp0 (fun b hb' => (p0.out.lt b hb').1)
      rw [show lb8 ([148] ++ bf f 0 20) ++ [Value.int .u8 (x : Int)] = lb8 I by rw [← hI2, lb8_app]; rfl, show 1 + 20 + 1 = N from hN2.symm] at on
      obtain ⟨An, cn, rfl⟩ := own_val on
      clear gn bp0 zp0 p0 O1 B1 z1 c0 HS hN2 hI2
      have On := Lib.hid on
      have Bn := Lib.hid bn
      have zn : w1.heap.size ≤ Xn.heap.size := bn.size
      obtain ⟨An', cn', en, hcn, hAn, hsn⟩ := own_list (by rw [hI]; exact on) hIl
      rw [hI] at en hsn hAn
      cases en
      clear on bn
      have y0 := own_oneI Xn (base := w1.heap.size) (192 + (N : Int)) zn
      have by0 : Below Xn.heap.size Xn (Xn.alloc (.cells #[Value.int .u8 (192 + (N : Int))] 5)) := (Below.refl _ _).alloc (Nat.le_refl _) _
      have bz0 : Below w1.heap.size w1 (Xn.alloc (.cells #[Value.int .u8 (192 + (N : Int))] 5)) := Bn.out.trans (by0.mono zn)
      have sy := hsn.below by0
      have zy := bz0.size
      have Y0 := Lib.hid y0
      have BZ := Lib.hid bz0
      have HA := Lib.hid hAn
      clear y0 by0 bz0 hsn On Bn zn hcn hAn
      go_upto_region 9 with fail
      generalize Xn.alloc (.cells #[Value.int .u8 (192 + (N : Int))] 5) = Z0 at *
      go_upto_region 10 with (at_builtin; refine append_sl rfl _ _ rfl w1.heap.size _ _ _ rfl Y0.out _ N _ (lf I) rfl HA.out sy (by omega) zy ?_; intro vz Z1 oz gz)
      have bz : Below w1.heap.size w1 Z1 := BZ.out.grown gz zy (fun b hb' => (Y0.out.lt b hb').1)
      rw [show bb (lf I) N = lb8 I by rw [← hI, lb8_bb]; rfl, show [Value.int .u8 (192 + (N : Int))] ++ lb8 I = lb8 L from (lb8_plus 192 N I).trans (by rw [hL.out]), hM, ← hLM] at oz
      obtain ⟨Az, cz, rfl, _, hAz, hsz⟩ := own_list oz hLl
      rw [hLM] at hAz hsz ⊢
      rw [hF.out] at hsz
      have HAz := Lib.hid hAz
      have HSz := Lib.hid hsz
      have R1 := Lib.hid (stay bz G1)
      have B1' := Lib.hid (HB.trans (bz.mono HB.size))
      clear oz gz bz hAz hsz sy zy Y0 BZ HA G0 G1 HB
      go_wp2_with fail
      refine (KV.out Az cz Z1 HAz.out HSz.out).mono ?_
      rintro e Z2 ⟨rfl, b4⟩
      have R2 := Lib.hid (stay b4 R1.out)
      have B2' := Lib.hid (B1'.out.trans (b4.mono B1'.out.size))
      clear b4 HSz HAz B1' R1
      go_wp2_with fail
      refine (last_walk V Z2).mono ?_
      rintro e Z3 ⟨rfl, b5⟩
      have R3 := stay b5 R2.out
      have B3' := Lib.hid (B2'.out.trans (b5.mono B2'.out.size))
      clear b5 B2' R2
      go_wp2_with (first | (refine wpList_store_row rfl 23 _ _ rfl _ zA (aa fun i => V (12 + i)) rfl rfl R3 (infoArrA _) rfl (arr_one _ _ _) ?_))
      refine bodyPost_ret (v := .agg (aa fun i => V (12 + i))) (results_cell_row rfl _ _ _ 23 (aa fun i => V (12 + i)) (0, 0) _ rfl (blk_row R3) Tryd.underlying23 rfl (infoArrA _)) rfl ⟨rfl, below_setRow B3'.out (by omega) _⟩
    · obtain ⟨hN2, hI2⟩ := hIB (fun h => hlt h.2)
      clear hIA hIB hx
      have p0 := Lib.hid (O1.out.alloc (.cells #[Value.int .u8 129] 5))
      have bp0 : Below w1.heap.size w1 (X1.alloc (.cells #[Value.int .u8 129] 5)) := B1.out.alloc z1 _
      have zp0 := bp0.size
      go_upto_region 7 with (at_builtin; refine append_one rfl _ _ rfl w1.heap.size _ _ _ rfl p0.out ⟨X1.heap.size, 0, none⟩ 129 rfl (cell_one_new _ _ _) (by decide) zp0 ?_; intro vm Xm om gm)
      have bm : Below w1.heap.size w1 Xm := bp0.grown gm zp0 (fun b hb' => (p0.out.lt b hb').1)
      have sm := hs1.below bm
      obtain ⟨Am, cm, rfl⟩ := own_val om
      have OM := Lib.hid om
      have BM := Lib.hid bm
      have zm := bm.size
      clear om gm bm bp0 zp0 p0 O1 B1 z1 c0 HS
      go_upto_region 8 with (at_builtin; refine append_sl rfl _ _ rfl w1.heap.size _ _ _ rfl OM.out _ 1 c1 (nf nn) rfl (fun h => by cases h) sm (by omega) zm ?_; intro vn Xn on gn)
      have bn : Below w1.heap.size w1 Xn := BM.out.grown gn zm (fun b hb' => (OM.out.lt b hb').1)
      rw [bb_lb8, show lb8 ([148] ++ bf f 0 20) ++ [Value.int .u8 129] ++ lb8 (bf (nf nn) 0 1) = lb8 I by rw [← hI2, lb8_app, lb8_app]; rfl, show 1 + 20 + 1 + 1 = N by omega] at on
      obtain ⟨An, cn, rfl⟩ := own_val on
      clear gn zm OM BM sm hN2 hI2
      have On := Lib.hid on
      have Bn := Lib.hid bn
      have zn : w1.heap.size ≤ Xn.heap.size := bn.size
      obtain ⟨An', cn', en, hcn, hAn, hsn⟩ := own_list (by rw [hI]; exact on) hIl
      rw [hI] at en hsn hAn
      cases en
      clear on bn
      have y0 := own_oneI Xn (base := w1.heap.size) (192 + (N : Int)) zn
      have by0 : Below Xn.heap.size Xn (Xn.alloc (.cells #[Value.int .u8 (192 + (N : Int))] 5)) := (Below.refl _ _).alloc (Nat.le_refl _) _
      have bz0 : Below w1.heap.size w1 (Xn.alloc (.cells #[Value.int .u8 (192 + (N : Int))] 5)) := Bn.out.trans (by0.mono zn)
      have sy := hsn.below by0
      have zy := bz0.size
      have Y0 := Lib.hid y0
      have BZ := Lib.hid bz0
      have HA := Lib.hid hAn
      clear y0 by0 bz0 hsn On Bn zn hcn hAn
      go_upto_region 9 with fail
      generalize Xn.alloc (.cells #[Value.int .u8 (192 + (N : Int))] 5) = Z0 at *
      go_upto_region 10 with (at_builtin; refine append_sl rfl _ _ rfl w1.heap.size _ _ _ rfl Y0.out _ N _ (lf I) rfl HA.out sy (by omega) zy ?_; intro vz Z1 oz gz)
      have bz : Below w1.heap.size w1 Z1 := BZ.out.grown gz zy (fun b hb' => (Y0.out.lt b hb').1)
      rw [show bb (lf I) N = lb8 I by rw [← hI, lb8_bb]; rfl, show [Value.int .u8 (192 + (N : Int))] ++ lb8 I = lb8 L from (lb8_plus 192 N I).trans (by rw [hL.out]), hM, ← hLM] at oz
      obtain ⟨Az, cz, rfl, _, hAz, hsz⟩ := own_list oz hLl
      rw [hLM] at hAz hsz ⊢
      rw [hF.out] at hsz
      have HAz := Lib.hid hAz
      have HSz := Lib.hid hsz
      have R1 := Lib.hid (stay bz G1)
      have B1' := Lib.hid (HB.trans (bz.mono HB.size))
      clear oz gz bz hAz hsz sy zy Y0 BZ HA G0 G1 HB
      go_wp2_with fail
      refine (KV.out Az cz Z1 HAz.out HSz.out).mono ?_
      rintro e Z2 ⟨rfl, b4⟩
      have R2 := Lib.hid (stay b4 R1.out)
      have B2' := Lib.hid (B1'.out.trans (b4.mono B1'.out.size))
      clear b4 HSz HAz B1' R1
      go_wp2_with fail
      refine (last_walk V Z2).mono ?_
      rintro e Z3 ⟨rfl, b5⟩
      have R3 := stay b5 R2.out
      have B3' := Lib.hid (B2'.out.trans (b5.mono B2'.out.size))
      clear b5 B2' R2
      go_wp2_with (first | (refine wpList_store_row rfl 23 _ _ rfl _ zA (aa fun i => V (12 + i)) rfl rfl R3 (infoArrA _) rfl (arr_one _ _ _) ?_))
      refine bodyPost_ret (v := .agg (aa fun i => V (12 + i))) (results_cell_row rfl _ _ _ 23 (aa fun i => V (12 + i)) (0, 0) _ rfl (blk_row R3) Tryd.underlying23 rfl (infoArrA _)) rfl ⟨rfl, below_setRow B3'.out (by omega) _⟩
  · obtain ⟨hN2, hI2⟩ := hIB (fun h => h1 h.1)
    have d1 : decide ((k : Int) = 1) = false := decide_eq_false (by omega)
    clear hIA hIB N1
    have p0 := Lib.hid (O1.out.alloc (.cells #[Value.int .u8 (128 + (k : Int))] 5))
    have bp0 : Below w1.heap.size w1 (X1.alloc (.cells #[Value.int .u8 (128 + (k : Int))] 5)) := B1.out.alloc z1 _
    have zp0 := bp0.size
    go_upto_region 7 with (at_builtin; refine append_one rfl _ _ rfl w1.heap.size _ _ _ rfl p0.out ⟨X1.heap.size, 0, none⟩ (128 + (k : Int)) rfl (cell_one_new _ _ _) (by decide) zp0 ?_; intro vm Xm om gm)
    have bm : Below w1.heap.size w1 Xm := bp0.grown gm zp0 (fun b hb' => (p0.out.lt b hb').1)
    have sm := hs1.below bm
    obtain ⟨Am, cm, rfl⟩ := own_val om
    have OM := Lib.hid om
    have BM := Lib.hid bm
    have zm := bm.size
    clear om gm bm bp0 zp0 p0 O1 B1 z1 
    go_upto_region 8 with (at_builtin; refine append_sl rfl _ _ rfl w1.heap.size _ _ _ rfl OM.out A1 k c1 (nf nn) rfl hA1 sm (by omega) zm ?_; intro vn Xn on gn)
    have bn : Below w1.heap.size w1 Xn := BM.out.grown gn zm (fun b hb' => (OM.out.lt b hb').1)
    rw [bb_lb8, show lb8 ([148] ++ bf f 0 20) ++ [Value.int .u8 (128 + (k : Int))] ++ lb8 (bf (nf nn) 0 k) = lb8 I by rw [← hI2, lb8_app, lb8_app]; simp [lb8], show 1 + 20 + 1 + k = N by omega] at on
    obtain ⟨An, cn, rfl⟩ := own_val on
    clear gn zm OM BM sm hN2 hI2
    have On := Lib.hid on
    have Bn := Lib.hid bn
    have zn : w1.heap.size ≤ Xn.heap.size := bn.size
    obtain ⟨An', cn', en, hcn, hAn, hsn⟩ := own_list (by rw [hI]; exact on) hIl
    rw [hI] at en hsn hAn
    cases en
    clear on bn
    have y0 := own_oneI Xn (base := w1.heap.size) (192 + (N : Int)) zn
    have by0 : Below Xn.heap.size Xn (Xn.alloc (.cells #[Value.int .u8 (192 + (N : Int))] 5)) := (Below.refl _ _).alloc (Nat.le_refl _) _
    have bz0 : Below w1.heap.size w1 (Xn.alloc (.cells #[Value.int .u8 (192 + (N : Int))] 5)) := Bn.out.trans (by0.mono zn)
    have sy := hsn.below by0
    have zy := bz0.size
    have Y0 := Lib.hid y0
    have BZ := Lib.hid bz0
    have HA := Lib.hid hAn
    clear y0 by0 bz0 hsn On Bn zn hcn hAn
    go_upto_region 9 with fail
    generalize Xn.alloc (.cells #[Value.int .u8 (192 + (N : Int))] 5) = Z0 at *
    go_upto_region 10 with (at_builtin; refine append_sl rfl _ _ rfl w1.heap.size _ _ _ rfl Y0.out _ N _ (lf I) rfl HA.out sy (by omega) zy ?_; intro vz Z1 oz gz)
    have bz : Below w1.heap.size w1 Z1 := BZ.out.grown gz zy (fun b hb' => (Y0.out.lt b hb').1)
    rw [show bb (lf I) N = lb8 I by rw [← hI, lb8_bb]; rfl, show [Value.int .u8 (192 + (N : Int))] ++ lb8 I = lb8 L from (lb8_plus 192 N I).trans (by rw [hL.out]), hM, ← hLM] at oz
    obtain ⟨Az, cz, rfl, _, hAz, hsz⟩ := own_list oz hLl
    rw [hLM] at hAz hsz ⊢
    rw [hF.out] at hsz
    have HAz := Lib.hid hAz
    have HSz := Lib.hid hsz
    have R1 := Lib.hid (stay bz G1)
    have B1' := Lib.hid (HB.trans (bz.mono HB.size))
    clear oz gz bz hAz hsz sy zy Y0 BZ HA G0 G1 HB
    go_wp2_with fail
    refine (KV.out Az cz Z1 HAz.out HSz.out).mono ?_
    rintro e Z2 ⟨rfl, b4⟩
    have R2 := Lib.hid (stay b4 R1.out)
    have B2' := Lib.hid (B1'.out.trans (b4.mono B1'.out.size))
    clear b4 HSz HAz B1' R1
    go_wp2_with fail
    refine (last_walk V Z2).mono ?_
    rintro e Z3 ⟨rfl, b5⟩
    have R3 := stay b5 R2.out
    have B3' := Lib.hid (B2'.out.trans (b5.mono B2'.out.size))
    clear b5 B2' R2
    go_wp2_with (first | (refine wpList_store_row rfl 23 _ _ rfl _ zA (aa fun i => V (12 + i)) rfl rfl R3 (infoArrA _) rfl (arr_one _ _ _) ?_))
    refine bodyPost_ret (v := .agg (aa fun i => V (12 + i))) (results_cell_row rfl _ _ _ 23 (aa fun i => V (12 + i)) (0, 0) _ rfl (blk_row R3) Tryd.underlying23 rfl (infoArrA _)) rfl ⟨rfl, below_setRow B3'.out (by omega) _⟩
theorem ins_lt (f : Nat → Nat) {n : Nat} (hn : n < B) (hf : ∀ i, i < 20 → f i < 256) : ∀ i, i < (ins f n).length → lf (ins f n) i < 256 := lf_small fun y hy => fo2_lt f hn hf y (by rw [wrs_ins f hn]; exact List.mem_append_right _ hy)
theorem rcreate_walk (f : Nat → Nat) (nn : Nat) (w : World) (hf : ∀ i, i < 20 → f i < 256) (hn : nn < B) :
    Calls Tryd.prog 13 #[.agg (aa f), .int .u64 (nn : Int)] w fun e w' => e = .returned (.agg (aa (ad1 f nn))) ∧ Below w.heap.size w w' := by
  have hl : (wrs (fo2 f nn)).length = 1 + (ins f nn).length := by rw [wrs_ins f hn]; simp; omega
  have h30 := ins_len f hn
  have h := rcreate_core f (lf (wrs (fo2 f nn))) (kk (lf (wrs (fo2 f nn))) (1 + (ins f nn).length)) nn (nbl nn) (ins f nn).length (1 + (ins f nn).length) (ins f nn) (wrs (fo2 f nn)) w rfl h30 rfl hl (Lib.hid (wrs_ins f hn).symm) (Lib.hid rfl) (ins_lt f hn hf) (lf_small (fo2_lt f hn hf))
    (fun h1 h2 => ⟨by unfold ins; rw [if_pos ⟨h1, h2⟩]; simp [bf_length, h1], by unfold ins; rw [if_pos ⟨h1, h2⟩, h1]; rfl⟩) (fun h => ⟨by unfold ins; rw [if_neg h]; simp [bf_length]; omega, by unfold ins; rw [if_neg h]; simp⟩) hf hn (Lib.hid rfl) (nbl_8 hn)
    (Lib.hid fun A c w hA hs => rsum_walk A _ c _ w (by omega) hA hs)
  rwa [show (aa fun i => kk (lf (wrs (fo2 f nn))) (1 + (ins f nn).length) (12 + i)) = aa (ad1 f nn) from aa_congr fun i _ => by unfold ad1; rw [hl]] at h
set_option maxHeartbeats 1000000 in
theorem creates_core (f X : Nat → Nat) (nn : Nat) (w : World) (hn : nn < B) (hT : Tab w)
    (H1 : Hid (∀ w : World, Tab w → Calls Tryd.prog 12 #[.agg (aa f), .int .u64 (nn : Int)] w fun e w' => e = .returned (.agg (aa X)) ∧ Below w.heap.size w w'))
    (H2 : Hid (∀ w : World, Calls Tryd.prog 13 #[.agg (aa f), .int .u64 (nn : Int)] w fun e w' => e = .returned (.agg (aa X)) ∧ Below w.heap.size w w')) :
    Calls Tryd.prog 4 #[.agg (aa f), .int .u64 (nn : Int)] w fun e w' => e = .returned (.bool true) ∧ Below w.heap.size w w' := by
  have hn' : nn < 18446744073709551616 := hn
  have HT := Lib.hid hT
  have e2 := fun w => equal_aa X w
  have q1 := Tryd.guardA
  clear hT hn
  have f0 : (w.alloc (.cells (aa f) 23)).heap[w.heap.size]? = some (.cells (aa f) 23) := heap_alloc_new _ _
  have bW : Below w.heap.size w (w.alloc (.cells (aa f) 23)) := (Below.refl _ _).alloc (Nat.le_refl _) _
  go_enter Tryd.func4, Tryd.ntmps4
  go_wp2_with fail
  generalize w.alloc (.cells (aa f) 23) = W at *
  replace HT := Lib.hid (HT.out.below bW)
  have HB := Lib.hid bW
  clear bW
  refine region_ext (by kernel_rfl) (by kernel_rfl) ?_
  repeat (first | (go_big_quiet_want; refine quiet_load_row 23 _ rfl (w.heap.size) (aa f) rfl (fun w2 hw2 => by obtain ⟨g, rfl⟩ := hw2; exact g.block f0) Tryd.underlying23 (infoArrA _) ?_; simp only [Act.put, List.setIfInBounds_toArray, List.set_cons_succ, List.set_cons_zero]; go_big_quiet_on) | go_big_quiet_step (first | (go_at_call 7; exact calls_ext (afixed_walk _ (HT.out.below (Ext.below _)))) | (go_at_call 12; exact calls_ext (H1.out _ (HT.out.below (Ext.below _)))) | (go_at_call 13; exact calls_ext (H2.out _))))
  refine wpQuiet_nil ?_
  rintro _ ⟨g, rfl⟩
  go_wp2_with fail
  go_ret
  exact ⟨rfl, HB.out.trans (g.below.mono HB.out.size)⟩
theorem creates_walk (f : Nat → Nat) (nn : Nat) (w : World) (hf : ∀ i, i < 20 → f i < 256) (hn : nn < B) (hT : Tab w) :
    Calls Tryd.prog 4 #[.agg (aa f), .int .u64 (nn : Int)] w fun e w' => e = .returned (.bool true) ∧ Below w.heap.size w w' :=
  creates_core f (ad1 f nn) nn w hn hT (Lib.hid fun w hT => create_walk f nn w hf hn hT) (Lib.hid fun w => rcreate_walk f nn w hf hn)
end Go.Proofs.YtmcbaolecmkpdaaDoor
