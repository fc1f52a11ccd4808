/- The statement on destinations: its walk. -/
import Derived.Test.YtokompkkbnbinaaDoorGa
import Derived.Test.YtokompkkbnbinaaDoorG9
import Derived.Test.YtokompkkbnbinaaDoorG7
namespace Go.Proofs.YtokompkkbnbinaaDoor
open Go.RowKit SmWord
set_option maxRecDepth 100000
set_option maxHeartbeats 1000000 in
theorem destslaw_far (A : Option Addr) (n c m : Nat) (w : World) (hn : 3000 < n) (hn2 : n ≤ maxLen) : Calls Tryd.prog 4 #[.slice A n c, wd m] w fun e w' => e = .returned (.bool true) ∧ Below w.heap.size w w' := by
  have hz := wa_size
  have fo := fold_wa
  have hn3 : n ≤ 9223372036854775807 := hn2
  go_enter Tryd.func4, Tryd.ntmps4
  go_wp2_with (go_at_call 8; refine (fixed_walk _).mono ?_; rintro e w3 ⟨rfl, hb3⟩)
  go_ret
  exact ⟨rfl, ((Below.refl _ _).alloc (Nat.le_refl _) _).trans (hb3.mono (by simp))⟩
theorem take_next {D : List Nat} {k m : Nat} (hk : k < D.length) : decide (m ∈ D.take (k + 1)) = (decide (m ∈ D.take k) || decide (m = D.getD k 0)) := by
  have e : D.getD k 0 = D[k] := by simp [List.getD, hk]
  have : m ∈ D.take (k + 1) ↔ m ∈ D.take k ∨ m = D[k] := by rw [List.take_succ_eq_append_getElem hk, List.mem_append, List.mem_singleton]
  rw [e, decide_eq_decide.2 this, Bool.decide_or]
theorem word_cells {w : World} {b n : Nat} (h : w.heap[b]? = some (.cells (wa n) 31)) :
    w.cell? ⟨b, 0, none⟩ = some (.int .u64 ((l0 n : Nat) : Int)) ∧ w.cell? ⟨b, 1, none⟩ = some (.int .u64 ((l1 n : Nat) : Int)) ∧ w.cell? ⟨b, 2, none⟩ = some (.int .u64 ((l2 n : Nat) : Int)) ∧ w.cell? ⟨b, 3, none⟩ = some (.int .u64 ((l3 n : Nat) : Int)) :=
  ⟨blk_cell h rfl, blk_cell h rfl, blk_cell h rfl, blk_cell h rfl⟩
theorem wa_place {d : Nat} (hd : d < 18446744073709551616) : wa d = #[Value.int .u64 (d : Int), .int .u64 0, .int .u64 0, .int .u64 0] := by
  have e0 : l0 d = d := Nat.mod_eq_of_lt hd
  have e1 : d / B = 0 := Nat.div_eq_of_lt hd
  have e2 : l1 d = 0 := by unfold l1; rw [e1]; rfl
  have e3 : l2 d = 0 := by unfold l2; rw [e1]; rfl
  have e4 : l3 d = 0 := by unfold l3; rw [e1]; rfl
  rw [wa, e0, e2, e3, e4]
  rfl
theorem equal_wdd (m d : Nat) (w : World) (hm : m < M) (hd : d < 18446744073709551616) : (Op.equalIn 10000 31 (.agg (wa m)) (.agg #[.int .u64 (d : Int), .int .u64 0, .int .u64 0, .int .u64 0])).run Tryd.prog w = .ok (decide (m = d)) w := by
  rw [← wa_place hd, equal_wa, Nat.mod_eq_of_lt hm, Nat.mod_eq_of_lt (Nat.lt_trans hd (by decide))]
theorem own_empty8 (w : World) {base : Nat} (hb : base ≤ w.heap.size) : (w.alloc (.cells #[] 5)).ownsRow base 5 1 (.slice (some ⟨w.heap.size, 0, none⟩) 0 0) 0 [] :=
  ⟨rfl, .inr ⟨w.heap.size, 0, #[], rfl, hb, heap_alloc_new _ _, Nat.le_refl _, Nat.zero_le _, rfl, rfl⟩⟩
set_option maxHeartbeats 1000000 in
theorem destslaw_near (A : Option Addr) (n c m : Nat) (f : Nat → Nat) (w : World) (hn : n ≤ 3000) (hA : A = none → n = 0 ∧ c = 0) (hm : m < M) (hs : Sl w A n f) : Calls Tryd.prog 4 #[.slice A n c, wd m] w fun e w' => e = .returned (.bool true) ∧ Below w.heap.size w w' := by
  have hz := wa_size
  have fo := fold_wa
  have HM := Lib.hid hm
  have HS := Lib.hid hs
  have HA := Lib.hid hA
  have hl := ds_length_le f n
  obtain ⟨W1, hW1⟩ : ∃ W1, w.alloc (.cells (wa m) 31) = W1 := ⟨_, rfl⟩
  have hbx : W1.heap[w.heap.size]? = some (.cells (wa m) 31) := by rw [← hW1]; exact heap_alloc_new _ _
  have b1 : Below w.heap.size w W1 := by rw [← hW1]; exact (Below.refl _ _).alloc (Nat.le_refl _) _
  have hs1 : W1.heap.size = w.heap.size + 1 := by rw [← hW1]; simp
  have b2 : Below W1.heap.size W1 (W1.alloc (.cells #[] 5)) := (Below.refl _ _).alloc (Nat.le_refl _) _
  have o0 := own_empty8 W1 (Nat.le_refl W1.heap.size)
  have sl2 : Sl (W1.alloc (.cells #[] 5)) A n f := HS.out.below (b1.trans (b2.mono (by omega)))
  have HBX := Lib.hid hbx
  have HB1 := Lib.hid b1
  have HB2 := Lib.hid b2
  have HO0 := Lib.hid o0
  have HS2 := Lib.hid sl2
  have HZ1 := Lib.hid hs1
  clear hs hm hbx b1 b2 o0 sl2 hs1
  go_enter Tryd.func4, Tryd.ntmps4
  go_upto_region 3 with fail
  clear hW1
  go_wp2_with (at_builtin; refine append_sl rfl _ _ rfl W1.heap.size _ 0 [] rfl HO0.out A n c f rfl HA.out HS2.out ?c1 ?c2 ?_)
  case c1 => omega
  case c2 => simp
  intro v5 w4 hown hgrow
  obtain ⟨A5, c5, rfl, hc5, hA5, sl5⟩ := own_sl hown HS.out.small
  have bX : Below W1.heap.size W1 w4 := HB2.out.grown hgrow (by simp) (fun g hg => by simp [Value.ownBlock] at hg; omega)
  have HX := Lib.hid bX
  have HB4 := Lib.hid (HB1.out.trans (bX.mono HB1.out.size))
  have HBX4 := Lib.hid (stay bX HBX.out)
  have HS5 := Lib.hid sl5
  have HA5 := Lib.hid hA5
  clear hown hgrow bX sl5 hA5 HO0 HS2 HB2 HB1 HBX hA
  have KD := Lib.hid (dests_walk A5 n c5 f w4 (by omega) HS5.out)
  have KR := Lib.hid fun w' (hb : Below w.heap.size w w') => rdests_walk A n c f w' (by omega) (HS.out.below hb)
  go_wp2_with (first | (go_at_call 9; refine KD.out.mono ?_; rintro e w5 ⟨v6, rfl, ho6, hb5⟩; have HO6 := Lib.hid ho6; have HB5 := Lib.hid hb5; have HBW5 := Lib.hid (HB4.out.trans (hb5.mono HB4.out.size)); clear ho6 hb5) | (go_at_call 10; refine (KR.out _ HBW5.out).mono ?_; rintro e w6 ⟨v7, rfl, ho7, hb6⟩; obtain ⟨_, A6, c6, rfl, _, hA6, hcell6⟩ := own_int (own_below HO6.out hb6); obtain ⟨_, A7, c7, rfl, _, hA7, hcell7⟩ := own_int ho7; have HO7 := Lib.hid ho7; have HB6 := Lib.hid hb6; clear ho7 hb6) | (go_at_call 8; refine (fixed_walk _).mono ?_; rintro e w7 ⟨rfl, hb7⟩; have HB7 := Lib.hid hb7; clear hb7))
  have HBX7 := Lib.hid (stay HB7.out (stay HB6.out (stay HB5.out HBX4.out)))
  have HBW7 : Hid (Below w.heap.size w w7) := Lib.hid ((HBW5.out.trans (HB6.out.mono HBW5.out.size)).trans (HB7.out.mono (Nat.le_trans HBW5.out.size HB6.out.size)))
  have HS7 : Hid (Sl w7 A5 n f) := Lib.hid (((HS5.out.below HB5.out).below HB6.out).below HB7.out)
  have C6 := Lib.hid hcell6
  have C7 := Lib.hid hcell7
  have HL := Lib.hid (fun k (hk : k < (ds f n).length) => And.intro (ds_lt hk) (take_next (m := m) hk))
  clear hcell6 hcell7 hA6 hA7 KD KR HX HO6 HO7
  generalize hD : ds f n = D at *
  generalize hq : D.length = q at *
  have HD := Lib.hid hD
  have HQ := Lib.hid hq
  clear hD hq
  go_loopw [8, 32] (fun v i wr => ∃ k : Nat, k ≤ q ∧ i = .int .i64 (k : Int) ∧ v = .bool (decide (m ∈ D.take k)) ∧ Hid (Below w7.heap.size w7 wr)) (fun _ i _ => q - (intOf i).toNat)
  case atStart => exact ⟨0, Nat.zero_le _, rfl, by simp, Lib.hid (Below.refl _ _)⟩
  case round =>
    obtain ⟨k, hk, rfl, rfl, HB⟩ := hrel
    by_cases hlt : k < q
    · obtain ⟨b6, rfl, _, hb6, h6⟩ := C6.out (by omega)
      obtain ⟨b7, rfl, _, hb7, h7⟩ := C7.out (by omega)
      have e6 := (HB.out.cell (p := ⟨b6, k, none⟩) (Nat.lt_of_lt_of_le hb6 HB7.out.size)).trans ((HB7.out.cell (p := ⟨b6, k, none⟩) hb6).trans (h6 k hlt))
      have e7 := (HB.out.cell (p := ⟨b7, k, none⟩) (Nat.lt_of_lt_of_le hb7 HB7.out.size)).trans ((HB7.out.cell (p := ⟨b7, k, none⟩) hb7).trans (h7 k hlt))
      obtain ⟨hd1, hd2⟩ := HL.out k hlt
      have HD2 := Lib.hid hd2
      have HW := Lib.hid (stay HB.out HBX7.out)
      clear h6 h7 hd2 C6 C7 HL HD HQ
      generalize D.getD k 0 = d at *
      have d6 : wr.drew.cell? ⟨b6, k, none⟩ = some (.int .i64 (d : Int)) := e6
      have d7 : wr.drew.cell? ⟨b7, k, none⟩ = some (.int .i64 (d : Int)) := e7
      go_wp2_with fail
      go_region
      go_wp2_with fail
      clear d6 d7 e6
      have d7 : wr.drew.drew.cell? ⟨b7, k, none⟩ = some (.int .i64 (d : Int)) := e7
      have HWd : Hid (wr.drew.drew.heap[w.heap.size]? = some (.cells (wa m) 31)) := Lib.hid HW.out
      obtain ⟨x0, x1, x2, x3⟩ := word_cells HWd.out
      have hdu : IntKind.u64.wrap (d : Int) = (d : Int) := by rw [IntKind.wrap_u64]; omega
      have E := fun w : World => equal_wdd m d w HM.out (by omega)
      clear e7
      cases hT : decide (m ∈ D.take k) with
      | true =>
        rw [hT, Bool.true_or] at HD2
        go_region
        go_wp2_with fail
        exact ⟨⟨k + 1, by omega, by go_num, by rw [HD2.out], Lib.hid HB.out.drew.drew⟩, by simp only [intOf]; omega⟩
      | false =>
        rw [hT, Bool.false_or] at HD2
        go_region
        go_wp2_with fail
        exact ⟨⟨k + 1, by omega, by go_num, by rw [HD2.out], Lib.hid HB.out.drew.drew⟩, by simp only [intOf]; omega⟩
    · obtain rfl : k = q := by omega
      have hall : D.take k = D := List.take_of_length_le (by rw [HQ.out]; exact Nat.le_refl _)
      simp only [hall]
      clear hall
      have HWr := Lib.hid (stay HB.out HBX7.out)
      obtain ⟨x0, x1, x2, x3⟩ := word_cells HWr.out
      have HSr := Lib.hid (HS7.out.below HB.out)
      have HBr := Lib.hid (HBW7.out.trans (HB.out.mono HBW7.out.size))
      have KD := Lib.hid (dest_walk A5 n c5 m f wr (by omega) HM.out HSr.out)
      rw [HD.out] at KD
      clear C6 C7 HL
      generalize decide (m ∈ D) = dd at *
      go_wp2_with (go_at_call 11; refine KD.out.mono ?_; rintro e w8 ⟨rfl, hb8⟩; have cv1 := conv_sl (c := c5) (HSr.out.below hb8); have HB8 := Lib.hid (HBr.out.trans (hb8.mono HBr.out.size)); have cv2 := conv_sl (c := c) (HS.out.below HB8.out); clear hb8)
      go_ret
      exact ⟨rfl, HB8.out⟩
theorem destslaw_walk (A : Option Addr) (n c m : Nat) (f : Nat → Nat) (w : World) (hn : n ≤ maxLen) (hA : A = none → n = 0 ∧ c = 0) (hm : m < M) (hs : Sl w A n f) : Calls Tryd.prog 4 #[.slice A n c, wd m] w fun e w' => e = .returned (.bool true) ∧ Below w.heap.size w w' := by
  by_cases h : 3000 < n
  · exact destslaw_far A n c m w h hn
  · exact destslaw_near A n c m f w (by omega) hA hm hs
end Go.Proofs.YtokompkkbnbinaaDoor
/- The statement on pushes: its walk. -/
namespace Go.Proofs.YtokompkkbnbinaaDoor
open Go.RowKit SmWord
set_option maxRecDepth 100000
/-- A push of k bytes, and another code. -/
def pf (k : Nat) (f g : Nat → Nat) (i : Nat) : Nat := if i = 0 then 95 + k else if i < k + 1 then f (i - 1) else g (i - (k + 1))
theorem pf_behind (k : Nat) (f g : Nat → Nat) : (fun j => pf k f g (k + 1 + j)) = g := by
  funext j
  rw [pf, if_neg (by omega), if_neg (by omega), show k + 1 + j - (k + 1) = j by omega]
theorem pf_lt {k n : Nat} {f g : Nat → Nat} (hk : k ≤ 32) (hf : ∀ i, i < k → f i < 256) (hg : ∀ i, i < n → g i < 256) : ∀ i, i < k + 1 + n → pf k f g i < 256 := fun i hi => by
  unfold pf
  split
  · omega
  · split
    · exact hf _ (by omega)
    · exact hg _ (by omega)
theorem pf_row (k n : Nat) (f g : Nat → Nat) : [Value.int .u8 ((95 + k : Nat) : Int)] ++ bb f k ++ bb g n = bb (pf k f g) (k + 1 + n) := by
  apply List.ext_getElem?
  intro i
  by_cases h : i < k + 1 + n
  · rw [bb_get _ h, List.getElem?_append, List.getElem?_append]
    simp only [List.length_append, List.length_singleton, bb_length]
    unfold pf
    by_cases h0 : i = 0
    · subst h0
      simp
    · by_cases h1 : i < k + 1
      · rw [if_pos (by omega), if_neg (by omega), bb_get _ (by omega), if_neg h0, if_pos h1]
      · rw [if_neg (by omega), bb_get _ (by omega), if_neg h0, if_neg h1, Nat.add_comm 1 k]
  · rw [List.getElem?_eq_none (by simp [bb_length]; omega), List.getElem?_eq_none (by rw [bb_length]; omega)]
theorem own_push (w : World) {base : Nat} (u : Int) (hb : base ≤ w.heap.size) : (w.alloc (.cells #[Value.int .u8 u] 5)).ownsRow base 5 1 (.slice (some ⟨w.heap.size, 0, none⟩) 1 1) 1 [Value.int .u8 u] :=
  ⟨rfl, .inr ⟨w.heap.size, 1, #[Value.int .u8 u], rfl, hb, heap_alloc_new _ _, Nat.le_refl _, by decide, rfl, rfl⟩⟩
set_option maxHeartbeats 1000000 in
theorem wholelaw_fixed (x n1 c1 n2 c2 k : Nat) (A1 A2 : Option Addr) (w : World) (hx : x < 256) (h1 : n1 ≤ 9223372036854775807) (h2 : n2 ≤ 9223372036854775807) (hk : 1 + (x : Int) % 32 = (k : Int)) (hor : n1 < k ∨ 2000 < n2 ∨ 2000 < n1) :
    Calls Tryd.prog 5 #[.int .u8 (x : Int), .slice A1 n1 c1, .slice A2 n2 c2] w fun e w' => e = .returned (.bool true) ∧ Below w.heap.size w w' := by
  go_enter Tryd.func5, Tryd.ntmps5
  go_wp2_with (go_at_call 8; refine (fixed_walk _).mono ?_; rintro e w3 ⟨rfl, hb3⟩)
  all_goals
    go_ret
    exact ⟨rfl, hb3⟩
set_option maxHeartbeats 1000000 in
theorem wholelaw_main (x b1 o1 n1 c1 n2 c2 k p : Nat) (A2 : Option Addr) (f1 f2 : Nat → Nat) (w : World) (hx : x < 256) (h1 : n1 ≤ 2000) (hc1 : n1 ≤ c1) (h2 : n2 ≤ 2000) (hk : 1 + (x : Int) % 32 = (k : Int)) (hp : 95 + (k : Int) = (p : Int)) (hkn : k ≤ n1)
    (hA2 : A2 = none → n2 = 0 ∧ c2 = 0) (hs1 : Sl w (some ⟨b1, o1, none⟩) n1 f1) (hs2 : Sl w A2 n2 f2) :
    Calls Tryd.prog 5 #[.int .u8 (x : Int), .slice (some ⟨b1, o1, none⟩) n1 c1, .slice A2 n2 c2] w fun e w' => e = .returned (.bool true) ∧ Below w.heap.size w w' := by
  have hk1 : 1 ≤ k := by omega
  have hk2 : k ≤ 32 := by omega
  have hp2 : p < 256 := by omega
  have HA2 := Lib.hid hA2
  have HS1 : Hid (Sl w (some ⟨b1, o1, none⟩) k f1) := Lib.hid ⟨fun i hi => hs1.small i (by omega), fun h => by
    obtain ⟨b, o, e, hb, hc⟩ := hs1.cells (by omega)
    exact ⟨b, o, e, hb, fun i hi => hc i (by omega)⟩⟩
  have HS2 := Lib.hid hs2
  have B1 := Lib.hid (show Below w.heap.size w (w.alloc (.cells #[.int .u8 (p : Int)] 5)) from (Below.refl _ _).alloc (Nat.le_refl _) _)
  have HS1a := Lib.hid (HS1.out.below B1.out)
  have O1 := Lib.hid (own_push w (p : Int) (Nat.le_refl w.heap.size))
  clear hs1 hs2 hA2
  go_enter Tryd.func5, Tryd.ntmps5
  go_wp2_with (at_builtin; refine append_sl rfl _ _ rfl w.heap.size _ 1 _ rfl O1.out (some ⟨b1, o1, none⟩) k c1 f1 rfl (fun h => by cases h) HS1a.out ?c1 ?c2 ?_)
  case c1 => omega
  case c2 => simp
  intro v2 w2 hown2 hgrow2
  have bX2 : Below w.heap.size w w2 := B1.out.grown hgrow2 (by simp) (fun g hg => by simp [Value.ownBlock] at hg; omega)
  have B2 := Lib.hid bX2
  have O2 := Lib.hid hown2
  have HS2b := Lib.hid (HS2.out.below bX2)
  have hsz2 := bX2.size
  clear hown2 hgrow2 bX2 HS1a O1
  go_wp2_with (at_builtin; refine append_sl rfl _ _ rfl w.heap.size _ (1 + k) _ rfl O2.out A2 n2 c2 f2 rfl HA2.out HS2b.out ?c1 ?c2 ?_)
  case c1 => omega
  case c2 => omega
  intro v3 w3 hown3 hgrow3
  have hr := fun g hg => (O2.out.lt g hg).1
  have bX3 : Below w.heap.size w w3 := B2.out.grown hgrow3 (by omega) (fun g hg => by have := hr g hg; omega)
  have hpk : p = 95 + k := by omega
  have hrow := pf_row k n2 f1 f2
  rw [← hpk] at hrow
  obtain ⟨q, hq⟩ : ∃ q, k + 1 + n2 = q := ⟨_, rfl⟩
  have hown4 : w3.ownsRow w.heap.size 5 1 v3 q (bb (pf k f1 f2) q) := by
    rw [← hq, ← hrow, show k + 1 + n2 = 1 + k + n2 by omega]
    exact hown3
  obtain ⟨A3, c3, rfl, hc3, hA3, sl3⟩ := own_sl hown4 (by rw [← hq]; exact pf_lt hk2 HS1.out.small HS2.out.small)
  have hq2 : q ≤ 3000 := by omega
  have B3 := Lib.hid bX3
  have HS3 := Lib.hid sl3
  have hds := ds_push (f := pf k f1 f2) hk1 hk2 rfl n2
  rw [pf_behind, hq] at hds
  clear hq hown3 hgrow3 hown4 hrow hr bX3 sl3 hA3 hpk O2 HS2b
  have KD1 := Lib.hid fun w' (hb : Below w3.heap.size w3 w') => dests_walk A3 q c3 (pf k f1 f2) w' (by omega) (HS3.out.below hb)
  have KD2 := Lib.hid fun w' (hb : Below w.heap.size w w') => dests_walk A2 n2 c2 f2 w' (by omega) (HS2.out.below hb)
  have hl := ds_length_le f2 n2
  have hll : (ds (pf k f1 f2) q).length = (ds f2 n2).length := by rw [hds, List.length_map]
  rw [hll] at KD1
  have hgd : ∀ i, i < (ds f2 n2).length → (ds (pf k f1 f2) q).getD i 0 = k + 1 + (ds f2 n2).getD i 0 := fun i hi => by
    rw [hds]
    simp [List.getD, hi]
  have HG := Lib.hid hgd
  have HLT := Lib.hid fun i (hi : i < (ds f2 n2).length) => ds_lt hi
  clear hds hgd hll
  generalize ds (pf k f1 f2) q = E at *
  generalize ds f2 n2 = D at *
  go_wp2_with (first | (go_at_call_of 9 (Value.slice A3 q c3); refine (KD1.out _ (Below.refl _ _)).mono ?_; rintro e w4 ⟨v6, rfl, ho6, hb4⟩; have HO6 := Lib.hid ho6; have HB4 := Lib.hid hb4; have HBW4 := Lib.hid (B3.out.trans (hb4.mono B3.out.size)); clear ho6 hb4) | (go_at_call_of 9 (Value.slice A2 n2 c2); refine (KD2.out _ HBW4.out).mono ?_; rintro e w5 ⟨v7, rfl, ho7, hb5⟩; obtain ⟨_, A6, c6, rfl, _, hA6, hcell6⟩ := own_int (own_below HO6.out hb5); obtain ⟨_, A7, c7, rfl, _, hA7, hcell7⟩ := own_int ho7; have HB5 := Lib.hid hb5; clear ho7 hb5))
  have C6 := Lib.hid hcell6
  have C7 := Lib.hid hcell7
  have HBW5 := Lib.hid (HBW4.out.trans (HB5.out.mono HBW4.out.size))
  clear hcell6 hcell7 hA6 hA7 KD1 KD2 HO6
  generalize D.length = r at *
  go_loopw [52] (fun i wr => ∃ j : Nat, j ≤ r ∧ i = .int .i64 (j : Int) ∧ Hid (Below w5.heap.size w5 wr)) (fun i _ => r - (intOf i).toNat)
  case atStart => exact ⟨0, Nat.zero_le _, rfl, Lib.hid (Below.refl _ _)⟩
  case round =>
    obtain ⟨j, hj, rfl, HB⟩ := hrel
    by_cases hlt : j < r
    · obtain ⟨b6, rfl, _, hb6, h6⟩ := C6.out (by omega)
      obtain ⟨b7, rfl, _, hb7, h7⟩ := C7.out (by omega)
      have e6 := (HB.out.cell (p := ⟨b6, j, none⟩) hb6).trans (h6 j hlt)
      have e7 := (HB.out.cell (p := ⟨b7, j, none⟩) hb7).trans (h7 j hlt)
      have hed := HG.out j hlt
      have hd := HLT.out j hlt
      clear h6 h7 C6 C7 HG HLT
      generalize D.getD j 0 = d at *
      generalize E.getD j 0 = e at *
      have d6 : wr.drew.cell? ⟨b6, j, none⟩ = some (.int .i64 (e : Int)) := e6
      have d7 : wr.drew.cell? ⟨b7, j, none⟩ = some (.int .i64 (d : Int)) := e7
      obtain ⟨d1, hd1⟩ : ∃ d1, d + 1 = d1 := ⟨_, rfl⟩
      have w1 : IntKind.i64.wrap ((d : Int) + 1) = (d1 : Int) := by rw [IntKind.wrap_i64]; omega
      have w2 : IntKind.i64.wrap ((d1 : Int) + (k : Int)) = (e : Int) := by rw [IntKind.wrap_i64]; omega
      clear hed hd1 e6 e7
      go_wp2_with fail
      go_region
      go_wp2_with fail
      exact ⟨⟨j + 1, by omega, by go_num, Lib.hid HB.out.drew⟩, by simp only [intOf]; omega⟩
    · obtain rfl : j = r := by omega
      have HBr := Lib.hid (HBW5.out.trans (HB.out.mono HBW5.out.size))
      go_wp2_with (go_at_call 8; refine (fixed_walk _).mono ?_; rintro e w8 ⟨rfl, hb8⟩)
      go_ret
      exact ⟨rfl, HBr.out.trans (hb8.mono HBr.out.size)⟩
theorem wholelaw_walk (x n1 c1 n2 c2 : Nat) (A1 A2 : Option Addr) (f1 f2 : Nat → Nat) (w : World) (hx : x < 256) (h1 : n1 ≤ maxLen) (hc1 : n1 ≤ c1) (h2 : n2 ≤ maxLen) (hA2 : A2 = none → n2 = 0 ∧ c2 = 0) (hs1 : Sl w A1 n1 f1) (hs2 : Sl w A2 n2 f2) :
    Calls Tryd.prog 5 #[.int .u8 (x : Int), .slice A1 n1 c1, .slice A2 n2 c2] w fun e w' => e = .returned (.bool true) ∧ Below w.heap.size w w' := by
  by_cases h : n1 < 1 + x % 32 ∨ 2000 < n2 ∨ 2000 < n1
  · exact wholelaw_fixed x n1 c1 n2 c2 (1 + x % 32) A1 A2 w hx h1 h2 (by omega) h
  · obtain ⟨b, o, rfl, _, _⟩ := hs1.cells (by omega)
    exact wholelaw_main x b o n1 c1 n2 c2 (1 + x % 32) (96 + x % 32) A2 f1 f2 w hx (by omega) hc1 (by omega) (by omega) (by omega) (by omega) hA2 hs1 hs2
end Go.Proofs.YtokompkkbnbinaaDoor
