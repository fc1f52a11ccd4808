/- The statement on nested items: its walk. -/
import Derived.Test.YtfpeliolngfkpaaRli
namespace Go.Proofs.Ytfpeliolngfkpaa
open Go.RowKit SmWord
set_option maxRecDepth 100000

/-- The cells of a row of nodes whose bytes may lie anywhere. -/
def RowS (w : World) (cs : List Value) (l : List Nd) : Prop := cs.length = 3 * l.length ∧ ∀ (i : Nat) (x : Nd), l[i]? = some x →
  cs[3 * i]? = some (.bool x.ls) ∧ (∃ A k, cs[3 * i + 1]? = some (.slice A x.by'.length k) ∧ x.by'.length ≤ k ∧ x.by'.length ≤ maxLen ∧ (A = none → x.by'.length = 0 ∧ k = 0) ∧ Sl w A x.by'.length (fun i => x.by'.getD i 0)) ∧ cs[3 * i + 2]? = some (.int .i64 x.sz)
theorem RowS.below {w w' : World} {cs : List Value} {l : List Nd} (h : RowS w cs l) (hb : Below w.heap.size w w') : RowS w' cs l :=
  ⟨h.1, fun i x hx => by
    obtain ⟨h1, ⟨A, k, h2, h3, h4, h5, h6⟩, h7⟩ := h.2 i x hx
    exact ⟨h1, ⟨A, k, h2, h3, h4, h5, h6.below hb⟩, h7⟩⟩
theorem RowS.snoc {w : World} {cs : List Value} {l : List Nd} (h : RowS w cs l) (x : Nd) (A : Option Addr) (k : Nat) (h3 : x.by'.length ≤ k) (h4 : x.by'.length ≤ maxLen) (h5 : A = none → x.by'.length = 0 ∧ k = 0) (h6 : Sl w A x.by'.length (fun i => x.by'.getD i 0)) :
    RowS w (cs ++ [.bool x.ls, .slice A x.by'.length k, .int .i64 x.sz]) (l ++ [x]) := by
  refine ⟨by simp [h.1]; omega, fun i y hy => ?_⟩
  have hl := h.1
  by_cases hi : i < l.length
  · rw [List.getElem?_append_left hi] at hy
    obtain ⟨g1, ⟨A', k', g2, g3⟩, g4⟩ := h.2 i y hy
    rw [List.getElem?_append_left (by omega), List.getElem?_append_left (by omega), List.getElem?_append_left (by omega)]
    exact ⟨g1, ⟨A', k', g2, g3⟩, g4⟩
  · rw [List.getElem?_append_right (by omega)] at hy
    obtain ⟨h0, e⟩ := List.getElem?_eq_some_iff.1 hy
    have hi2 : i = l.length := by simp at h0; omega
    subst hi2
    simp only [Nat.sub_self, List.getElem_cons_zero] at e
    subst e
    rw [List.getElem?_append_right (by omega), List.getElem?_append_right (by omega), List.getElem?_append_right (by omega), hl, Nat.sub_self, show 3 * l.length + 1 - 3 * l.length = 1 by omega, show 3 * l.length + 2 - 3 * l.length = 2 by omega]
    exact ⟨rfl, ⟨A, k, rfl, h3, h4, h5, h6⟩, rfl⟩
theorem rowS_nodes {w : World} {base : Nat} {v : Value} {l : List Nd} {cs : List Value} (ho : w.ownsRow base 43 3 v l.length cs) (hr : RowS w cs l) : ∃ A c, v = .slice A l.length c ∧ l.length ≤ c ∧ (A = none → l.length = 0 ∧ c = 0) ∧ NodesS w A l := by
  rcases ho.2 with ⟨rfl, h0⟩ | ⟨g, cap, cur, rfl, hb, hg, h1, h2, h3, h4⟩
  · rw [h0]
    exact ⟨none, 0, rfl, Nat.le_refl _, fun _ => ⟨rfl, rfl⟩, ⟨fun hn => by omega⟩⟩
  · refine ⟨_, cap, rfl, h1, (fun e => by cases e), ⟨fun _ => ⟨g, 0, rfl, (Array.getElem?_eq_some_iff.1 hg).1, fun i x hx => ?_⟩⟩⟩
    obtain ⟨q1, ⟨A, k, q2, q3, q4, q5, q6⟩, q7⟩ := hr.2 i x hx
    have hi : i < l.length := (List.getElem?_eq_some_iff.1 hx).1
    have key : ∀ j u, j < l.length * 3 → cs[j]? = some u → w.cell? ⟨g, 0 + j, none⟩ = some u := fun j u hj hu => by
      rw [Nat.zero_add]
      refine blk_cell hg ?_
      rw [← Array.getElem?_toList, ← hu, ← h4, List.getElem?_take_of_lt hj]
    exact ⟨key _ _ (by omega) q1, ⟨A, k, key _ _ (by omega) q2, q3, q4, q5, q6⟩, key _ _ (by omega) q7⟩
theorem nest_wt (b : List Nat) : ∀ k, wt (rows (nest b k)) = 9 * k + 9 + b.length
  | 0 => by simp [nest, rows, wt]
  | k + 1 => by
    have := nest_wt b k
    rw [nest, rows, rows, List.append_nil, wt_cons, this]
    simp
    omega
theorem nest_get (b : List Nat) (k j : Nat) (h : j < k) : (rows (nest b k))[j]? = some ⟨true, [], (k : Int) - (j : Int)⟩ := by
  rw [nest_rows, List.getElem?_append_left (by simpa using h), List.getElem?_map, List.getElem?_range h]
  rfl
theorem nest_len (b : List Nat) (k : Nat) : (rows (nest b k)).length = k + 1 := by rw [nest_rows]; simp
theorem nest_all (b : List Nat) (k : Nat) : (rows (nest b k)).take k ++ [⟨false, b, 0⟩] = rows (nest b k) := by
  rw [nest_rows, List.take_left' (by simp)]
theorem nest_small (b : List Nat) (hb : ∀ x ∈ b, x < 256) (k : Nat) (hk : k ≤ 70) (i : Nat) (x : Nd) (hx : (rows (nest b k))[i]? = some x) : (∀ y ∈ x.by', y < 256) ∧ -9223372036854775808 ≤ x.sz ∧ x.sz ≤ 9223372036854775807 := by
  by_cases hi : i < k
  · rw [nest_get b k i hi] at hx
    cases hx
    exact ⟨(fun y hy => by cases hy), by simp only; omega, by simp only; omega⟩
  · rw [nest_rows, List.getElem?_append_right (by simp; omega)] at hx
    obtain ⟨h0, e⟩ := List.getElem?_eq_some_iff.1 hx
    simp at h0 e
    subst e
    exact ⟨hb, by simp only; omega, by simp only; omega⟩
end Go.Proofs.Ytfpeliolngfkpaa
/- The statement on nested items: its walk, the code's part. -/
namespace Go.Proofs.Ytfpeliolngfkpaa
open Go.RowKit SmWord
set_option maxRecDepth 100000

theorem RowS.any {w : World} {cs : List Value} {l : List Nd} (h : RowS w cs l) (hl : ∀ (i : Nat) (x : Nd), l[i]? = some x → x.by' = []) (w' : World) : RowS w' cs l :=
  ⟨h.1, fun i x hx => by
    obtain ⟨h1, ⟨A, k, h2, h3, h4, h5, _⟩, h7⟩ := h.2 i x hx
    have e := hl i x hx
    exact ⟨h1, ⟨A, k, h2, h3, h4, h5, by rw [e]; exact ⟨(fun i hi => by cases hi), (fun h0 => by cases h0)⟩⟩, h7⟩⟩
theorem nests_long (z : Nat) (A : Option Addr) (n c : Nat) (hn : n ≤ maxLen) (hl : 300 < n) (w : World) :
    Calls Try.prog 6 #[.int .u8 (z : Int), .slice A n c] w fun e w' => e = .returned (.bool true) ∧ Below w.heap.size w w' := by
  have hn' : n ≤ 9223372036854775807 := hn
  have q1 : decide (300 < n) = true := decide_eq_true hl
  go_enter Try.func6, Try.ntmps6
  go_wp2_with fail
  refine (fixed_walk _).mono ?_
  rintro e w2 ⟨rfl, b2⟩
  have B2 := Lib.hid b2
  clear b2
  go_wp2_with fail
  go_ret
  exact ⟨rfl, B2.out⟩
set_option maxHeartbeats 8000000 in
theorem nests_core (R : List Nat) (z k : Nat) (hz : z < 256) (hk : z % 70 = k) (A : Option Addr) (n c : Nat) (hn : n ≤ 300) (w : World) (ha : ArgB w A n c R) :
    Calls Try.prog 6 #[.int .u8 (z : Int), .slice A n c] w fun e w' => e = .returned (.bool true) ∧ Below w.heap.size w w' := by
  have q1 : decide (300 < n) = false := decide_eq_false (by omega)
  have hk70 : k < 70 := by rw [← hk]; exact Nat.mod_lt _ (by decide)
  have hlen := ha.len
  obtain ⟨X, hX⟩ : ∃ X, rows (nest R k) = X := ⟨_, rfl⟩
  have hXl : X.length = k + 1 := by rw [← hX, nest_len]
  have hget : ∀ j, j < k → X[j]? = some ⟨true, [], (k : Int) - (j : Int)⟩ := fun j hj => by rw [← hX]; exact nest_get R k j hj
  have hall : X.take k ++ [⟨false, R, 0⟩] = X := by rw [← hX]; exact nest_all R k
  have hsm := nest_small R ha.small k (by omega)
  rw [hX] at hsm
  have hwt := nest_wt R k
  rw [hX, hlen] at hwt
  have HA := Lib.hid ha
  have HX := Lib.hid hX
  have HXL := Lib.hid hXl
  have HG := Lib.hid hget
  have HALL := Lib.hid hall
  have HSM := Lib.hid hsm
  have HWT := Lib.hid hwt
  have HL := Lib.hid hlen
  obtain ⟨i0, hi0, hz0, hz1, hz2⟩ := Try.partsN
  have hkz : (z : Int) % 70 = (k : Int) := by omega
  clear ha hX hXl hget hall hsm hwt hlen hk
  go_enter Try.func6, Try.ntmps6
  go_wp2_with fail
  go_loopw [6, 20] (fun v i wr => ∃ (j : Nat) (cs : List Value), j ≤ k ∧ i = .int .i64 (j : Int) ∧ Below w.heap.size w wr ∧ wr.ownsRow w.heap.size 43 3 v j cs ∧ RowS wr cs (X.take j)) (fun _ i _ => k + 1 - (intOf i).toNat)
  case atStart => exact ⟨0, [], Nat.zero_le _, rfl, Below.refl _ _, ⟨rfl, .inl ⟨rfl, rfl⟩⟩, rfl, fun i x hx => by cases hx⟩
  case round =>
    obtain ⟨j, cs, hj, rfl, hb, hown, hrow⟩ := hrel
    have HB := Lib.hid hb
    have HO := Lib.hid hown
    have HR := Lib.hid hrow
    have hsz := hb.size
    obtain ⟨A1, c1, rfl⟩ := own_val hown
    clear hb hown hrow
    by_cases hlt : j < k
    · have q2 : decide (j < k) = true := decide_eq_true hlt
      obtain ⟨s, hs⟩ : ∃ s, k - j = s := ⟨_, rfl⟩
      have hs2 : (k : Int) - (j : Int) = (s : Int) := by omega
      go_wp2_with (at_builtin; refine wpList_append_lies _ rfl _ _ 22 rfl w.heap.size 43 i0 (.agg zN) 3 40 Try.underlying22 hi0 hz0 hz1 hz2 rfl (by decide) (.slice A1 j c1) j cs rfl (HO.out.alloc _) ⟨wr.heap.size, 0, none⟩ 1 1 [.bool true, .slice none 0 0, .int .i64 (s : Int)] rfl rfl (World.news_of_block (cs := #[.bool true, .slice none 0 0, .int .i64 (s : Int)]) (heap_alloc_new _ _)) (by simp [Value.oneCell']) (by decide) (by unfold maxLen; omega) (by omega) (by simp; omega) _ rfl ?_)
      intro ng ncap w5 hown5 hgrow _ _
      have b5 := (HB.out.alloc HB.out.size (.cells #[.bool true, .slice none 0 0, .int .i64 (s : Int)] 43)).grown hgrow (Nat.le_trans hsz (by simp)) (fun b hb' => ((HO.out.alloc (.cells #[.bool true, .slice none 0 0, .int .i64 (s : Int)] 43)).lt b hb').1)
      have B5 := Lib.hid b5
      have O5 := Lib.hid hown5
      have hemp : ∀ (i : Nat) (x : Nd), (X.take j)[i]? = some x → x.by' = [] := fun i x hx => by
        have hi : i < j := by
          have := (List.getElem?_eq_some_iff.1 hx).1
          simp at this
          omega
        rw [List.getElem?_take_of_lt hi, HG.out i (by omega)] at hx
        cases hx
        rfl
      have hr5 := (HR.out.any hemp w5).snoc ⟨true, [], (s : Int)⟩ none 0 (Nat.le_refl _) (Nat.zero_le _) (fun _ => ⟨rfl, rfl⟩) ⟨(fun i hi => by cases hi), (fun h0 => by cases h0)⟩
      have R5 := Lib.hid hr5
      clear b5 hown5 hgrow hr5 hemp HB HO HR
      go_wp2_with fail
      refine ⟨⟨_, _, .int .i64 ((j : Int) + 1), ⟨j + 1, by omega, by go_num, B5.out, _, O5.out, ?_⟩, rfl, rfl, rfl⟩, by simp [intOf]; omega⟩
      have hg := HG.out j hlt
      have e1 : X.take (j + 1) = X.take j ++ [⟨true, [], (s : Int)⟩] := by
        obtain ⟨hlt', e⟩ := List.getElem?_eq_some_iff.1 hg
        rw [List.take_add_one, List.getElem?_eq_getElem hlt', e, hs2]
        rfl
      rw [e1]
      exact R5.out
    · have q2 : decide (j < k) = false := decide_eq_false hlt
      obtain rfl : j = k := by omega
      go_wp2_with (at_builtin; refine wpList_append_lies _ rfl _ _ 22 rfl w.heap.size 43 i0 (.agg zN) 3 40 Try.underlying22 hi0 hz0 hz1 hz2 rfl (by decide) (.slice A1 j c1) j cs rfl (HO.out.alloc _) ⟨wr.heap.size, 0, none⟩ 1 1 [.bool false, .slice A n c, .int .i64 0] rfl rfl (World.news_of_block (cs := #[.bool false, .slice A n c, .int .i64 0]) (heap_alloc_new _ _)) (by simp [Value.oneCell']) (by decide) (by unfold maxLen; omega) (by omega) (by simp; omega) _ rfl ?_)
      intro ng ncap w5 hown5 hgrow _ _
      have b5 := (HB.out.alloc HB.out.size (.cells #[.bool false, .slice A n c, .int .i64 0] 43)).grown hgrow (Nat.le_trans hsz (by simp)) (fun b hb' => ((HO.out.alloc (.cells #[.bool false, .slice A n c, .int .i64 0] 43)).lt b hb').1)
      have hemp : ∀ (i : Nat) (x : Nd), (X.take j)[i]? = some x → x.by' = [] := fun i x hx => by
        have hi : i < j := by
          have := (List.getElem?_eq_some_iff.1 hx).1
          simp at this
          omega
        rw [List.getElem?_take_of_lt hi, HG.out i (by omega)] at hx
        cases hx
        rfl
      have ha5 := HA.out.below b5
      have hRl := HL.out
      have hr5 := (HR.out.any hemp w5).snoc ⟨false, R, 0⟩ A c (by rw [hRl]; exact ha5.cap) (by rw [hRl]; unfold maxLen; omega) (by rw [hRl]; exact ha5.nil) (by rw [hRl]; exact ha5.cells)
      rw [HALL.out] at hr5
      simp only [hRl] at hr5
      have ho5 : w5.ownsRow w.heap.size 43 3 (.slice (some ⟨ng, 0, none⟩) (j + 1) ncap) X.length (cs ++ [.bool false, .slice A n c, .int .i64 0]) := by rw [HXL.out]; exact hown5
      obtain ⟨A6, c6, e6, hc6, hn6, ns6⟩ := rowS_nodes ho5 hr5
      rw [HXL.out] at e6 hc6
      have hA6 : Arg w5 A6 (j + 1) c6 X := ⟨HXL.out, hc6, fun h => by have := hn6 h; rw [HXL.out] at this; exact this, ns6, HSM.out⟩
      have B5 := Lib.hid b5
      have A5 := Lib.hid hA6
      rw [e6]
      clear b5 hown5 hgrow hr5 hemp HB HO HR ha5 hRl ho5 e6 hc6 hn6 ns6 hA6
      by_cases h64 : 64 < j
      · have q3 : decide (64 < j) = true := decide_eq_true h64
        have KE := Lib.hid (encode_deep (nest_one R j) HX.out (by rw [nest_dps]; omega) (by have := HWT.out; omega) A5.out)
        go_wp2_with fail
        refine KE.out.mono ?_
        rintro e w6 ⟨rfl, b6⟩
        have B6 := Lib.hid (B5.out.trans (b6.mono B5.out.size))
        clear b6 KE
        go_wp2_with fail
        refine (fixed_walk _).mono ?_
        rintro e w7 ⟨rfl, b7⟩
        have B7 := Lib.hid (B6.out.trans (b7.mono B6.out.size))
        clear b7
        go_wp2_with fail
        go_ret
        exact ⟨rfl, B7.out⟩
      · have q3 : decide (64 < j) = false := decide_eq_false h64
        have hd : dps (nest R j) ≤ 64 := by rw [nest_dps]; omega
        have hlw := nest_long R (by rw [HL.out]; omega) j (by omega)
        have hlt2 := wrs_lt (nest R j) (by rw [HX.out]; have := HWT.out; omega) (fun x hx => by
          rw [HX.out] at hx
          obtain ⟨i, hi⟩ := List.mem_iff_getElem?.1 hx
          exact (HSM.out i x hi).1)
        have HLT := Lib.hid hlt2
        have HDC := Lib.hid (dec_wrs (nest_one R j) hd (by omega))
        have KE := Lib.hid (encode_ok (nest_one R j) HX.out hd (by have := HWT.out; omega) A5.out)
        clear hlt2
        go_wp2_with fail
        refine KE.out.mono ?_
        rintro e w6 ⟨⟨v6, rfl, o6⟩, b6⟩
        obtain ⟨A7, c7, rfl, a7⟩ := arg_own o6 HLT.out
        have B6 := Lib.hid b6
        have AA := Lib.hid a7
        clear b6 o6 a7 KE
        go_wp2_with fail
        refine (decode_walk _ A7 _ c7 (by omega) w6 AA.out).mono ?_
        rw [HDC.out]
        rintro e w8 ⟨⟨v8, rfl, hown8⟩, b8⟩
        rw [HX.out] at hown8
        obtain ⟨A9, c9, rfl, _, _, n9⟩ := hown8.nodes
        rw [HXL.out]
        have B8 := Lib.hid (B6.out.trans (b8.mono B6.out.size))
        have N9 := Lib.hid n9
        clear hown8 b8 n9
        go_wp2_with fail
        refine (fixed_walk _).mono ?_
        rintro e wa ⟨rfl, ba⟩
        have BA := Lib.hid ba
        clear ba
        go_wp2_with fail
        refine (same_walk X (j + 1) c9 c6 A9 A6 (by omega) HXL.out wa (N9.out.below BA.out) (A5.out.cells.below (B8.out.trans (BA.out.mono B8.out.size)))).mono ?_
        rintro e wb ⟨rfl, bb'⟩
        have BB := Lib.hid (B5.out.trans ((B8.out.trans ((BA.out.trans (bb'.mono BA.out.size)).mono B8.out.size)).mono B5.out.size))
        clear bb'
        go_wp2_with fail
        go_ret
        exact ⟨rfl, BB.out⟩
theorem nests_walk (R : List Nat) (z : Nat) (hz : z < 256) (A : Option Addr) (n c : Nat) (hn : n ≤ maxLen) (w : World) (ha : ArgB w A n c R) :
    Calls Try.prog 6 #[.int .u8 (z : Int), .slice A n c] w fun e w' => e = .returned (.bool true) ∧ Below w.heap.size w w' := by
  by_cases h : 300 < n
  · exact nests_long z A n c hn h w
  · exact nests_core R z (z % 70) hz rfl A n c (by omega) w ha
end Go.Proofs.Ytfpeliolngfkpaa
