/- Numbers of any length as the document's rows of digits to the base 256, with the constants of SHA-256: how they lie in memory; at and times. -/
import Derived.Test.YtihefgpicnhdjaaDoorGe
import Derived.Test.YtihefgpicnhdjaaDoorG3
import Derived.Laws.AppendOwn
import Derived.Deep.LoopGhost
import Derived.Deep.DeepCutAuto
import Derived.Deep.WholeRow
import Derived.OwnWalk
import Derived.IntWalk
import Derived.Laws.OwnMore
import Derived.Deep.CutRange
import Derived.Laws.AppendOwnNone
import Derived.Maps.AppendAt
namespace Go.Proofs.YtihefgpicnhdjaaDoor
open Go.RowKit SmWord
set_option maxRecDepth 100000

namespace SmWord
theorem dig_upQ (X j : Nat) : X / 256 ^ j = 256 * (X / 256 ^ (j + 1)) + dig X j := by
  unfold dig
  rw [Nat.pow_succ, ← Nat.div_div_eq_div_mul]
  exact (Nat.div_add_mod _ _).symm
theorem low_succQ (X j : Nat) : X % 256 ^ (j + 1) = X % 256 ^ j + 256 ^ j * dig X j := by
  unfold dig; rw [Nat.pow_succ, Nat.mod_mul]
theorem less_hereQ {X Y j : Nat} (h : X / 256 ^ (j + 1) = Y / 256 ^ (j + 1)) (hne : dig X j ≠ dig Y j) : (X < Y) ↔ dig X j < dig Y j := by
  have hp : 0 < 256 ^ j := Nat.pow_pos (by decide)
  have hx := dig_upQ X j
  have hy := dig_upQ Y j
  have dx := Nat.div_add_mod X (256 ^ j)
  have dy := Nat.div_add_mod Y (256 ^ j)
  have mx := Nat.mod_lt X hp
  have my := Nat.mod_lt Y hp
  rw [h] at hx
  generalize 256 * (Y / 256 ^ (j + 1)) = z at *
  constructor
  · intro hlt
    apply Classical.byContradiction
    intro hn
    have h3 : Y / 256 ^ j + 1 ≤ X / 256 ^ j := by rw [hx, hy]; omega
    have h4 := Nat.mul_le_mul_left (256 ^ j) h3
    rw [Nat.mul_add, Nat.mul_one] at h4
    omega
  · intro hlt
    have h3 : X / 256 ^ j + 1 ≤ Y / 256 ^ j := by rw [hx, hy]; omega
    have h4 := Nat.mul_le_mul_left (256 ^ j) h3
    rw [Nat.mul_add, Nat.mul_one] at h4
    omega
theorem less_sameQ {X Y j : Nat} (h : X / 256 ^ (j + 1) = Y / 256 ^ (j + 1)) (he : dig X j = dig Y j) : X / 256 ^ j = Y / 256 ^ j := by
  rw [dig_upQ X j, dig_upQ Y j, h, he]
end SmWord
/-- v is a slice of n digits, and their number is X. -/
structure NumSQ (w : World) (v : Value) (n X : Nat) : Prop where
  sl : ∃ A c, v = .slice A n c ∧ n ≤ c ∧ (0 < n → ∃ b off, A = some ⟨b, off, none⟩ ∧ b < w.heap.size ∧ ∀ i, i < n → w.cell? ⟨b, off + i, none⟩ = some (.int .i64 ((dig X i : Nat) : Int)))
  lt : X < 256 ^ n
  small : n ≤ 1000
theorem NumSQ.below {w w' : World} {v : Value} {n X : Nat} (h : NumSQ w v n X) {B : Nat} (hb : Below B w w') (hB : w.heap.size ≤ B) : NumSQ w' v n X := by
  obtain ⟨⟨A, c, rfl, hnc, hs⟩, hl, hm⟩ := h
  refine ⟨⟨A, c, rfl, hnc, fun hn => ?_⟩, hl, hm⟩
  obtain ⟨b, off, e, hlt, hc⟩ := hs hn
  exact ⟨b, off, e, Nat.lt_of_lt_of_le hlt hb.size, fun i hi => (hb.cell (p := ⟨b, off + i, none⟩) (Nat.lt_of_lt_of_le hlt hB)).trans (hc i hi)⟩
theorem NumSQ.stays {w w' : World} {v : Value} {n X : Nat} (h : NumSQ w v n X) (hb : Below w.heap.size w w') : NumSQ w' v n X := h.below hb (Nat.le_refl _)
/-- The n lowest digits, one behind the other. -/
def dgQ (X n : Nat) : List Value := (List.range n).map fun i => .int .i64 ((dig X i : Nat) : Int)
theorem dg_lengthQ (X n : Nat) : (dgQ X n).length = n := by simp [dgQ]
theorem dg_succQ (X n : Nat) : dgQ X n ++ [.int .i64 ((dig X n : Nat) : Int)] = dgQ X (n + 1) := by simp [dgQ, List.range_succ]
theorem dg_getQ {X n i : Nat} (h : i < n) : (dgQ X n)[i]? = some (.int .i64 ((dig X i : Nat) : Int)) := by simp [dgQ, h]
theorem NumSQ.of_owns {w : World} {base : Nat} {v : Value} {n X : Nat} (h : w.ownsRow base 3 1 v n (dgQ X n)) (hl : X < 256 ^ n) (hn : n ≤ 1000) : NumSQ w v n X := by
  obtain ⟨hlen, h⟩ := h
  rcases h with ⟨rfl, rfl⟩ | ⟨g, cap, cur, rfl, hb, hc, h1, h2, h3, h4⟩
  · exact ⟨⟨none, 0, rfl, Nat.le_refl _, fun h => absurd h (by omega)⟩, hl, hn⟩
  · refine ⟨⟨_, cap, rfl, h1, fun _ => ⟨g, 0, rfl, (Array.getElem?_eq_some_iff.1 hc).1, fun i hi => ?_⟩⟩, hl, hn⟩
    rw [Nat.zero_add]
    refine blk_cell hc ?_
    have := dg_getQ (X := X) hi
    rw [← h4, Nat.mul_one, List.getElem?_take, if_pos hi] at this
    simpa using this
theorem Tryd.info3Q : (Tryd.prog.info? 3).map (fun i => (i.zero, i.size, i.bytes)) = some (some (.int .i64 0), 1, 8) := by kernel_rfl
theorem dig_highQ {X n i : Nat} (h : X < 256 ^ n) (hi : n ≤ i) : dig X i = 0 := by
  unfold dig
  rw [Nat.div_eq_of_lt (Nat.lt_of_lt_of_le h (Nat.pow_le_pow_right (by decide) hi))]

set_option maxHeartbeats 1000000 in
theorem at_refQ (v : Value) (n X i : Nat) (w : World) (h : NumSQ w v n X) (hi : i ≤ 1000000) :
    Calls Tryd.prog 83 #[v, .int .i64 (i : Int)] w fun e w' => e = .returned (.int .i64 ((dig X i : Nat) : Int)) ∧ w = w' := by
  obtain ⟨⟨A, c, rfl, _, hs⟩, hl, hm⟩ := h
  by_cases hlt : i < n
  · obtain ⟨b, off, rfl, hb, hc⟩ := hs (by omega)
    have c1 := hc i hlt
    clear hc hl
    go_enter Tryd.func83, Tryd.ntmps83
    go_wp2_with fail
    go_ret
    exact ⟨rfl, rfl⟩
  · rw [dig_highQ hl (by omega)]
    clear hs hl
    go_enter Tryd.func83, Tryd.ntmps83
    go_wp2_with fail
    go_ret
    exact ⟨rfl, rfl⟩

theorem own_emptyQ (w : World) {base : Nat} (hb : base ≤ w.heap.size) : (w.alloc (.cells #[] 3)).ownsRow base 3 1 (.slice (some ⟨w.heap.size, 0, none⟩) 0 0) 0 [] :=
  ⟨rfl, .inr ⟨w.heap.size, 0, #[], rfl, hb, heap_alloc_new _ _, Nat.le_refl _, Nat.zero_le _, rfl, rfl⟩⟩
theorem own_oneQ (w : World) (x : Value) : ∀ j u, [x][j]? = some u → (w.alloc (.cells #[x] 3)).cell? ((⟨w.heap.size, 0, none⟩ : Addr).add j) = some u := fun j u h => by
  cases j with
  | zero =>
    have hu : u = x := by simpa using h.symm
    subst hu
    exact blk_cell (heap_alloc_new _ _) rfl
  | succ j => simp at h
/-- What returns a number. -/
def RetNQ (n X : Nat) (w : World) (e : Ending) (w' : World) : Prop := ∃ v, e = .returned v ∧ NumSQ w' v n X ∧ Below w.heap.size w w'

theorem at_belowQ (v : Value) (n X i : Nat) (w : World) (h : NumSQ w v n X) (hi : i ≤ 1000000) :
    Calls Tryd.prog 83 #[v, .int .i64 (i : Int)] w fun e w' => e = .returned (.int .i64 ((dig X i : Nat) : Int)) ∧ Below w.heap.size w w' :=
  (at_refQ v n X i w h hi).mono fun _ _ ⟨h1, h2⟩ => ⟨h1, h2 ▸ Below.refl _ _⟩
theorem own_staysQ {w w' : World} {base : Nat} {e : TypeId} {s : Nat} {v : Value} {n : Nat} {xs : List Value} (h : w.ownsRow base e s v n xs) (hb : Below w.heap.size w w') : w'.ownsRow base e s v n xs := by
  obtain ⟨h0, h⟩ := h
  refine ⟨h0, ?_⟩
  rcases h with h | ⟨g, cap, cur, h1, h2, h3, h4⟩
  · exact .inl h
  · exact .inr ⟨g, cap, cur, h1, h2, stay hb h3, h4⟩

namespace SmWord
theorem row_fullQ {m n i k : Nat} (hk : n < 256 ^ k) : rowT m n i k = m % 256 ^ (i + 1) * n := by
  unfold rowT
  rw [Nat.mod_eq_of_lt hk, low_succQ, Nat.add_mul, Nat.mul_comm (dig m i)]
theorem row_overQ {m n i k l : Nat} (hn : n < 256 ^ l) (hk : l + 1 ≤ k) : rowC m n i k = 0 := by
  have h1 : n < 256 ^ k := Nat.lt_of_lt_of_le hn (Nat.pow_le_pow_right (by decide) (by omega))
  have h2 : rowT m n i k < 256 ^ (i + k) := by
    rw [row_fullQ h1]
    have a1 : m % 256 ^ (i + 1) < 256 ^ (i + 1) := Nat.mod_lt _ (Nat.pow_pos (by decide))
    have a2 : m % 256 ^ (i + 1) * n ≤ 256 ^ (i + 1) * n := Nat.mul_le_mul_right _ (Nat.le_of_lt a1)
    have a3 : 256 ^ (i + 1) * n < 256 ^ (i + 1) * 256 ^ l := Nat.mul_lt_mul_of_pos_left hn (Nat.pow_pos (by decide))
    rw [← Nat.pow_add] at a3
    have a4 : 256 ^ (i + 1 + l) ≤ 256 ^ (i + k) := Nat.pow_le_pow_right (by decide) (by omega)
    omega
  unfold rowC
  rw [Nat.div_eq_of_lt h2, Nat.zero_sub]
end SmWord

/-- The digits while row i is under way, in L places: k of its steps are done. -/
def rowLQ (L m n i k : Nat) : Array Value := arr .i64 L (fun j => if j < i + k then ((dig (rowT m n i k) j : Nat) : Int) else ((dig (m % 256 ^ i * n) j : Nat) : Int))
def dLQ (L x : Nat) : Array Value := arr .i64 L (fun j => ((dig x j : Nat) : Int))
theorem rowL_startQ (L m n i : Nat) : rowLQ L m n i 0 = dLQ L (m % 256 ^ i * n) := arr_congr fun j _ => by rw [rowT_zero]; simp
theorem rowL_stepQ (L m n i k : Nat) (hk : i + k < L) : (rowLQ L m n i k).setIfInBounds (i + k) (.int .i64 ((dig (rowT m n i (k + 1)) (i + k) : Nat) : Int)) = rowLQ L m n i (k + 1) := by
  unfold rowLQ
  rw [arr_set _ _ _ hk]
  refine arr_congr fun j _ => ?_
  by_cases h1 : j = i + k
  · subst h1; simp [show i + k < i + (k + 1) by omega]
  · by_cases h2 : j < i + k
    · simp [h1, h2, show j < i + (k + 1) by omega, row_low m n i k h2]
    · simp [h1, h2, show ¬ j < i + (k + 1) by omega]
theorem rowL_endQ (L m n i k : Nat) (hk : n < 256 ^ k) (hc : rowC m n i k = 0) : rowLQ L m n i k = dLQ L (m % 256 ^ (i + 1) * n) := arr_congr fun j _ => by
  have e := rowC_eq m n i k
  rw [hc, Nat.add_zero] at e
  by_cases h : j < i + k
  · rw [if_pos h, row_fullQ hk]
  · rw [if_neg h, ← row_fullQ hk]
    unfold dig
    have ep : 256 ^ j = 256 ^ (i + k) * 256 ^ (j - (i + k)) := by rw [← Nat.pow_add]; congr 1; omega
    rw [ep, ← Nat.div_div_eq_div_mul, ← Nat.div_div_eq_div_mul, e]
theorem dL_noneQ (L n m : Nat) : dLQ L (m % 256 ^ 0 * n) = arr .i64 L (fun _ => 0) := arr_congr fun j _ => by simp [dig, Nat.mod_one]
theorem dL_numQ {w : World} {b L X : Nat} (h : w.heap[b]? = some (.cells (dLQ L X) 3)) (hX : X < 256 ^ L) (hL : L ≤ 1000) : NumSQ w (.slice (some ⟨b, 0, none⟩) L L) L X :=
  ⟨⟨_, _, rfl, Nat.le_refl _, fun _ => ⟨b, 0, rfl, (Array.getElem?_eq_some_iff.1 h).1, fun i hi => by rw [Nat.zero_add]; exact blk_cell h (arr_get .i64 _ hi)⟩⟩, hX, hL⟩
theorem made_rowQ {w : World} {base g n : Nat} (h : w.ownsRow base 3 1 (.slice (some ⟨g, 0, none⟩) n n) n (madeCells #[.int .i64 0] n).toList) : w.heap[g]? = some (.cells (arr .i64 n (fun _ => 0)) 3) := by
  obtain ⟨_, h⟩ := h
  rcases h with ⟨h, _⟩ | ⟨g', cap, cur, h1, _, h3, _, _, h6, h7⟩
  · cases h
  · cases h1
    have e : cur = arr .i64 n (fun _ => 0) := by
      apply Array.ext'
      rw [List.take_of_length_le (by simp [h6])] at h7
      rw [h7]
      rw [toList_madeCells_one]
      unfold arr
      simp [List.map_const']
    rw [← e]; exact h3

set_option maxHeartbeats 4000000 in
theorem times_refQ (v u : Value) (n m X Y : Nat) (w : World) (h : NumSQ w v n X) (g : NumSQ w u m Y) (hsm : n ≤ 400 ∧ m ≤ 400) : Calls Tryd.prog 82 #[v, u] w (RetNQ (n + m + 1) (X * Y) w) := by
  obtain ⟨i0, hi, hz0, hz1, hz2⟩ := info_parts Tryd.info3Q
  have h' := h
  have g' := g
  obtain ⟨⟨A, c, rfl, hnc, _⟩, hl, hm⟩ := h
  obtain ⟨⟨A', c', rfl, hnc', _⟩, gl, gm⟩ := g
  obtain ⟨L, hL⟩ : ∃ L, n + m + 1 = L := ⟨_, rfl⟩
  have hL1 : n + m + 1 ≤ L := by omega
  have hL2 : L ≤ 801 := by omega
  have hLi : ((n : Int) + (m : Int) + 1) = (L : Int) := by omega
  have hXY : X * Y < 256 ^ L := by
    have a1 : X * Y ≤ 256 ^ n * Y := Nat.mul_le_mul_right _ (Nat.le_of_lt hl)
    have a2 : 256 ^ n * Y ≤ 256 ^ n * 256 ^ m := Nat.mul_le_mul_left _ (Nat.le_of_lt gl)
    rw [← Nat.pow_add] at a2
    have a3 : 256 ^ (n + m) < 256 ^ L := Nat.pow_lt_pow_right (by decide) (by omega)
    omega
  rw [hL]
  have hXe : X % 256 ^ n * Y = X * Y := by rw [Nat.mod_eq_of_lt hl]
  have HS := Lib.hid hXY
  have HE := Lib.hid hXe
  have HL := Lib.hid hLi
  have HA := Lib.hid h'
  have HB := Lib.hid g'
  have HY := Lib.hid gl
  clear h' g' hl gl hXY hXe hL hLi
  go_enter Tryd.func82, Tryd.ntmps82
  go_upto_region 2 with (at_make; refine wpList_make_full _ rfl _ _ 70 rfl w.heap.size 3 i0 (.int .i64 0) 1 Tryd.underlying70 hi hz0 hz1 _ _ _ _ L rfl rfl HL.out HL.out ?b2 ?b3 ?b4 ?_)
  case b2 => rw [hz2]; omega
  case b3 => unfold maxLen; omega
  case b4 => exact Nat.le_refl _
  intro w1 hown hgrow
  have f5 := made_rowQ hown
  have bW : Below w.heap.size w w1 := (Below.refl _ _).grown hgrow (Nat.le_refl _) (fun k hk => by cases hk)
  clear hown hgrow
  go_wp2_with fail
  go_loopw [6, 7, 8, 9, 19] (fun _ _ _ _ i wr => ∃ k : Nat, k ≤ n ∧ i = .int .i64 (k : Int) ∧ Below w.heap.size w wr ∧ wr.heap[w.heap.size]? = some (.cells (dLQ L (X % 256 ^ k * Y)) 3)) (fun _ _ _ _ i _ => n - (intOf i).toNat)
  case atStart => exact ⟨0, Nat.zero_le _, rfl, bW, by rw [dL_noneQ]; exact f5⟩
  case round =>
    clear f5 bW
    obtain ⟨i, hin, rfl, bW, f5⟩ := hrel
    obtain ⟨wo, rfl⟩ : ∃ wo : World, wo = wr := ⟨_, rfl⟩
    by_cases hlt : i < n
    · rw [← rowL_startQ] at f5
      go_wp2_with fail
      go_loopw [7, 8, 9] (fun c k _ wr => ∃ q : Nat, q ≤ m + 1 ∧ k = .int .i64 (q : Int) ∧ c = .int .i64 ((rowC X Y i q : Nat) : Int) ∧ Below w.heap.size w wr ∧ wr.heap[w.heap.size]? = some (.cells (rowLQ L X Y i q) 3)) (fun _ k _ _ => m + 1 - (intOf k).toNat)
      case atStart => exact ⟨0, by omega, rfl, by rw [rowC_zero]; rfl, bW, f5⟩
      case round =>
        clear f5 bW
        obtain ⟨q, hq, rfl, rfl, bW, f5⟩ := hrel
        have d3 := rowC_le X Y i q
        have sW := bW.size
        by_cases hend : m ≤ q ∧ rowC X Y i q = 0
        · obtain ⟨he1, he2⟩ := hend
          have HF := Lib.hid (rowL_endQ L X Y i q (Nat.lt_of_lt_of_le HY.out (Nat.pow_le_pow_right (by decide) he1)) he2)
          rw [he2]
          clear he2
          have g1 : decide (q < m) = false := by simp; omega
          go_wp2_with fail
          exact ⟨⟨i + 1, by omega, by go_num, bW, by rw [← HF.out]; exact f5⟩, by simp only [intOf]; omega⟩
        · have hqm : q ≤ m := by
            apply Classical.byContradiction
            intro hn
            exact hend ⟨by omega, row_overQ HY.out (by omega)⟩
          have hbody : i + q < L := by omega
          have d1 := dig_lt X i
          have d2 := dig_lt Y q
          have d4 := dig_lt (X % 256 ^ i * Y) (i + q)
          have d5 : dig X i * dig Y q ≤ 65025 := by
            have := Nat.mul_le_mul (show dig X i ≤ 255 by omega) (show dig Y q ≤ 255 by omega)
            omega
          have d6 : ((dig X i : Nat) : Int) * ((dig Y q : Nat) : Int) ≤ 65025 := by rw [← Int.natCast_mul]; omega
          have d7 : 0 ≤ ((dig X i : Nat) : Int) * ((dig Y q : Nat) : Int) := by rw [← Int.natCast_mul]; omega
          clear d5
          obtain ⟨s1, s2⟩ := row_step X Y i q
          have S1 := Lib.hid s1
          have S2 := Lib.hid s2
          clear s1 s2
          have c5 : wr.cell? ⟨w.heap.size, i + q, none⟩ = some (.int .i64 ((dig (X % 256 ^ i * Y) (i + q) : Nat) : Int)) := blk_cell f5 (by unfold rowLQ; rw [arr_get .i64 _ hbody, if_neg (by omega)])
          have z5 := blk_frozen (j := i + q) f5
          have hb5 : w.heap.size < wr.heap.size := (Array.getElem?_eq_some_iff.1 f5).1
          obtain ⟨⟨A1, c1, e1, _, hs1⟩, _, _⟩ := HA.out.stays bW
          cases e1
          obtain ⟨b, off, rfl, hbl, hc⟩ := hs1 (by omega)
          have k1 := hc i hlt
          clear hs1 hc
          have HF := Lib.hid f5
          clear f5
          by_cases hqlt : q < m
          · have g1 : decide (q < m) = true := by simp; omega
            clear hend
            go_upto_region 9 with fail
            have k2 := fun g : Ext wr => (g.below.cell (p := ⟨b, off + i, none⟩) (by omega)).trans k1
            have c6 := fun g : Ext wr => (g.below.cell (p := ⟨w.heap.size, i + q, none⟩) hb5).trans c5
            have e1 : IntKind.i64.wrap ((i : Int) + (q : Int)) = ((i + q : Nat) : Int) := by rw [IntWalk.i64_in _ (by omega)]; omega
            have e2 : IntKind.i64.wrap (((dig X i : Nat) : Int) * ((dig Y q : Nat) : Int)) = ((dig X i : Nat) : Int) * ((dig Y q : Nat) : Int) := IntWalk.i64_in _ (by omega)
            have e3 : IntKind.i64.wrap (((dig (X % 256 ^ i * Y) (i + q) : Nat) : Int) + ((dig X i : Nat) : Int) * ((dig Y q : Nat) : Int)) = ((dig (X % 256 ^ i * Y) (i + q) : Nat) : Int) + ((dig X i : Nat) : Int) * ((dig Y q : Nat) : Int) := IntWalk.i64_in _ (by omega)
            have e4 : IntKind.i64.wrap (((dig (X % 256 ^ i * Y) (i + q) : Nat) : Int) + ((dig X i : Nat) : Int) * ((dig Y q : Nat) : Int) + ((rowC X Y i q : Nat) : Int)) = ((dig (X % 256 ^ i * Y) (i + q) : Nat) : Int) + ((dig X i : Nat) : Int) * ((dig Y q : Nat) : Int) + ((rowC X Y i q : Nat) : Int) := IntWalk.i64_in _ (by omega)
            refine region_ext (by kernel_rfl) (by kernel_rfl) ?_
            repeat (go_big_quiet_step ((go_at_call 83; with_reducible exact calls_ext (at_belowQ _ m Y q _ ((HB.out.stays bW).stays (Ext.below _)) (by omega)))))
            refine wpQuiet_nil ?_
            rintro _ ⟨g, rfl⟩
            clear k2 c6 e1 e2 e3 e4 c5 z5 k1
            have f5 := stay g.below HF.out
            replace bW := bW.trans (g.below.mono bW.size)
            generalize g.on = wn at *
            have c5 : wn.cell? ⟨w.heap.size, i + q, none⟩ = some (.int .i64 ((dig (X % 256 ^ i * Y) (i + q) : Nat) : Int)) := blk_cell f5 (by unfold rowLQ; rw [arr_get .i64 _ hbody, if_neg (by omega)])
            have z5 := blk_frozen (j := i + q) f5
            clear HF
            have HF := Lib.hid f5
            clear f5
            go_wp2_with fail
            have v1 : (((dig (X % 256 ^ i * Y) (i + q) : Nat) : Int) + ((dig X i : Nat) : Int) * ((dig Y q : Nat) : Int) + ((rowC X Y i q : Nat) : Int)) % 256 = ((dig (rowT X Y i (q + 1)) (i + q) : Nat) : Int) := by rw [← S1.out]; rfl
            have v2 : (((dig (X % 256 ^ i * Y) (i + q) : Nat) : Int) + ((dig X i : Nat) : Int) * ((dig Y q : Nat) : Int) + ((rowC X Y i q : Nat) : Int)) / 256 = ((rowC X Y i (q + 1) : Nat) : Int) := by rw [← S2.out]; rfl
            rw [v1, v2]
            refine ⟨⟨q + 1, by omega, by go_num, rfl, bW.setCell (by simp) _, ?_⟩, by simp only [intOf]; omega⟩
            rw [← rowL_stepQ L X Y i q hbody]
            exact blk_set HF.out _
          · have g1 : decide (q < m) = false := by simp; omega
            have hpos : 0 < rowC X Y i q := by omega
            clear hend
            go_upto_region 9 with fail
            have k2 := fun g : Ext wr => (g.below.cell (p := ⟨b, off + i, none⟩) (by omega)).trans k1
            have c6 := fun g : Ext wr => (g.below.cell (p := ⟨w.heap.size, i + q, none⟩) hb5).trans c5
            have e1 : IntKind.i64.wrap ((i : Int) + (q : Int)) = ((i + q : Nat) : Int) := by rw [IntWalk.i64_in _ (by omega)]; omega
            have e2 : IntKind.i64.wrap (((dig X i : Nat) : Int) * ((dig Y q : Nat) : Int)) = ((dig X i : Nat) : Int) * ((dig Y q : Nat) : Int) := IntWalk.i64_in _ (by omega)
            have e3 : IntKind.i64.wrap (((dig (X % 256 ^ i * Y) (i + q) : Nat) : Int) + ((dig X i : Nat) : Int) * ((dig Y q : Nat) : Int)) = ((dig (X % 256 ^ i * Y) (i + q) : Nat) : Int) + ((dig X i : Nat) : Int) * ((dig Y q : Nat) : Int) := IntWalk.i64_in _ (by omega)
            have e4 : IntKind.i64.wrap (((dig (X % 256 ^ i * Y) (i + q) : Nat) : Int) + ((dig X i : Nat) : Int) * ((dig Y q : Nat) : Int) + ((rowC X Y i q : Nat) : Int)) = ((dig (X % 256 ^ i * Y) (i + q) : Nat) : Int) + ((dig X i : Nat) : Int) * ((dig Y q : Nat) : Int) + ((rowC X Y i q : Nat) : Int) := IntWalk.i64_in _ (by omega)
            refine region_ext (by kernel_rfl) (by kernel_rfl) ?_
            repeat (go_big_quiet_step ((go_at_call 83; with_reducible exact calls_ext (at_belowQ _ m Y q _ ((HB.out.stays bW).stays (Ext.below _)) (by omega)))))
            refine wpQuiet_nil ?_
            rintro _ ⟨g, rfl⟩
            clear k2 c6 e1 e2 e3 e4 c5 z5 k1
            have f5 := stay g.below HF.out
            replace bW := bW.trans (g.below.mono bW.size)
            generalize g.on = wn at *
            have c5 : wn.cell? ⟨w.heap.size, i + q, none⟩ = some (.int .i64 ((dig (X % 256 ^ i * Y) (i + q) : Nat) : Int)) := blk_cell f5 (by unfold rowLQ; rw [arr_get .i64 _ hbody, if_neg (by omega)])
            have z5 := blk_frozen (j := i + q) f5
            clear HF
            have HF := Lib.hid f5
            clear f5
            go_wp2_with fail
            have v1 : (((dig (X % 256 ^ i * Y) (i + q) : Nat) : Int) + ((dig X i : Nat) : Int) * ((dig Y q : Nat) : Int) + ((rowC X Y i q : Nat) : Int)) % 256 = ((dig (rowT X Y i (q + 1)) (i + q) : Nat) : Int) := by rw [← S1.out]; rfl
            have v2 : (((dig (X % 256 ^ i * Y) (i + q) : Nat) : Int) + ((dig X i : Nat) : Int) * ((dig Y q : Nat) : Int) + ((rowC X Y i q : Nat) : Int)) / 256 = ((rowC X Y i (q + 1) : Nat) : Int) := by rw [← S2.out]; rfl
            rw [v1, v2]
            refine ⟨⟨q + 1, by omega, by go_num, rfl, bW.setCell (by simp) _, ?_⟩, by simp only [intOf]; omega⟩
            rw [← rowL_stepQ L X Y i q hbody]
            exact blk_set HF.out _
    · obtain rfl : i = n := by omega
      rw [HE.out] at f5
      go_wp2_with fail
      go_ret
      exact ⟨_, rfl, dL_numQ f5 HS.out (by omega), bW⟩
end Go.Proofs.YtihefgpicnhdjaaDoor
/- What the functions digits, below and root of the document's answers for sha do: roots of primes, bit by bit. -/
namespace Go.Proofs.YtihefgpicnhdjaaDoor
open Go.RowKit SmWord
set_option maxRecDepth 100000

set_option maxHeartbeats 1000000 in
theorem digits_refQ (X : Nat) (w : World) (hX : X < B) : Calls Tryd.prog 81 #[.int .u64 (X : Int)] w fun e w' => ∃ L, L ≤ 8 ∧ ∃ v, e = .returned v ∧ w'.ownsRow w.heap.size 3 1 v L (dgQ X L) ∧ X < 256 ^ L ∧ Below w.heap.size w w' := by
  obtain ⟨i0, hi, hz0, hz1, hz2⟩ := info_parts Tryd.info3Q
  have HX : Hid (X < 256 ^ 8) := Lib.hid (by rw [← B_256]; exact hX)
  clear hX
  go_enter Tryd.func81, Tryd.ntmps81
  go_wp2_with fail
  have o0 := own_emptyQ w (Nat.le_refl _)
  have bW : Below w.heap.size w (w.alloc (.cells #[] 3)) := (Below.refl _ _).alloc (Nat.le_refl _) _
  go_loopw [0, 3] (fun x v wr => ∃ k y : Nat, k ≤ 8 ∧ x = .int .u64 (y : Int) ∧ Hid (X / 256 ^ k = y) ∧ wr.ownsRow w.heap.size 3 1 v k (dgQ X k) ∧ Below w.heap.size w wr) (fun x _ _ => (intOf x).toNat)
  case atStart => exact ⟨0, X, by omega, rfl, Lib.hid (by simp), o0, bW⟩
  case round =>
    clear o0 bW
    obtain ⟨k, y, hk, rfl, hy, hown, bW⟩ := hrel
    have sW := bW.size
    by_cases hpos : 0 < y
    · have hk7 : k < 8 := by
        apply Classical.byContradiction
        intro h
        obtain rfl : k = 8 := by omega
        have := hy.out
        rw [Nat.div_eq_of_lt HX.out] at this
        omega
      obtain ⟨d, hd⟩ : ∃ d, dig X k = d := ⟨_, rfl⟩
      have hd2 : y % 256 = d := by rw [← hd, dig, hy.out]
      have hdI : (y : Int) % 256 = (d : Int) := by omega
      have hd8 : d < 256 := by omega
      have hyB : y < B := Nat.lt_of_le_of_lt (by rw [← hy.out]; exact Nat.div_le_self _ _) (B_256 ▸ HX.out)
      have HD := Lib.hid hd
      have HYB := Lib.hid hyB
      clear hd hd2 hyB
      go_wp2_with (at_builtin; refine wpList_append_own _ rfl _ _ 70 rfl w.heap.size 3 i0 (.int .i64 0) 1 8 Tryd.underlying70 hi hz0 hz1 hz2 rfl (by decide) _ _ _ rfl (hown.alloc _) ⟨wr.heap.size, 0, none⟩ 1 1 [.int .i64 ((d : Nat) : Int)] rfl rfl ?c1 ?c2 ?c3 ?c4 ?c5 ?_)
      case c1 => exact own_oneQ _ _
      case c2 => simp [Value.oneCell']
      case c3 => unfold maxLen; omega
      case c4 => omega
      case c5 => simp; omega
      intro v' w3 hown' hgrow _
      rw [← HD.out, dg_succQ] at hown'
      have hr := fun g hg => (hown.lt g hg).1
      have bX : Below w.heap.size w w3 := (bW.alloc (o := .cells #[.int .i64 ((d : Nat) : Int)] 3) (by omega)).grown hgrow (by simp; omega) (fun g hg => by have := hr g hg; omega)
      obtain ⟨y', hy'⟩ : ∃ y', y / 256 = y' := ⟨_, rfl⟩
      have eq : IntKind.u64.wrap ((y : Int) / 256) = (y' : Int) := by
        have := HYB.out
        simp only [B] at this
        rw [IntKind.wrap_u64]
        omega
      have HY := Lib.hid hy'
      clear hown hgrow bW hr hy'
      go_wp2_with fail
      exact ⟨⟨k + 1, y', by omega, rfl, Lib.hid (by rw [← HY.out, ← hy.out, Nat.pow_succ, Nat.div_div_eq_div_mul]), hown', bX⟩, by have := HY.out; simp only [intOf]; omega⟩
    · obtain rfl : y = 0 := by omega
      go_wp2_with fail
      go_ret
      refine ⟨k, hk, _, rfl, hown, ?_, bW⟩
      have := hy.out
      exact (Nat.div_eq_zero_iff_lt (Nat.pow_pos (by decide))).1 this

theorem own_num {w : World} {base : Nat} {v : Value} {k X : Nat} (h : w.ownsRow base 3 1 v k (dgQ X k)) : ∃ A c, v = .slice A k c ∧ (A = none → k = 0 ∧ c = 0) ∧ (0 < k → ∃ b off, A = some ⟨b, off, none⟩ ∧ ∀ i, i < k → w.cell? ⟨b, off + i, none⟩ = some (.int .i64 ((dig X i : Nat) : Int))) := by
  rcases h.2 with ⟨rfl, rfl⟩ | ⟨g, cap, cur, rfl, hb, hg, h1, h2, h3, h4⟩
  · exact ⟨none, 0, rfl, fun _ => ⟨rfl, rfl⟩, fun h => absurd h (by omega)⟩
  · refine ⟨_, cap, rfl, (fun h => by cases h), fun _ => ⟨g, 0, rfl, fun i hi => ?_⟩⟩
    rw [Nat.zero_add]
    refine blk_cell hg ?_
    have := dg_getQ (X := X) hi
    rw [← h4, Nat.mul_one, List.getElem?_take, if_pos hi] at this
    simpa using this
/-- The digits of a number are appended. -/
theorem append_num {ops : Array Oper} {rest : List Oper} {o : Oper} {a : Act} {w : World} {Q : Exit → Act → World → Prop} (hg : o.guard = none) (s x : Operand)
    (ho : o.op = .call { callee := .builtin .append, args := #[s, x], argTypes := #[70, 70] }) (base : Nat) (v : Value) (k : Nat) (xs : List Value) (hs : a.eval s = v) (hown : w.ownsRow base 3 1 v k xs)
    (base' : Nat) (v' : Value) (n X : Nat) (hx : a.eval x = v') (hown' : w.ownsRow base' 3 1 v' n (dgQ X n)) (hk : k + n ≤ 1000000) (hbase : base ≤ w.heap.size)
    (h : ∀ v' w', w'.ownsRow base 3 1 v' (k + n) (xs ++ dgQ X n) → w.grownBy w' v.ownBlock → wpList Tryd.prog ops Q rest (a.put o.dst v') w') : wpList Tryd.prog ops Q (o :: rest) a w := by
  obtain ⟨i0, hi0, hz0, hz1, hz2⟩ := info_parts Tryd.info3Q
  obtain ⟨A, c, rfl, hA, hc⟩ := own_num hown'
  cases A with
  | none =>
    obtain ⟨rfl, rfl⟩ := hA rfl
    refine wpList_append_own_none hg s x 70 ho base 3 i0 1 Tryd.underlying70 hi0 v k xs hs hown hx (h v w (by simpa [dgQ] using hown) ⟨rfl, rfl, rfl, Nat.le_refl _, fun _ _ _ => rfl⟩)
  | some ad =>
    refine wpList_append_own_at w hg s x 70 ho base 3 i0 (.int .i64 0) 1 8 Tryd.underlying70 hi0 hz0 hz1 hz2 rfl (by decide) v k xs hs hown ad n c (dgQ X n) hx (by rw [dg_lengthQ, Nat.mul_one]) (fun j u hj => ?_) (fun u hu => ?_) (by unfold maxLen; omega) (by omega) hbase (fun v' w' h1 h2 _ _ => h v' w' h1 h2)
    · have hjn : j < n := by have := (List.getElem?_eq_some_iff.1 hj).1; rwa [dg_lengthQ] at this
      obtain ⟨b, off, e, hcc⟩ := hc (by omega)
      cases e
      rw [dg_getQ hjn] at hj
      cases hj
      have hadd : (⟨b, off, none⟩ : Addr).add j = ⟨b, off + j, none⟩ := by unfold Addr.add; split <;> simp_all
      rw [hadd]
      exact hcc j hjn
    · simp [dgQ] at hu
      obtain ⟨i, _, rfl⟩ := hu
      rfl
theorem dig_low (p K : Nat) {i : Nat} (h : i < K) : dig (p * 256 ^ K) i = 0 := by
  unfold dig
  have e : p * 256 ^ K = 256 ^ i * (256 * (p * 256 ^ (K - i - 1))) := by
    have : 256 ^ K = 256 ^ i * (256 * 256 ^ (K - i - 1)) := by rw [← Nat.pow_succ', ← Nat.pow_add]; congr 1; omega
    rw [this]; generalize 256 ^ i = a; generalize 256 ^ (K - i - 1) = b; grind
  rw [e, Nat.mul_div_cancel_left _ (Nat.pow_pos (by decide)), Nat.mul_mod_right]
theorem dig_put (p K i : Nat) : dig (p * 256 ^ K) (K + i) = dig p i := by
  unfold dig
  rw [Nat.pow_add, ← Nat.div_div_eq_div_mul, Nat.mul_div_cancel _ (Nat.pow_pos (by decide))]
theorem dg_put (p K L : Nat) : dgQ (p * 256 ^ K) K ++ dgQ p L = dgQ (p * 256 ^ K) (K + L) := by
  unfold dgQ
  rw [List.range_add, List.map_append, List.map_map]
  congr 1
  exact List.map_congr_left fun i _ => by simp only [Function.comp]; rw [dig_put]
/-! below -/
set_option maxHeartbeats 4000000 in
theorem below_ref (n p : Nat) (cube : Bool) (w : World) (hn : n < B) (hp : p < B) : Calls Tryd.prog 71 #[.int .u64 (n : Int), .int .u64 (p : Int), .bool cube] w fun e w' => e = .returned (.bool (if cube then cuOk p n else sqOk p n)) ∧ Below w.heap.size w w' := by
  obtain ⟨i0, hi, hz0, hz1, hz2⟩ := info_parts Tryd.info3Q
  have HP := Lib.hid hp
  clear hp
  cases cube with
  | false =>
    go_enter Tryd.func71, Tryd.ntmps71
    go_wp2_with fail
    refine (digits_refQ n w hn).mono ?_
    rintro e w1 ⟨L, hL, v, rfl, own, hlt, b1⟩
    have hx := NumSQ.of_owns own hlt (by omega)
    clear own hlt hn
    go_wp2_with fail
    refine (times_refQ v v L L n n w1 hx hx (by omega)).mono ?_
    rintro e w2 ⟨vy, rfl, hy, b2⟩
    have bW := b1.trans (b2.mono b1.size)
    clear b1 b2 hx
    obtain ⟨LY, hLY⟩ : ∃ l, L + L + 1 = l := ⟨_, rfl⟩
    obtain ⟨Y, hY⟩ : ∃ y, n * n = y := ⟨_, rfl⟩
    rw [hLY, hY] at hy
    have hLY2 : LY ≤ 26 := by omega
    have HYn := Lib.hid hY
    obtain ⟨w3, rfl⟩ : ∃ w3 : World, w3 = w2 := ⟨_, rfl⟩
    have HB := Lib.hid bW
    have HY := Lib.hid hy
    have hz : True := trivial
    clear hLY hY hy
    go_wp2_with fail
    have sW := bW.size
    have o0 := own_emptyQ w3 (Nat.le_refl w3.heap.size)
    have bZ : Below w3.heap.size w3 (w3.alloc (.cells #[] 3)) := (Below.refl _ _).alloc (Nat.le_refl _) _
    clear hz bW sW
    go_loopw [10, 11] (fun v i wr => ∃ k : Nat, k ≤ 8 ∧ i = .int .i64 (k : Int) ∧ wr.ownsRow w3.heap.size 3 1 v k (dgQ (p * 256 ^ 8) k) ∧ Below w3.heap.size w3 wr) (fun _ i _ => 8 - (intOf i).toNat)
    case atStart => exact ⟨0, by omega, rfl, o0, bZ⟩
    case round =>
      clear o0 bZ
      obtain ⟨k, hk, rfl, hown, bZ⟩ := hrel
      have sZ := bZ.size
      by_cases hlt : k < 8
      · have hd := dig_low p 8 hlt
        have HD := Lib.hid hd
        clear hd
        go_wp2_with (at_builtin; refine wpList_append_own _ rfl _ _ 70 rfl w3.heap.size 3 i0 (.int .i64 0) 1 8 Tryd.underlying70 hi hz0 hz1 hz2 rfl (by decide) _ _ _ rfl (hown.alloc _) ⟨wr.heap.size, 0, none⟩ 1 1 [.int .i64 ((dig (p * 256 ^ 8) k : Nat) : Int)] rfl rfl ?c1 ?c2 ?c3 ?c4 ?c5 ?_)
        case c1 => rw [HD.out]; exact own_oneQ _ _
        case c2 => simp [Value.oneCell']
        case c3 => unfold maxLen; omega
        case c4 => omega
        case c5 => simp; omega
        intro v' w4 hown' hgrow _
        rw [dg_succQ] at hown'
        have hr := fun g hg => (hown.lt g hg).1
        have bX : Below w3.heap.size w3 w4 := (bZ.alloc (o := .cells #[.int .i64 0] 3) (by omega)).grown hgrow (by simp; omega) (fun g hg => by have := hr g hg; omega)
        clear hown hgrow bZ hr
        go_wp2_with fail
        exact ⟨⟨k + 1, by omega, by go_num, hown', bX⟩, by simp only [intOf]; omega⟩
      · obtain rfl : k = 8 := by omega
        go_wp2_with fail
        refine (digits_refQ p wr HP.out).mono ?_
        rintro e w4 ⟨Lp, hLp, vp, rfl, ownp, hltp, b4⟩
        have hz4 := own_staysQ hown b4
        have bZ4 := bZ.trans (b4.mono sZ)
        clear hown b4
        go_wp2_with (at_builtin; refine append_num rfl _ _ rfl w3.heap.size _ 8 (dgQ (p * 256 ^ 8) 8) rfl hz4 wr.heap.size vp Lp p rfl ownp (by omega) bZ4.size ?_; intro vz w5 hown5 hgrow5)
        rw [dg_put] at hown5
        have bZ5 : Below w3.heap.size w3 w5 := bZ4.grown hgrow5 bZ4.size (fun g hg => (hz4.lt g hg).1)
        have hZlt : p * 256 ^ 8 < 256 ^ (8 + Lp) := by
          rw [Nat.pow_add, Nat.mul_comm]
          exact Nat.mul_lt_mul_of_pos_left hltp (Nat.pow_pos (by decide))
        have hzn := NumSQ.of_owns hown5 hZlt (by omega)
        have hyn := HY.out.stays bZ5
        have hbW := HB.out.trans (bZ5.mono HB.out.size)
        clear hz4 bZ4 hown5 hgrow5 hZlt ownp hltp bZ5 bZ sZ
        obtain ⟨LZ, hLZ⟩ : ∃ LZ, 8 + Lp = LZ := ⟨_, rfl⟩
        obtain ⟨Z, hZ⟩ : ∃ Z, p * 256 ^ 8 = Z := ⟨_, rfl⟩
        rw [hLZ, hZ] at hzn
        have hLZ2 : LZ ≤ 20 := by omega
        obtain ⟨t, ht, h1, h2, h3⟩ : ∃ t : Nat, max (LY : Int) (LZ : Int) = (t : Int) ∧ LY ≤ t ∧ LZ ≤ t ∧ t ≤ 30 := ⟨max LY LZ, by omega, by omega, by omega, by omega⟩
        have hYt : Y / 256 ^ t = 0 := Nat.div_eq_of_lt (Nat.lt_of_lt_of_le hyn.lt (Nat.pow_le_pow_right (by decide) h1))
        have hZt : Z / 256 ^ t = 0 := Nat.div_eq_of_lt (Nat.lt_of_lt_of_le hzn.lt (Nat.pow_le_pow_right (by decide) h2))
        have hst : Hid (Y / 256 ^ t = Z / 256 ^ t) := Lib.hid (by rw [hYt, hZt])
        obtain ⟨Ay, cy, rfl, hy1⟩ := hyn.sl
        obtain ⟨Az, cz, rfl, hz1⟩ := hzn.sl
        have HYN := Lib.hid hyn
        have HZN := Lib.hid hzn
        have hy9 : LY ≤ 9223372036854775807 := by omega
        have hz9 : LZ ≤ 9223372036854775807 := by omega
        have HZn := Lib.hid hZ
        clear hyn hzn hy1 hz1 hYt hZt hLZ2 HY hk hlt hLZ hZ hLp
        have q1 : (Builtin.len_ #[70] 3 #[Value.slice Ay LY cy]).run Tryd.prog w5 = .ok (goInt LY) w5 := by simp [Builtin.len_, run_underlying Tryd.underlying70, go_sem]
        have q2 : (Builtin.len_ #[70] 3 #[Value.slice Az LZ cz]).run Tryd.prog w5 = .ok (goInt LZ) w5 := by simp [Builtin.len_, run_underlying Tryd.underlying70, go_sem]
        go_wp2_with fail
        rw [q1]
        go_simp
        go_wp2_with fail
        clear q1 q2 ht h1 h2
        have htI : ∃ z : Int, z = (t : Int) - 1 := ⟨_, rfl⟩
        go_loopw [12] (fun i wr => ∃ (k : Nat) (z : Int), k ≤ 30 ∧ z = (k : Int) - 1 ∧ i = .int .i64 z ∧ Hid (Y / 256 ^ k = Z / 256 ^ k) ∧ Hid (Below w.heap.size w wr) ∧ Hid (NumSQ wr (.slice Ay LY cy) LY Y) ∧ Hid (NumSQ wr (.slice Az LZ cz) LZ Z)) (fun i _ => ((intOf i) + 1).toNat)
        case atStart => exact ⟨t, _, h3, rfl, rfl, hst, Lib.hid hbW, HYN, HZN⟩
        case round =>
          clear hst hbW HYN HZN htI h3
          obtain ⟨k, z, hk, hz, rfl, hst, HB, HYN, HZN⟩ := hrel
          cases k with
          | zero =>
            obtain rfl : z = -1 := by omega
            clear hz hk
            have he := hst.out
            simp only [Nat.pow_zero, Nat.div_one] at he
            go_wp2_with fail
            go_ret
            refine ⟨?_, HB.out⟩
            show Ending.returned (Value.bool true) = Ending.returned (Value.bool (sqOk p n))
            rw [sqOk, HYn.out, HZn.out, decide_eq_true (Nat.le_of_eq he)]
          | succ k =>
            obtain rfl : z = (k : Int) := by omega
            clear hz
            have hd1 := dig_lt Y k
            have hd2 := dig_lt Z k
            go_wp2_with fail
            refine (at_refQ (.slice Ay LY cy) LY Y k wr HYN.out (by omega)).mono ?_
            rintro e w6 ⟨rfl, rfl⟩
            go_wp2_with fail
            refine (at_refQ (.slice Az LZ cz) LZ Z k wr HZN.out (by omega)).mono ?_
            rintro e w6 ⟨rfl, rfl⟩
            by_cases hne : dig Y k = dig Z k
            · have hs := Lib.hid (less_sameQ hst.out hne)
              rw [hne]
              go_wp2_with fail
              exact ⟨⟨k, (k : Int) - 1, by omega, rfl, rfl, hs, HB, HYN, HZN⟩, by simp only [intOf]; omega⟩
            · have hl := Lib.hid (less_hereQ hst.out hne)
              obtain ⟨a, ha⟩ : ∃ a, dig Y k = a := ⟨_, rfl⟩
              obtain ⟨b, hb⟩ : ∃ b, dig Z k = b := ⟨_, rfl⟩
              rw [ha, hb]
              rw [ha, hb] at hne hl
              have hI : ((a : Int) == (b : Int)) = false := by simp; omega
              go_wp2_with fail
              go_ret
              refine ⟨?_, HB.out⟩
              show Ending.returned (Value.bool (decide (a < b))) = Ending.returned (Value.bool (sqOk p n))
              have h1 := hl.out
              have h2 : Y = Z → a = b := fun e => by rw [← ha, ← hb, e]
              rw [sqOk, HYn.out, HZn.out]
              congr 2
              exact decide_eq_decide.2 (by omega)
  | true =>
    go_enter Tryd.func71, Tryd.ntmps71
    go_wp2_with fail
    refine (digits_refQ n w hn).mono ?_
    rintro e w1 ⟨L, hL, v, rfl, own, hlt, b1⟩
    have hx := NumSQ.of_owns own hlt (by omega)
    clear own hlt hn
    go_wp2_with fail
    refine (times_refQ v v L L n n w1 hx hx (by omega)).mono ?_
    rintro e w2 ⟨v2, rfl, h2, b2⟩
    have bV := b1.trans (b2.mono b1.size)
    have hx2 := hx.stays b2
    clear b1 b2 hx
    go_wp2_with fail
    refine (times_refQ v2 v (L + L + 1) L (n * n) n w2 h2 hx2 (by omega)).mono ?_
    rintro e w3 ⟨vy, rfl, hy, b3⟩
    have bW := bV.trans (b3.mono bV.size)
    clear bV b3 hx2 h2
    obtain ⟨LY, hLY⟩ : ∃ l, L + L + 1 + L + 1 = l := ⟨_, rfl⟩
    obtain ⟨Y, hY⟩ : ∃ y, n * n * n = y := ⟨_, rfl⟩
    rw [hLY, hY] at hy
    have hLY2 : LY ≤ 26 := by omega
    have HYn := Lib.hid hY
    have HB := Lib.hid bW
    have HY := Lib.hid hy
    have hz : True := trivial
    clear hLY hY hy
    go_wp2_with fail
    have sW := bW.size
    have o0 := own_emptyQ w3 (Nat.le_refl w3.heap.size)
    have bZ : Below w3.heap.size w3 (w3.alloc (.cells #[] 3)) := (Below.refl _ _).alloc (Nat.le_refl _) _
    clear hz bW sW
    go_loopw [10, 11] (fun v i wr => ∃ k : Nat, k ≤ 12 ∧ i = .int .i64 (k : Int) ∧ wr.ownsRow w3.heap.size 3 1 v k (dgQ (p * 256 ^ 12) k) ∧ Below w3.heap.size w3 wr) (fun _ i _ => 12 - (intOf i).toNat)
    case atStart => exact ⟨0, by omega, rfl, o0, bZ⟩
    case round =>
      clear o0 bZ
      obtain ⟨k, hk, rfl, hown, bZ⟩ := hrel
      have sZ := bZ.size
      by_cases hlt : k < 12
      · have hd := dig_low p 12 hlt
        have HD := Lib.hid hd
        clear hd
        go_wp2_with (at_builtin; refine wpList_append_own _ rfl _ _ 70 rfl w3.heap.size 3 i0 (.int .i64 0) 1 8 Tryd.underlying70 hi hz0 hz1 hz2 rfl (by decide) _ _ _ rfl (hown.alloc _) ⟨wr.heap.size, 0, none⟩ 1 1 [.int .i64 ((dig (p * 256 ^ 12) k : Nat) : Int)] rfl rfl ?c1 ?c2 ?c3 ?c4 ?c5 ?_)
        case c1 => rw [HD.out]; exact own_oneQ _ _
        case c2 => simp [Value.oneCell']
        case c3 => unfold maxLen; omega
        case c4 => omega
        case c5 => simp; omega
        intro v' w4 hown' hgrow _
        rw [dg_succQ] at hown'
        have hr := fun g hg => (hown.lt g hg).1
        have bX : Below w3.heap.size w3 w4 := (bZ.alloc (o := .cells #[.int .i64 0] 3) (by omega)).grown hgrow (by simp; omega) (fun g hg => by have := hr g hg; omega)
        clear hown hgrow bZ hr
        go_wp2_with fail
        exact ⟨⟨k + 1, by omega, by go_num, hown', bX⟩, by simp only [intOf]; omega⟩
      · obtain rfl : k = 12 := by omega
        go_wp2_with fail
        refine (digits_refQ p wr HP.out).mono ?_
        rintro e w4 ⟨Lp, hLp, vp, rfl, ownp, hltp, b4⟩
        have hz4 := own_staysQ hown b4
        have bZ4 := bZ.trans (b4.mono sZ)
        clear hown b4
        go_wp2_with (at_builtin; refine append_num rfl _ _ rfl w3.heap.size _ 12 (dgQ (p * 256 ^ 12) 12) rfl hz4 wr.heap.size vp Lp p rfl ownp (by omega) bZ4.size ?_; intro vz w5 hown5 hgrow5)
        rw [dg_put] at hown5
        have bZ5 : Below w3.heap.size w3 w5 := bZ4.grown hgrow5 bZ4.size (fun g hg => (hz4.lt g hg).1)
        have hZlt : p * 256 ^ 12 < 256 ^ (12 + Lp) := by
          rw [Nat.pow_add, Nat.mul_comm]
          exact Nat.mul_lt_mul_of_pos_left hltp (Nat.pow_pos (by decide))
        have hzn := NumSQ.of_owns hown5 hZlt (by omega)
        have hyn := HY.out.stays bZ5
        have hbW := HB.out.trans (bZ5.mono HB.out.size)
        clear hz4 bZ4 hown5 hgrow5 hZlt ownp hltp bZ5 bZ sZ
        obtain ⟨LZ, hLZ⟩ : ∃ LZ, 12 + Lp = LZ := ⟨_, rfl⟩
        obtain ⟨Z, hZ⟩ : ∃ Z, p * 256 ^ 12 = Z := ⟨_, rfl⟩
        rw [hLZ, hZ] at hzn
        have hLZ2 : LZ ≤ 20 := by omega
        obtain ⟨t, ht, h1, h2, h3⟩ : ∃ t : Nat, max (LY : Int) (LZ : Int) = (t : Int) ∧ LY ≤ t ∧ LZ ≤ t ∧ t ≤ 30 := ⟨max LY LZ, by omega, by omega, by omega, by omega⟩
        have hYt : Y / 256 ^ t = 0 := Nat.div_eq_of_lt (Nat.lt_of_lt_of_le hyn.lt (Nat.pow_le_pow_right (by decide) h1))
        have hZt : Z / 256 ^ t = 0 := Nat.div_eq_of_lt (Nat.lt_of_lt_of_le hzn.lt (Nat.pow_le_pow_right (by decide) h2))
        have hst : Hid (Y / 256 ^ t = Z / 256 ^ t) := Lib.hid (by rw [hYt, hZt])
        obtain ⟨Ay, cy, rfl, hy1⟩ := hyn.sl
        obtain ⟨Az, cz, rfl, hz1⟩ := hzn.sl
        have HYN := Lib.hid hyn
        have HZN := Lib.hid hzn
        have hy9 : LY ≤ 9223372036854775807 := by omega
        have hz9 : LZ ≤ 9223372036854775807 := by omega
        have HZn := Lib.hid hZ
        clear hyn hzn hy1 hz1 hYt hZt hLZ2 HY hk hlt hLZ hZ hLp
        have q1 : (Builtin.len_ #[70] 3 #[Value.slice Ay LY cy]).run Tryd.prog w5 = .ok (goInt LY) w5 := by simp [Builtin.len_, run_underlying Tryd.underlying70, go_sem]
        have q2 : (Builtin.len_ #[70] 3 #[Value.slice Az LZ cz]).run Tryd.prog w5 = .ok (goInt LZ) w5 := by simp [Builtin.len_, run_underlying Tryd.underlying70, go_sem]
        go_wp2_with fail
        rw [q1]
        go_simp
        go_wp2_with fail
        clear q1 q2 ht h1 h2
        have htI : ∃ z : Int, z = (t : Int) - 1 := ⟨_, rfl⟩
        go_loopw [12] (fun i wr => ∃ (k : Nat) (z : Int), k ≤ 30 ∧ z = (k : Int) - 1 ∧ i = .int .i64 z ∧ Hid (Y / 256 ^ k = Z / 256 ^ k) ∧ Hid (Below w.heap.size w wr) ∧ Hid (NumSQ wr (.slice Ay LY cy) LY Y) ∧ Hid (NumSQ wr (.slice Az LZ cz) LZ Z)) (fun i _ => ((intOf i) + 1).toNat)
        case atStart => exact ⟨t, _, h3, rfl, rfl, hst, Lib.hid hbW, HYN, HZN⟩
        case round =>
          clear hst hbW HYN HZN htI h3
          obtain ⟨k, z, hk, hz, rfl, hst, HB, HYN, HZN⟩ := hrel
          cases k with
          | zero =>
            obtain rfl : z = -1 := by omega
            clear hz hk
            have he := hst.out
            simp only [Nat.pow_zero, Nat.div_one] at he
            go_wp2_with fail
            go_ret
            refine ⟨?_, HB.out⟩
            show Ending.returned (Value.bool true) = Ending.returned (Value.bool (cuOk p n))
            rw [cuOk, HYn.out, HZn.out, decide_eq_true (Nat.le_of_eq he)]
          | succ k =>
            obtain rfl : z = (k : Int) := by omega
            clear hz
            have hd1 := dig_lt Y k
            have hd2 := dig_lt Z k
            go_wp2_with fail
            refine (at_refQ (.slice Ay LY cy) LY Y k wr HYN.out (by omega)).mono ?_
            rintro e w6 ⟨rfl, rfl⟩
            go_wp2_with fail
            refine (at_refQ (.slice Az LZ cz) LZ Z k wr HZN.out (by omega)).mono ?_
            rintro e w6 ⟨rfl, rfl⟩
            by_cases hne : dig Y k = dig Z k
            · have hs := Lib.hid (less_sameQ hst.out hne)
              rw [hne]
              go_wp2_with fail
              exact ⟨⟨k, (k : Int) - 1, by omega, rfl, rfl, hs, HB, HYN, HZN⟩, by simp only [intOf]; omega⟩
            · have hl := Lib.hid (less_hereQ hst.out hne)
              obtain ⟨a, ha⟩ : ∃ a, dig Y k = a := ⟨_, rfl⟩
              obtain ⟨b, hb⟩ : ∃ b, dig Z k = b := ⟨_, rfl⟩
              rw [ha, hb]
              rw [ha, hb] at hne hl
              have hI : ((a : Int) == (b : Int)) = false := by simp; omega
              go_wp2_with fail
              go_ret
              refine ⟨?_, HB.out⟩
              show Ending.returned (Value.bool (decide (a < b))) = Ending.returned (Value.bool (cuOk p n))
              have h1 := hl.out
              have h2 : Y = Z → a = b := fun e => by rw [← ha, ← hb, e]
              rw [cuOk, HYn.out, HZn.out]
              congr 2
              exact decide_eq_decide.2 (by omega)
end Go.Proofs.YtihefgpicnhdjaaDoor
/- What the functions root, Primes and Constants of the document's answers for sha do: the constants by roots of primes. -/
namespace Go.Proofs.YtihefgpicnhdjaaDoor
open Go.RowKit SmWord
set_option maxRecDepth 100000

theorem rt_next (f : Nat → Bool) (k n : Nat) : rt f (k + 1) n = rt f k (if f (n + 2 ^ k) then n + 2 ^ k else n) := by rw [rt]
theorem rt_none (f : Nat → Bool) (n : Nat) : rt f 0 n = n := by rw [rt]
/-- The bit that is tried while k are left. -/
def bt (k : Nat) : Nat := if k = 0 then 0 else 2 ^ (k - 1)
theorem bt_next (k : Nat) : bt (k + 1) = 2 ^ k ∧ bt (k + 1) / 2 = bt k := by
  have e : bt (k + 1) = 2 ^ k := by simp [bt]
  refine ⟨e, ?_⟩
  rw [e]
  cases k with
  | zero => simp [bt]
  | succ k => rw [Nat.pow_succ, Nat.mul_div_cancel _ (by decide)]; simp [bt]
theorem pow37 {k : Nat} (h : k ≤ 37) : 2 ^ k ≤ 137438953472 := Nat.le_trans (Nat.pow_le_pow_right (by decide) h) (by decide)
set_option maxHeartbeats 1000000 in
theorem root_core (p : Nat) (cube : Bool) (f : Nat → Bool) (w : World) (H : Hid (∀ (y : Nat) (w : World), y < B → Calls Tryd.prog 71 #[.int .u64 (y : Int), .int .u64 (p : Int), .bool cube] w fun e w' => e = .returned (.bool (f y)) ∧ Below w.heap.size w w')) :
    Calls Tryd.prog 48 #[.int .u64 (p : Int), .bool cube] w fun e w' => e = .returned (.int .u32 ((rt f 37 0 % D32 : Nat) : Int)) ∧ Below w.heap.size w w' := by
  obtain ⟨R, hR⟩ : ∃ R, rt f 37 0 = R := ⟨_, rfl⟩
  rw [hR]
  have HR := Lib.hid hR
  clear hR
  go_enter Tryd.func48, Tryd.ntmps48
  go_wp2_with fail
  go_loopw [5, 6] (fun n b wr => ∃ k x y : Nat, k ≤ 37 ∧ n = .int .u64 (x : Int) ∧ b = .int .u64 (y : Int) ∧ Hid (bt k = y) ∧ Hid (rt f k x = R) ∧ Hid (x + 2 ^ k ≤ 137438953472) ∧ Below w.heap.size w wr) (fun _ b _ => (intOf b).toNat)
  case atStart => exact ⟨37, 0, 68719476736, by omega, rfl, rfl, Lib.hid (by decide), HR, Lib.hid (by decide), Below.refl _ _⟩
  case round =>
    clear HR
    obtain ⟨k, x, y, hk, rfl, rfl, hy, HR, hx, bW⟩ := hrel
    have HB := Lib.hid bW
    clear bW
    cases k with
    | zero =>
      obtain rfl : y = 0 := by rw [← hy.out]; rfl
      have e := HR.out
      rw [rt_none] at e
      subst e
      have h8 := hx.out
      rw [Nat.pow_zero] at h8
      clear hk
      go_wp2_with fail
      go_ret
      refine ⟨?_, HB.out⟩
      rw [show ((x % D32 : Nat) : Int) = (x : Int) % 4294967296 by simp only [D32]; omega]
      rfl
    | succ k =>
      obtain ⟨b1, b2⟩ := bt_next k
      rw [hy.out] at b1 b2
      have hr := HR.out
      rw [rt_next, ← b1] at hr
      have hp2 := hx.out
      rw [Nat.pow_succ, ← b1] at hp2
      have hpos : 0 < y := by rw [b1]; exact Nat.two_pow_pos k
      obtain ⟨z, hz⟩ : ∃ z, x + y = z := ⟨_, rfl⟩
      rw [hz] at hr
      have hzI : (x : Int) + (y : Int) = (z : Int) := by omega
      have hzB : z < B := by simp only [B]; omega
      obtain ⟨y', hy'⟩ : ∃ y', y / 2 = y' := ⟨_, rfl⟩
      have e2 : IntKind.u64.wrap ((y : Int) / 2) = (y' : Int) := by rw [IntKind.wrap_u64]; omega
      have HY : Hid (bt k = y') := Lib.hid (by rw [← b2, hy'])
      have hyy : Hid (y' < y) := Lib.hid (by omega)
      have hx1 : Hid (z + 2 ^ k ≤ 137438953472) := Lib.hid (by rw [← b1]; omega)
      have hx2 : Hid (x + 2 ^ k ≤ 137438953472) := Lib.hid (by rw [← b1]; omega)
      have hx3 : x ≤ 137438953472 := by omega
      have hy3 : y ≤ 137438953472 := by omega
      have HZ := Lib.hid hr
      clear hr hp2 b1 b2 hz hy hx HR hy'
      go_wp2_with fail
      refine (H.out z wr hzB).mono ?_
      rintro e w1 ⟨rfl, b1⟩
      replace HB := Lib.hid (HB.out.trans (b1.mono HB.out.size))
      clear b1
      cases hf : f z with
      | true =>
        have HN : Hid (rt f k z = R) := Lib.hid (by have := HZ.out; rwa [hf, if_pos rfl] at this)
        go_wp2_with fail
        exact ⟨⟨k, z, y', by omega, rfl, rfl, HY, HN, hx1, HB.out⟩, by have := hyy.out; simp only [intOf]; omega⟩
      | false =>
        have HN : Hid (rt f k x = R) := Lib.hid (by have := HZ.out; rwa [hf, if_neg (by decide)] at this)
        go_wp2_with fail
        exact ⟨⟨k, x, y', by omega, rfl, rfl, HY, HN, hx2, HB.out⟩, by have := hyy.out; simp only [intOf]; omega⟩
theorem root_cube (p : Nat) (w : World) (hp : p < B) : Calls Tryd.prog 48 #[.int .u64 (p : Int), .bool true] w fun e w' => e = .returned (.int .u32 ((rt (cuOk p) 37 0 % D32 : Nat) : Int)) ∧ Below w.heap.size w w' :=
  root_core p true (cuOk p) w (Lib.hid fun y w hy => below_ref y p true w hy hp)
theorem root_square (p : Nat) (w : World) (hp : p < B) : Calls Tryd.prog 48 #[.int .u64 (p : Int), .bool false] w fun e w' => e = .returned (.int .u32 ((rt (sqOk p) 37 0 % D32 : Nat) : Int)) ∧ Below w.heap.size w w' :=
  root_core p false (sqOk p) w (Lib.hid fun y w hy => below_ref y p false w hy hp)

/-- The primes below p. -/
def lp (p : Nat) : List Nat := (List.range p).filter fun q => decide (2 ≤ q) && isP q 20
theorem lp_next (p : Nat) (h : 2 ≤ p) : lp (p + 1) = lp p ++ if isP p 20 then [p] else [] := by
  unfold lp
  rw [List.range_succ, List.filter_append]
  congr 1
  simp only [List.filter_cons, List.filter_nil, decide_eq_true h, Bool.true_and]
theorem lp_le (p : Nat) (h : 2 ≤ p) : ∀ k, (lp p).length ≤ (lp (p + k)).length
  | 0 => Nat.le_refl _
  | k + 1 => by
    have := lp_le p h k
    rw [← Nat.add_assoc, lp_next _ (by omega), List.length_append]
    omega
theorem lp_312 : lp 312 = prs := prs_all
theorem lp_311 : (lp 311).length = 63 := by
  have h := congrArg List.length (lp_next 311 (by decide))
  rw [lp_312, List.length_append, show isP 311 20 = true by decide +kernel] at h
  have e : prs.length = 64 := by decide
  rw [e] at h
  simpa using h.symm
theorem lp_short {p : Nat} (h : 2 ≤ p) (h2 : p ≤ 311) : (lp p).length < 64 := by
  have := lp_le p h (311 - p)
  rw [show p + (311 - p) = 311 by omega, lp_311] at this
  omega
theorem isP_next (p d : Nat) : isP p (d + 1) = (isP p d && !(decide (2 ≤ d ∧ d * d ≤ p) && p % d == 0)) := by rw [isP]
theorem isP_end {p d : Nat} (h : p < d * d) : ∀ k, isP p (d + k) = isP p d
  | 0 => rfl
  | k + 1 => by
    have h2 : d * d ≤ (d + k) * (d + k) := Nat.mul_le_mul (by omega) (by omega)
    rw [← Nat.add_assoc, isP_next, isP_end h k]
    have h3 : decide (2 ≤ d + k ∧ (d + k) * (d + k) ≤ p) = false := by simp; omega
    rw [h3]
    simp
theorem isP_two (p : Nat) : isP p 2 = true := by simp [isP]
def ul (l : List Nat) : List Value := l.map fun x => Value.int .u64 ((x : Nat) : Int)
theorem Tryd.infoU : (Tryd.prog.info? 23).map (fun i => (i.zero, i.size, i.bytes)) = some (some (.int .u64 0), 1, 8) := by kernel_rfl
theorem own_emptyU (w : World) {base : Nat} (hb : base ≤ w.heap.size) : (w.alloc (.cells #[] 23)).ownsRow base 23 1 (.slice (some ⟨w.heap.size, 0, none⟩) 0 0) 0 [] :=
  ⟨rfl, .inr ⟨w.heap.size, 0, #[], rfl, hb, heap_alloc_new _ _, Nat.le_refl _, Nat.zero_le _, rfl, rfl⟩⟩
theorem own_oneU (w : World) (x : Value) : ∀ j u, [x][j]? = some u → (w.alloc (.cells #[x] 23)).cell? ((⟨w.heap.size, 0, none⟩ : Addr).add j) = some u := fun j u h => by
  cases j with
  | zero =>
    have hu : u = x := by simpa using h.symm
    subst hu
    exact blk_cell (heap_alloc_new _ _) rfl
  | succ j => simp at h
theorem own_slice {w : World} {base : Nat} {e : TypeId} {v : Value} {k : Nat} {xs : List Value} (h : w.ownsRow base e 1 v k xs) : ∃ A c, v = .slice A k c := by
  rcases h.2 with ⟨rfl, rfl⟩ | ⟨g, cap, cur, rfl, _⟩
  · exact ⟨none, 0, rfl⟩
  · exact ⟨_, _, rfl⟩
set_option maxHeartbeats 2000000 in
theorem primes_ref (w : World) : Calls Tryd.prog 47 #[.int .i64 64] w fun e w' => ∃ v, e = .returned v ∧ w'.ownsRow w.heap.size 23 1 v 64 (ul prs) ∧ Below w.heap.size w w' := by
  obtain ⟨i0, hi, hz0, hz1, hz2⟩ := info_parts Tryd.infoU
  go_enter Tryd.func47, Tryd.ntmps47
  go_wp2_with fail
  have o0 := own_emptyU w (Nat.le_refl w.heap.size)
  have bW : Below w.heap.size w (w.alloc (.cells #[] 23)) := (Below.refl _ _).alloc (Nat.le_refl _) _
  go_loopw [3, 4] (fun v p wr => ∃ q m : Nat, 2 ≤ q ∧ q ≤ 312 ∧ p = .int .u64 (q : Int) ∧ Hid ((lp q).length = m) ∧ m ≤ 1000 ∧ Hid (wr.ownsRow w.heap.size 23 1 v m (ul (lp q))) ∧ Hid (Below w.heap.size w wr)) (fun _ p _ => 312 - (intOf p).toNat)
  case atStart => exact ⟨2, 0, by omega, by omega, rfl, Lib.hid (by decide), by omega, Lib.hid o0, Lib.hid bW⟩
  case round =>
    clear o0 bW
    obtain ⟨q, m, h2, h312, rfl, hm, hm1, HO, HB⟩ := hrel
    obtain ⟨A, c, rfl⟩ := own_slice HO.out
    by_cases hmore : m < 64
    · have hq : q ≤ 311 := by
        apply Classical.byContradiction
        intro h
        obtain rfl : q = 312 := by omega
        have := hm.out
        rw [lp_312, show prs.length = 64 by decide] at this
        omega
      clear h312
      go_wp2_with fail
      obtain ⟨wo, rfl⟩ : ∃ wo : World, wo = wr := ⟨_, rfl⟩
      go_loopw [5, 6] (fun b d wi => ∃ k : Nat, 2 ≤ k ∧ k ≤ 18 ∧ b = .bool (isP q k) ∧ d = .int .u64 (k : Int) ∧ wi = wo) (fun _ d _ => 18 - (intOf d).toNat)
      case atStart => exact ⟨2, by omega, by omega, by rw [isP_two], rfl, rfl⟩
      case round =>
        obtain ⟨k, hk2, hk18, rfl, rfl, rfl⟩ := hrel
        obtain ⟨e, he⟩ : ∃ e, k * k = e := ⟨_, rfl⟩
        have he1 : e ≤ 324 := by rw [← he]; exact Nat.le_trans (Nat.mul_le_mul hk18 hk18) (by decide)
        have heI : (k : Int) * (k : Int) = (e : Int) := by rw [← he]; simp
        by_cases hle : e ≤ q
        · obtain ⟨r, hr⟩ : ∃ r, q % k = r := ⟨_, rfl⟩
          have hrI : (q : Int) % (k : Int) = (r : Int) := by rw [← hr]; simp
          have hk17 : k ≤ 17 := by
            apply Classical.byContradiction
            intro h
            obtain rfl : k = 18 := by omega
            omega
          have hn : isP q (k + 1) = (isP q k && !(r == 0)) := by
            rw [isP_next, hr, decide_eq_true ⟨hk2, by rw [he]; exact hle⟩, Bool.true_and]
          have HN := Lib.hid hn
          clear hn hr he
          generalize isP q k = b at *
          by_cases h0 : r = 0
          · subst h0
            go_wp2_with fail
            exact ⟨⟨k + 1, by omega, by omega, by rw [HN.out]; simp, by go_num, trivial⟩, by simp only [intOf]; omega⟩
          · have hrf : ((r : Int) == 0) = false := by simp; omega
            go_wp2_with fail
            refine ⟨⟨k + 1, by omega, by omega, by rw [HN.out, show (r == 0) = false by simp; omega]; simp, by go_num, trivial⟩, by simp only [intOf]; omega⟩
        · have hend : isP q 20 = isP q k := by
            have := isP_end (p := q) (d := k) (by rw [he]; omega) (20 - k)
            rwa [show k + (20 - k) = 20 by omega] at this
          rw [← hend]
          have hln := lp_next q h2
          have HLN := Lib.hid hln
          clear hend hln he
          have hsz := HB.out.size
          cases hP : isP q 20 with
          | false =>
            have HL : lp (q + 1) = lp q := by have := HLN.out; rwa [hP, if_neg (by decide), List.append_nil] at this
            have HL2 := Lib.hid HL
            clear HL
            go_wp2_with fail
            exact ⟨⟨q + 1, m, by omega, by omega, by go_num, by rw [HL2.out]; exact hm, by omega, by rw [HL2.out]; exact HO, HB⟩, by simp only [intOf]; omega⟩
          | true =>
            have HL : lp (q + 1) = lp q ++ [q] := by have := HLN.out; rwa [hP, if_pos rfl] at this
            have HL2 := Lib.hid HL
            have HO1 := Lib.hid (HO.out.alloc (.cells #[Value.int .u64 (q : Int)] 23))
            clear HL
            go_wp2_with (at_builtin; refine wpList_append_own _ rfl _ _ 83 rfl w.heap.size 23 i0 (.int .u64 0) 1 8 Tryd.underlying83 hi hz0 hz1 hz2 rfl (by decide) _ _ _ rfl HO1.out ⟨_, 0, none⟩ 1 1 [.int .u64 ((q : Nat) : Int)] rfl rfl ?c1 ?c2 ?c3 ?c4 ?c5 ?_)
            case c1 => exact own_oneU _ _
            case c2 => simp [Value.oneCell']
            case c3 => unfold maxLen; omega
            case c4 => omega
            case c5 => simp; omega
            intro v' w4 hown' hgrow _
            have hown2 : w4.ownsRow w.heap.size 23 1 v' (m + 1) (ul (lp (q + 1))) := by
              rw [HL2.out]
              simpa [ul] using hown'
            have hr := fun g hg => (HO.out.lt g hg).1
            have bX : Below w.heap.size w w4 := (HB.out.alloc (o := .cells #[Value.int .u64 (q : Int)] 23) (by omega)).grown hgrow (by simp; omega) (fun g hg => by have := hr g hg; omega)
            have hm2 : Hid ((lp (q + 1)).length = m + 1) := Lib.hid (by rw [HL2.out, List.length_append, hm.out]; rfl)
            have HO2 := Lib.hid hown2
            have HB2 := Lib.hid bX
            clear hown' hgrow hr bX hown2 HO HB HO1
            go_wp2_with fail
            exact ⟨⟨q + 1, m + 1, by omega, by omega, by go_num, hm2, by omega, HO2, HB2⟩, by simp only [intOf]; omega⟩
    · have hq : q = 312 := by
        apply Classical.byContradiction
        intro h
        have := lp_short h2 (show q ≤ 311 by omega)
        rw [hm.out] at this
        omega
      subst hq
      have h64 : m = 64 := by rw [← hm.out, lp_312]; decide
      subst h64
      have HO2 : Hid (wr.ownsRow w.heap.size 23 1 (.slice A 64 c) 64 (ul prs)) := Lib.hid (by have := HO.out; rwa [lp_312] at this)
      clear HO hm h2 h312 hm1 hmore
      go_wp2_with fail
      go_ret
      exact ⟨_, rfl, HO2.out, HB.out⟩
end Go.Proofs.YtihefgpicnhdjaaDoor
/- What the function Constants of the document's answers for sha does: the constants of the rounds, and the first eight numbers, by roots of primes. -/
namespace Go.Proofs.YtihefgpicnhdjaaDoor
open Go.RowKit SmWord
set_option maxRecDepth 100000

/-- What is made behind i primes. -/
def kt (f : Nat → Nat) (i j : Nat) : Nat := if j < i then f j else 0
theorem kt_start (f : Nat → Nat) : ka (kt f 0) = zK := ka_congr fun i _ => by simp [kt]
theorem kt_startV (f : Nat → Nat) : va (kt f 0) = zVQ := va_congr fun i _ => by simp [kt]
theorem kt_end (f : Nat → Nat) : ka (kt f 64) = ka f := ka_congr fun i hi => by simp [kt, hi]
theorem kt_endV (f : Nat → Nat) {i : Nat} (h : 8 ≤ i) : va (kt f i) = va f := va_congr fun j hj => by rw [kt, if_pos (by omega)]
theorem kt_next (f : Nat → Nat) {i : Nat} (h : i < 64) : (ka (kt f i)).setIfInBounds i (.int .u32 ((f i : Nat) : Int)) = ka (kt f (i + 1)) := by
  rw [ka_set h]
  refine ka_congr fun j _ => ?_
  unfold kt
  by_cases e : j = i
  · subst e; simp
  · by_cases l : j < i
    · simp [e, l, show j < i + 1 by omega]
    · simp [e, l, show ¬ j < i + 1 by omega]
theorem kt_nextV (f : Nat → Nat) {i : Nat} (h : i < 8) : (va (kt f i)).setIfInBounds i (.int .u32 ((f i : Nat) : Int)) = va (kt f (i + 1)) := by
  rw [va_set h]
  refine va_congr fun j _ => ?_
  unfold kt
  by_cases e : j = i
  · subst e; simp
  · by_cases l : j < i
    · simp [e, l, show j < i + 1 by omega]
    · simp [e, l, show ¬ j < i + 1 by omega]
theorem prs_lt : ∀ i, i < 64 → prs.getD i 0 < 1000 := by decide
theorem ul_get {i : Nat} (h : i < 64) : (ul prs)[i]? = some (.int .u64 ((prs.getD i 0 : Nat) : Int)) := by
  have hl : i < prs.length := by simpa [prs] using h
  simp [ul, List.getD, List.getElem?_eq_getElem hl]
/-- The primes' row in memory. -/
theorem own_primes {w : World} {base : Nat} {v : Value} (h : w.ownsRow base 23 1 v 64 (ul prs)) : ∃ b c o, v = .slice (some ⟨b, 0, none⟩) 64 c ∧ b < w.heap.size ∧ w.heap[b]? = some o ∧ ∀ w' : World, w'.heap[b]? = some o → ∀ i, i < 64 → w'.cell? ⟨b, i, none⟩ = some (.int .u64 ((prs.getD i 0 : Nat) : Int)) := by
  rcases h.2 with ⟨_, h⟩ | ⟨g, cap, cur, rfl, hb, hg, h1, h2, h3, h4⟩
  · omega
  · refine ⟨g, cap, _, rfl, (Array.getElem?_eq_some_iff.1 hg).1, hg, fun w' hw' i hi => ?_⟩
    refine blk_cell hw' ?_
    have := ul_get hi
    rw [← h4, List.getElem?_take, if_pos (by omega)] at this
    simpa using this
section
variable {P : Program} {md : Region.Mode} {ops : Array Oper} {Q : Exit → Act → World → Prop} {listed : Array Bool} {a : Act} {w : World} {o : Oper} {K : Act → World → Prop}
theorem any_one {fuel : Nat} (i : Nat) (hr : Region.ready md ops listed = [i]) (h : wpOp P ops Q i (wpAny P md ops Q fuel (listed.setIfInBounds i true)) a w) : wpAny P md ops Q (fuel + 1) listed a w :=
  ⟨(fun h0 => by rw [hr] at h0; cases h0), fun k hk => by rw [hr] at hk; cases List.mem_singleton.1 hk; exact h⟩
theorem any_two {fuel : Nat} (i j : Nat) (hr : Region.ready md ops listed = [i, j]) (h : wpOp P ops Q i (wpAny P md ops Q fuel (listed.setIfInBounds i true)) a w) (h' : wpOp P ops Q j (wpAny P md ops Q fuel (listed.setIfInBounds j true)) a w) : wpAny P md ops Q (fuel + 1) listed a w :=
  ⟨(fun h0 => by rw [hr] at h0; cases h0), fun k hk => by
    rw [hr] at hk
    rcases List.mem_cons.1 hk with rfl | hk
    · exact h
    · cases List.mem_singleton.1 hk; exact h'⟩
theorem any_end (hr : Region.ready md ops listed = []) (h : Q .normal a w) : wpAny P md ops Q 0 listed a w := ⟨hr, h⟩
theorem op_load_row {i : Nat} (hi : ops[i]? = some o) (dd : Option Tmp) (hdst : o.dst = dd) (hgd : o.guard = none) (ty : TypeId) (x : Operand) (ho : o.op = .load ty x)
    (g : Nat) (hx : a.eval x = .pointer (some ⟨g, 0, none⟩)) (t : TypeId) (cs : Array Value) (fr : Nat × Nat) (d : TypeDesc) (hg : w.heap[g]? = some (.cells cs t fr))
    (hu : P.underlying ty = some d) (hd : (match d with | .struct _ | .array _ _ => true | _ => false) = true) (hs : (P.info? ty).map (·.size) = some cs.size)
    (h : K (a.put dd (.agg cs)) w) : wpOp P ops Q i K a w := by
  subst hdst
  unfold wpOp
  simp only [hi, Region.wanted, hgd, if_true]
  exact .inl (wp_load_row ty x ho g hx t cs fr d hg hu hd hs h)
theorem op_store_row {i : Nat} (hi : ops[i]? = some o) (dd : Option Tmp) (hdst : o.dst = dd) (hgd : o.guard = none) (t : TypeId) (p x : Operand) (ho : o.op = .store t p x) (b : Nat) (z c : Array Value) (hp : a.eval p = .pointer (some ⟨b, 0, none⟩)) (hx : a.eval x = .agg c) (hb : w.heap[b]? = some (.cells z t))
    (hs : (P.info? t).map (·.size) = some c.size) (hz : z.size = c.size) (h1 : c.all (·.oneCell') = true)
    (h : K (a.put dd undef) (w.setRow b c)) : wpOp P ops Q i K a w := by
  subst hdst
  unfold wpOp
  simp only [hi, Region.wanted, hgd, if_true]
  refine .inl ?_
  unfold Oper.wp
  rw [run_store_row ho hs hz h1 a.eval b w hp hx hb]
  exact h
theorem results_two {fn : Func} {p u : Tmp} {ty ty' : TypeId} (h : fn.results = #[.cell p ty, .cell u ty']) (tmps : Array Value) (w : World) (g g' : Nat) (t t' : TypeId) (cs cs' : Array Value) (fr fr' : Nat × Nat) (d d' : TypeDesc)
    (hp : tmps.getD p undef = .pointer (some ⟨g, 0, none⟩)) (hg : w.heap[g]? = some (.cells cs t fr))
    (hu : P.underlying ty = some d) (hd : (match d with | .struct _ | .array _ _ => true | _ => false) = true) (hi : (P.info? ty).map (·.size) = some cs.size)
    (hp2 : tmps.getD u undef = .pointer (some ⟨g', 0, none⟩)) (hg2 : w.heap[g']? = some (.cells cs' t' fr'))
    (hu2 : P.underlying ty' = some d') (hd2 : (match d' with | .struct _ | .array _ _ => true | _ => false) = true) (hi2 : (P.info? ty').map (·.size) = some cs'.size) :
    (results fn tmps).run P w = .ok (.tuple #[.agg cs, .agg cs']) w := by
  have hp' : tmps[p]?.getD undef = .pointer (some ⟨g, 0, none⟩) := by simpa using hp
  have hp2' : tmps[u]?.getD undef = .pointer (some ⟨g', 0, none⟩) := by simpa using hp2
  simp [results, h, hp', hp2', asAddr, run_loadVar_row w g t ty cs fr d hg hu hd hi, run_loadVar_row w g' t' ty' cs' fr' d' hg2 hu2 hd2 hi2]
end
set_option maxHeartbeats 4000000 in
theorem const_walk (w : World) : Calls Tryd.prog 23 #[] w fun e w' => e = .returned (.tuple #[.agg (ka ck), .agg (va ch0)]) ∧ Below w.heap.size w w' := by
  go_enter Tryd.func23, Tryd.ntmps23
  go_wp2_with (first | (refine wpList_alloc_row rfl 48 rfl zK zK_run ?_) | (refine wpList_alloc_row rfl 49 rfl zVQ zV_run ?_))
  have f0 : ((w.alloc (.cells zK 48)).alloc (.cells zVQ 49)).heap[w.heap.size]? = some (.cells zK 48) := blk_alloc (heap_alloc_new _ _)
  have f1 : ((w.alloc (.cells zK 48)).alloc (.cells zVQ 49)).heap[w.heap.size + 1]? = some (.cells zVQ 49) := heap_alloc2_new _ _ _
  have bW : Below w.heap.size w ((w.alloc (.cells zK 48)).alloc (.cells zVQ 49)) := ((Below.refl _ _).alloc (Nat.le_refl _) _).alloc (by simp) _
  generalize ((w.alloc (.cells zK 48)).alloc (.cells zVQ 49)) = W at *
  refine (primes_ref W).mono ?_
  rintro e w1 ⟨v, rfl, hown, b1⟩
  obtain ⟨pb, pc, po, rfl, hpb, hpo, hcell⟩ := own_primes hown
  have F0 := Lib.hid (stay b1 f0)
  have F1 := Lib.hid (stay b1 f1)
  have HB := Lib.hid (bW.trans (b1.mono bW.size))
  have hl1 : w.heap.size + 1 < w1.heap.size := (Array.getElem?_eq_some_iff.1 F1.out).1
  have HC := Lib.hid hcell
  have PO := Lib.hid hpo
  clear hown b1 bW f0 f1 hcell hpo
  have a0 : ((w1.alloc (.cells zK 48)).setRow w1.heap.size zK).heap[w1.heap.size]? = some (.cells zK 48) := blk_row (heap_alloc_new _ _)
  go_upto_region 3 with (first | (refine wpList_alloc_row rfl 48 rfl zK zK_run ?_) | (refine wpList_build_zero rfl 48 rfl Tryd.underlying48 Tryd.sizeOf47 zK zK_run ?_) | (refine wpList_store_row rfl 48 _ _ rfl _ zK zK rfl rfl (heap_alloc_new _ _) (infoArrK _) rfl (arr_one _ _ _) ?_))
  replace F0 := Lib.hid (blk_row_other (b := w1.heap.size) (c' := zK) (blk_alloc (o' := .cells zK 48) F0.out) (by omega))
  replace F1 := Lib.hid (blk_row_other (b := w1.heap.size) (c' := zK) (blk_alloc (o' := .cells zK 48) F1.out) (by omega))
  replace PO := Lib.hid (blk_row_other (b := w1.heap.size) (c' := zK) (blk_alloc (o' := .cells zK 48) PO.out) (by omega))
  replace HB := Lib.hid (below_setRow (HB.out.alloc HB.out.size (.cells zK 48)) HB.out.size zK)
  have hsz : ((w1.alloc (.cells zK 48)).setRow w1.heap.size zK).heap.size = w1.heap.size + 1 := by simp [World.setRow]
  obtain ⟨kb, hkb⟩ : ∃ kb, w1.heap.size = kb := ⟨_, rfl⟩
  rw [hkb] at a0 F0 F1 PO HB hsz hl1 hpb ⊢
  generalize (w1.alloc (.cells zK 48)).setRow kb zK = w2 at *
  have KB := Lib.hid a0
  clear a0 hkb
  have a0 : ((w2.alloc (.cells zVQ 49)).setRow w2.heap.size zVQ).heap[w2.heap.size]? = some (.cells zVQ 49) := blk_row (heap_alloc_new _ _)
  go_wp2_with (first | (refine wpList_alloc_row rfl 49 rfl zVQ zV_run ?_) | (refine wpList_build_zero rfl 49 rfl Tryd.underlying49 Tryd.sizeOf47 zVQ zV_run ?_) | (refine wpList_store_row rfl 49 _ _ rfl _ zVQ zVQ rfl rfl (heap_alloc_new _ _) (infoArrV _) rfl (arr_one _ _ _) ?_))
  rw [hsz] at a0
  have KV := Lib.hid a0
  have hvb : kb + 1 = w2.heap.size := hsz.symm
  replace F0 := Lib.hid (blk_row_other (b := kb + 1) (c' := zVQ) (blk_alloc (o' := .cells zVQ 49) F0.out) (by omega))
  replace F1 := Lib.hid (blk_row_other (b := kb + 1) (c' := zVQ) (blk_alloc (o' := .cells zVQ 49) F1.out) (by omega))
  replace PO := Lib.hid (blk_row_other (b := kb + 1) (c' := zVQ) (blk_alloc (o' := .cells zVQ 49) PO.out) (by omega))
  replace KB := Lib.hid (blk_row_other (b := kb + 1) (c' := zVQ) (blk_alloc (o' := .cells zVQ 49) KB.out) (by omega))
  replace HB := Lib.hid (below_setRow (HB.out.alloc HB.out.size (.cells zVQ 49)) (b := kb + 1) (by omega) zVQ)
  clear a0 hvb
  generalize (w2.alloc (.cells zVQ 49)).setRow (kb + 1) zVQ = w3 at *
  rw [← kt_start ck] at KB
  rw [← kt_startV ch0] at KV
  go_loopw [5] (fun i wr => ∃ k : Nat, k ≤ 64 ∧ i = .int .i64 k ∧ Hid (Below w.heap.size w wr) ∧ Hid (wr.heap[w.heap.size]? = some (.cells zK 48)) ∧ Hid (wr.heap[w.heap.size + 1]? = some (.cells zVQ 49)) ∧ Hid (wr.heap[pb]? = some po) ∧ Hid (wr.heap[kb]? = some (.cells (ka (kt ck k)) 48)) ∧ Hid (wr.heap[kb + 1]? = some (.cells (va (kt ch0 k)) 49))) (fun i _ => 64 - (intOf i).toNat)
  case atStart => exact ⟨0, by omega, rfl, HB, F0, F1, PO, KB, KV⟩
  case round =>
    clear HB F0 F1 PO KB KV hsz
    obtain ⟨k, hk, rfl, HB, F0, F1, PO, KB, KV⟩ := hrel
    by_cases hlt : k < 64
    · obtain ⟨p, hp⟩ : ∃ p, prs.getD k 0 = p := ⟨_, rfl⟩
      have hp1 : p < 1000 := by rw [← hp]; exact prs_lt k hlt
      have hpB : p < B := by simp only [B]; omega
      have cp := HC.out wr PO.out k hlt
      have hck := roots_cube k hlt
      rw [hp] at cp hck
      have HCK := Lib.hid hck
      have HP := Lib.hid hp
      clear hck hp
      go_wp2_with fail
      clear cp
      refine (root_cube p wr hpB).mono ?_
      rintro e w4 ⟨rfl, b4⟩
      rw [HCK.out]
      replace HB := Lib.hid (HB.out.trans (b4.mono HB.out.size))
      replace F0 := Lib.hid (stay b4 F0.out)
      replace F1 := Lib.hid (stay b4 F1.out)
      replace PO := Lib.hid (stay b4 PO.out)
      replace KB := Lib.hid (stay b4 KB.out)
      replace KV := Lib.hid (stay b4 KV.out)
      clear b4
      have cx := blk_cell KB.out (ka_get (S := kt ck k) hlt)
      have fz := blk_frozen (j := k) KB.out
      have h4 : (w4.setCell ⟨kb, k, none⟩ (.int .u32 ((ck k : Nat) : Int))).heap[kb]? = _ := blk_set KB.out _
      rw [kt_next ck hlt] at h4
      have KB5 := Lib.hid h4
      clear h4 KB
      go_upto_region 8 with fail
      replace HB := Lib.hid (HB.out.setCell (p := ⟨kb, k, none⟩) (by simp; omega) (.int .u32 ((ck k : Nat) : Int)))
      replace F0 := Lib.hid (blk_other (b := kb) (j := k) F0.out (by omega) (.int .u32 ((ck k : Nat) : Int)))
      replace F1 := Lib.hid (blk_other (b := kb) (j := k) F1.out (by omega) (.int .u32 ((ck k : Nat) : Int)))
      replace PO := Lib.hid (blk_other (b := kb) (j := k) PO.out (by omega) (.int .u32 ((ck k : Nat) : Int)))
      replace KV := Lib.hid (blk_other (b := kb) (j := k) KV.out (by omega) (.int .u32 ((ck k : Nat) : Int)))
      clear cx fz
      generalize w4.setCell ⟨kb, k, none⟩ (.int .u32 ((ck k : Nat) : Int)) = w5 at *
      by_cases h8 : k < 8
      · have cp := HC.out w5 PO.out k hlt
        have hch := roots_square k h8
        rw [HP.out] at cp hch
        have HCH := Lib.hid hch
        clear hch
        go_wp2_with fail
        clear cp
        refine (root_square p w5 hpB).mono ?_
        rintro e w6 ⟨rfl, b6⟩
        rw [HCH.out]
        replace HB := Lib.hid (HB.out.trans (b6.mono HB.out.size))
        replace F0 := Lib.hid (stay b6 F0.out)
        replace F1 := Lib.hid (stay b6 F1.out)
        replace PO := Lib.hid (stay b6 PO.out)
        replace KB5 := Lib.hid (stay b6 KB5.out)
        replace KV := Lib.hid (stay b6 KV.out)
        clear b6
        have cx := blk_cell KV.out (va_get (S := kt ch0 k) h8)
        have fz := blk_frozen (j := k) KV.out
        have h4 : (w6.setCell ⟨kb + 1, k, none⟩ (.int .u32 ((ch0 k : Nat) : Int))).heap[kb + 1]? = _ := blk_set KV.out _
        rw [kt_nextV ch0 h8] at h4
        have KV5 := Lib.hid h4
        clear h4 KV
        go_wp2_with fail
        exact ⟨⟨k + 1, by omega, by go_num, Lib.hid (HB.out.setCell (by simp; omega) _), Lib.hid (blk_other F0.out (by omega) _), Lib.hid (blk_other F1.out (by omega) _), Lib.hid (blk_other PO.out (by omega) _), Lib.hid (blk_other KB5.out (by omega) _), KV5⟩, by simp [intOf]; omega⟩
      · go_wp2_with fail
        exact ⟨⟨k + 1, by omega, by go_num, HB, F0, F1, PO, KB5, by rw [kt_endV ch0 (i := k + 1) (by omega), ← kt_endV ch0 (i := k) (by omega)]; exact KV⟩, by simp [intOf]; omega⟩
    · obtain rfl : k = 64 := by omega
      rw [kt_end] at KB
      rw [kt_endV ch0 (by decide)] at KV
      clear PO HC hpb
      go_wp2_with fail
      refine wp_region_any (by kernel_rfl) ?_
      have hb : Below w.heap.size w wr.drew := HB.out.drew
      have k0 : wr.drew.heap[kb]? = _ := KB.out
      have k1 : wr.drew.heap[kb + 1]? = _ := KV.out
      have r0 : wr.drew.heap[w.heap.size]? = _ := F0.out
      have r1 : wr.drew.heap[w.heap.size + 1]? = _ := F1.out
      change wpAny _ _ _ _ (0 + 1 + 1 + 1 + 1) #[false, false, false, false] _ wr.drew
      generalize wr.drew = W0 at *
      have r3 := blk_row_other (w := W0) (b := w.heap.size) (c' := ka ck) r1 (by omega)
      have k3 := blk_row_other (w := W0) (b := w.heap.size) (c' := ka ck) k1 (by omega)
      have e0 := blk_row_other (b := w.heap.size + 1) (c' := va ch0) (blk_row (w := W0) (c' := ka ck) r0) (by omega)
      have e1 := blk_row (c' := va ch0) r3
      refine any_two 0 1 (by kernel_rfl) ?_ ?_
      · refine op_load_row rfl (some 29) rfl rfl 48 _ rfl kb rfl 48 (ka ck) (0, 0) _ k0 Tryd.underlying48 rfl (infoArrK _) ?_
        refine any_two 1 2 (by kernel_rfl) ?_ ?_
        · refine op_load_row rfl (some 30) rfl rfl 49 _ rfl (kb + 1) rfl 49 (va ch0) (0, 0) _ k1 Tryd.underlying49 rfl (infoArrV _) ?_
          refine any_one 2 (by kernel_rfl) ?_
          refine op_store_row rfl none rfl rfl 48 _ _ rfl _ zK (ka ck) rfl rfl r0 (infoArrK _) rfl (arr_one _ _ _) ?_
          refine any_one 3 (by kernel_rfl) ?_
          refine op_store_row rfl none rfl rfl 49 _ _ rfl _ zVQ (va ch0) rfl rfl r3 (infoArrV _) rfl (arr_one _ _ _) ?_
          refine any_end (by kernel_rfl) ?_
          simp only [Act.put, List.setIfInBounds_toArray, List.set_cons_succ, List.set_cons_zero]
          go_wp2_with fail
          refine bodyPost_ret (v := .tuple #[.agg (ka ck), .agg (va ch0)]) (results_two rfl _ _ _ _ 48 49 (ka ck) (va ch0) (0, 0) (0, 0) _ _ rfl e0 Tryd.underlying48 rfl (infoArrK _) rfl e1 Tryd.underlying49 rfl (infoArrV _)) rfl ⟨rfl, below_setRow (below_setRow hb (Nat.le_refl _) _) (by omega) _⟩
        · refine op_store_row rfl none rfl rfl 48 _ _ rfl _ zK (ka ck) rfl rfl r0 (infoArrK _) rfl (arr_one _ _ _) ?_
          refine any_one 1 (by kernel_rfl) ?_
          refine op_load_row rfl (some 30) rfl rfl 49 _ rfl (kb + 1) rfl 49 (va ch0) (0, 0) _ k3 Tryd.underlying49 rfl (infoArrV _) ?_
          refine any_one 3 (by kernel_rfl) ?_
          refine op_store_row rfl none rfl rfl 49 _ _ rfl _ zVQ (va ch0) rfl rfl r3 (infoArrV _) rfl (arr_one _ _ _) ?_
          refine any_end (by kernel_rfl) ?_
          simp only [Act.put, List.setIfInBounds_toArray, List.set_cons_succ, List.set_cons_zero]
          go_wp2_with fail
          refine bodyPost_ret (v := .tuple #[.agg (ka ck), .agg (va ch0)]) (results_two rfl _ _ _ _ 48 49 (ka ck) (va ch0) (0, 0) (0, 0) _ _ rfl e0 Tryd.underlying48 rfl (infoArrK _) rfl e1 Tryd.underlying49 rfl (infoArrV _)) rfl ⟨rfl, below_setRow (below_setRow hb (Nat.le_refl _) _) (by omega) _⟩
      · refine op_load_row rfl (some 30) rfl rfl 49 _ rfl (kb + 1) rfl 49 (va ch0) (0, 0) _ k1 Tryd.underlying49 rfl (infoArrV _) ?_
        refine any_one 0 (by kernel_rfl) ?_
        refine op_load_row rfl (some 29) rfl rfl 48 _ rfl kb rfl 48 (ka ck) (0, 0) _ k0 Tryd.underlying48 rfl (infoArrK _) ?_
        refine any_one 2 (by kernel_rfl) ?_
        refine op_store_row rfl none rfl rfl 48 _ _ rfl _ zK (ka ck) rfl rfl r0 (infoArrK _) rfl (arr_one _ _ _) ?_
        refine any_one 3 (by kernel_rfl) ?_
        refine op_store_row rfl none rfl rfl 49 _ _ rfl _ zVQ (va ch0) rfl rfl r3 (infoArrV _) rfl (arr_one _ _ _) ?_
        refine any_end (by kernel_rfl) ?_
        simp only [Act.put, List.setIfInBounds_toArray, List.set_cons_succ, List.set_cons_zero]
        go_wp2_with fail
        refine bodyPost_ret (v := .tuple #[.agg (ka ck), .agg (va ch0)]) (results_two rfl _ _ _ _ 48 49 (ka ck) (va ch0) (0, 0) (0, 0) _ _ rfl e0 Tryd.underlying48 rfl (infoArrK _) rfl e1 Tryd.underlying49 rfl (infoArrV _)) rfl ⟨rfl, below_setRow (below_setRow hb (Nat.le_refl _) _) (by omega) _⟩
end Go.Proofs.YtihefgpicnhdjaaDoor
