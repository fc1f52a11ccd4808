/- Numbers of any length as the document's rows of digits to the base 256, with the constants of SHA-256: how they lie in memory; at and times. -/
import Derived.Test.YtnnodibjocilmaaDoorShA
import Derived.Test.YtnnodibjocilmaaDoorRefW
import Derived.Laws.AppendOwn
import Derived.Deep.LoopGhost
import Derived.Deep.DeepCutAuto
import Derived.Deep.WholeRow
import Derived.OwnWalk
import Derived.IntWalk
import Derived.Laws.OwnMore
namespace Go.Proofs.YtnnodibjocilmaaDoor
open Go.RowKit SmWord
set_option maxRecDepth 100000

namespace SmWord
theorem dig_up (X j : Nat) : X / 256 ^ j = 256 * (X / 256 ^ (j + 1)) + dig X j := by
  unfold dig
  rw [Nat.pow_succ, ← Nat.div_div_eq_div_mul]
  exact (Nat.div_add_mod _ _).symm
theorem low_succ (X j : Nat) : X % 256 ^ (j + 1) = X % 256 ^ j + 256 ^ j * dig X j := by
  unfold dig; rw [Nat.pow_succ, Nat.mod_mul]
theorem less_here {X Y j : Nat} (h : X / 256 ^ (j + 1) = Y / 256 ^ (j + 1)) (hne : dig X j ≠ dig Y j) : (X < Y) ↔ dig X j < dig Y j := by
  have hp : 0 < 256 ^ j := Nat.pow_pos (by decide)
  have hx := dig_up X j
  have hy := dig_up Y j
  have dx := Nat.div_add_mod X (256 ^ j)
  have dy := Nat.div_add_mod Y (256 ^ j)
  have mx := Nat.mod_lt X hp
  have my := Nat.mod_lt Y hp
  rw [h] at hx
  generalize 256 * (Y / 256 ^ (j + 1)) = z at *
  constructor
  · intro hlt
    apply Classical.byContradiction
    intro hn
    have h3 : Y / 256 ^ j + 1 ≤ X / 256 ^ j := by rw [hx, hy]; omega
    have h4 := Nat.mul_le_mul_left (256 ^ j) h3
    rw [Nat.mul_add, Nat.mul_one] at h4
    omega
  · intro hlt
    have h3 : X / 256 ^ j + 1 ≤ Y / 256 ^ j := by rw [hx, hy]; omega
    have h4 := Nat.mul_le_mul_left (256 ^ j) h3
    rw [Nat.mul_add, Nat.mul_one] at h4
    omega
theorem less_same {X Y j : Nat} (h : X / 256 ^ (j + 1) = Y / 256 ^ (j + 1)) (he : dig X j = dig Y j) : X / 256 ^ j = Y / 256 ^ j := by
  rw [dig_up X j, dig_up Y j, h, he]
end SmWord
/-- v is a slice of n digits, and their number is X. -/
structure NumS (w : World) (v : Value) (n X : Nat) : Prop where
  sl : ∃ A c, v = .slice A n c ∧ n ≤ c ∧ (0 < n → ∃ b off, A = some ⟨b, off, none⟩ ∧ b < w.heap.size ∧ ∀ i, i < n → w.cell? ⟨b, off + i, none⟩ = some (.int .i64 ((dig X i : Nat) : Int)))
  lt : X < 256 ^ n
  small : n ≤ 1000
theorem NumS.below {w w' : World} {v : Value} {n X : Nat} (h : NumS w v n X) {B : Nat} (hb : Below B w w') (hB : w.heap.size ≤ B) : NumS w' v n X := by
  obtain ⟨⟨A, c, rfl, hnc, hs⟩, hl, hm⟩ := h
  refine ⟨⟨A, c, rfl, hnc, fun hn => ?_⟩, hl, hm⟩
  obtain ⟨b, off, e, hlt, hc⟩ := hs hn
  exact ⟨b, off, e, Nat.lt_of_lt_of_le hlt hb.size, fun i hi => (hb.cell (p := ⟨b, off + i, none⟩) (Nat.lt_of_lt_of_le hlt hB)).trans (hc i hi)⟩
theorem NumS.stays {w w' : World} {v : Value} {n X : Nat} (h : NumS w v n X) (hb : Below w.heap.size w w') : NumS w' v n X := h.below hb (Nat.le_refl _)
/-- The n lowest digits, one behind the other. -/
def dg (X n : Nat) : List Value := (List.range n).map fun i => .int .i64 ((dig X i : Nat) : Int)
theorem dg_length (X n : Nat) : (dg X n).length = n := by simp [dg]
theorem dg_succ (X n : Nat) : dg X n ++ [.int .i64 ((dig X n : Nat) : Int)] = dg X (n + 1) := by simp [dg, List.range_succ]
theorem dg_get {X n i : Nat} (h : i < n) : (dg X n)[i]? = some (.int .i64 ((dig X i : Nat) : Int)) := by simp [dg, h]
theorem NumS.of_owns {w : World} {base : Nat} {v : Value} {n X : Nat} (h : w.ownsRow base 3 1 v n (dg X n)) (hl : X < 256 ^ n) (hn : n ≤ 1000) : NumS w v n X := by
  obtain ⟨hlen, h⟩ := h
  rcases h with ⟨rfl, rfl⟩ | ⟨g, cap, cur, rfl, hb, hc, h1, h2, h3, h4⟩
  · exact ⟨⟨none, 0, rfl, Nat.le_refl _, fun h => absurd h (by omega)⟩, hl, hn⟩
  · refine ⟨⟨_, cap, rfl, h1, fun _ => ⟨g, 0, rfl, (Array.getElem?_eq_some_iff.1 hc).1, fun i hi => ?_⟩⟩, hl, hn⟩
    rw [Nat.zero_add]
    refine blk_cell hc ?_
    have := dg_get (X := X) hi
    rw [← h4, Nat.mul_one, List.getElem?_take, if_pos hi] at this
    simpa using this
theorem Tryd.info3 : (Tryd.prog.info? 3).map (fun i => (i.zero, i.size, i.bytes)) = some (some (.int .i64 0), 1, 8) := by kernel_rfl
theorem dig_high {X n i : Nat} (h : X < 256 ^ n) (hi : n ≤ i) : dig X i = 0 := by
  unfold dig
  rw [Nat.div_eq_of_lt (Nat.lt_of_lt_of_le h (Nat.pow_le_pow_right (by decide) hi))]

set_option maxHeartbeats 1000000 in
theorem at_ref (v : Value) (n X i : Nat) (w : World) (h : NumS w v n X) (hi : i ≤ 1000000) :
    Calls Tryd.prog 20 #[v, .int .i64 (i : Int)] w fun e w' => e = .returned (.int .i64 ((dig X i : Nat) : Int)) ∧ w = w' := by
  obtain ⟨⟨A, c, rfl, _, hs⟩, hl, hm⟩ := h
  by_cases hlt : i < n
  · obtain ⟨b, off, rfl, hb, hc⟩ := hs (by omega)
    have c1 := hc i hlt
    clear hc hl
    go_enter Tryd.func20, Tryd.ntmps20
    go_wp2_with fail
    go_ret
    exact ⟨rfl, rfl⟩
  · rw [dig_high hl (by omega)]
    clear hs hl
    go_enter Tryd.func20, Tryd.ntmps20
    go_wp2_with fail
    go_ret
    exact ⟨rfl, rfl⟩

theorem own_empty (w : World) {base : Nat} (hb : base ≤ w.heap.size) : (w.alloc (.cells #[] 3)).ownsRow base 3 1 (.slice (some ⟨w.heap.size, 0, none⟩) 0 0) 0 [] :=
  ⟨rfl, .inr ⟨w.heap.size, 0, #[], rfl, hb, heap_alloc_new _ _, Nat.le_refl _, Nat.zero_le _, rfl, rfl⟩⟩
theorem own_one (w : World) (x : Value) : ∀ j u, [x][j]? = some u → (w.alloc (.cells #[x] 3)).cell? ((⟨w.heap.size, 0, none⟩ : Addr).add j) = some u := fun j u h => by
  cases j with
  | zero =>
    have hu : u = x := by simpa using h.symm
    subst hu
    exact blk_cell (heap_alloc_new _ _) rfl
  | succ j => simp at h
/-- What returns a number. -/
def RetN (n X : Nat) (w : World) (e : Ending) (w' : World) : Prop := ∃ v, e = .returned v ∧ NumS w' v n X ∧ Below w.heap.size w w'

theorem at_below (v : Value) (n X i : Nat) (w : World) (h : NumS w v n X) (hi : i ≤ 1000000) :
    Calls Tryd.prog 20 #[v, .int .i64 (i : Int)] w fun e w' => e = .returned (.int .i64 ((dig X i : Nat) : Int)) ∧ Below w.heap.size w w' :=
  (at_ref v n X i w h hi).mono fun _ _ ⟨h1, h2⟩ => ⟨h1, h2 ▸ Below.refl _ _⟩
theorem own_stays {w w' : World} {base : Nat} {e : TypeId} {s : Nat} {v : Value} {n : Nat} {xs : List Value} (h : w.ownsRow base e s v n xs) (hb : Below w.heap.size w w') : w'.ownsRow base e s v n xs := by
  obtain ⟨h0, h⟩ := h
  refine ⟨h0, ?_⟩
  rcases h with h | ⟨g, cap, cur, h1, h2, h3, h4⟩
  · exact .inl h
  · exact .inr ⟨g, cap, cur, h1, h2, stay hb h3, h4⟩

namespace SmWord
theorem row_full {m n i k : Nat} (hk : n < 256 ^ k) : rowT m n i k = m % 256 ^ (i + 1) * n := by
  unfold rowT
  rw [Nat.mod_eq_of_lt hk, low_succ, Nat.add_mul, Nat.mul_comm (dig m i)]
theorem row_over {m n i k l : Nat} (hn : n < 256 ^ l) (hk : l + 1 ≤ k) : rowC m n i k = 0 := by
  have h1 : n < 256 ^ k := Nat.lt_of_lt_of_le hn (Nat.pow_le_pow_right (by decide) (by omega))
  have h2 : rowT m n i k < 256 ^ (i + k) := by
    rw [row_full h1]
    have a1 : m % 256 ^ (i + 1) < 256 ^ (i + 1) := Nat.mod_lt _ (Nat.pow_pos (by decide))
    have a2 : m % 256 ^ (i + 1) * n ≤ 256 ^ (i + 1) * n := Nat.mul_le_mul_right _ (Nat.le_of_lt a1)
    have a3 : 256 ^ (i + 1) * n < 256 ^ (i + 1) * 256 ^ l := Nat.mul_lt_mul_of_pos_left hn (Nat.pow_pos (by decide))
    rw [← Nat.pow_add] at a3
    have a4 : 256 ^ (i + 1 + l) ≤ 256 ^ (i + k) := Nat.pow_le_pow_right (by decide) (by omega)
    omega
  unfold rowC
  rw [Nat.div_eq_of_lt h2, Nat.zero_sub]
end SmWord

/-- The digits while row i is under way, in L places: k of its steps are done. -/
def rowL (L m n i k : Nat) : Array Value := arr .i64 L (fun j => if j < i + k then ((dig (rowT m n i k) j : Nat) : Int) else ((dig (m % 256 ^ i * n) j : Nat) : Int))
def dL (L x : Nat) : Array Value := arr .i64 L (fun j => ((dig x j : Nat) : Int))
theorem rowL_start (L m n i : Nat) : rowL L m n i 0 = dL L (m % 256 ^ i * n) := arr_congr fun j _ => by rw [rowT_zero]; simp
theorem rowL_step (L m n i k : Nat) (hk : i + k < L) : (rowL L m n i k).setIfInBounds (i + k) (.int .i64 ((dig (rowT m n i (k + 1)) (i + k) : Nat) : Int)) = rowL L m n i (k + 1) := by
  unfold rowL
  rw [arr_set _ _ _ hk]
  refine arr_congr fun j _ => ?_
  by_cases h1 : j = i + k
  · subst h1; simp [show i + k < i + (k + 1) by omega]
  · by_cases h2 : j < i + k
    · simp [h1, h2, show j < i + (k + 1) by omega, row_low m n i k h2]
    · simp [h1, h2, show ¬ j < i + (k + 1) by omega]
theorem rowL_end (L m n i k : Nat) (hk : n < 256 ^ k) (hc : rowC m n i k = 0) : rowL L m n i k = dL L (m % 256 ^ (i + 1) * n) := arr_congr fun j _ => by
  have e := rowC_eq m n i k
  rw [hc, Nat.add_zero] at e
  by_cases h : j < i + k
  · rw [if_pos h, row_full hk]
  · rw [if_neg h, ← row_full hk]
    unfold dig
    have ep : 256 ^ j = 256 ^ (i + k) * 256 ^ (j - (i + k)) := by rw [← Nat.pow_add]; congr 1; omega
    rw [ep, ← Nat.div_div_eq_div_mul, ← Nat.div_div_eq_div_mul, e]
theorem dL_none (L n m : Nat) : dL L (m % 256 ^ 0 * n) = arr .i64 L (fun _ => 0) := arr_congr fun j _ => by simp [dig, Nat.mod_one]
theorem dL_num {w : World} {b L X : Nat} (h : w.heap[b]? = some (.cells (dL L X) 3)) (hX : X < 256 ^ L) (hL : L ≤ 1000) : NumS w (.slice (some ⟨b, 0, none⟩) L L) L X :=
  ⟨⟨_, _, rfl, Nat.le_refl _, fun _ => ⟨b, 0, rfl, (Array.getElem?_eq_some_iff.1 h).1, fun i hi => by rw [Nat.zero_add]; exact blk_cell h (arr_get .i64 _ hi)⟩⟩, hX, hL⟩
theorem made_row {w : World} {base g n : Nat} (h : w.ownsRow base 3 1 (.slice (some ⟨g, 0, none⟩) n n) n (madeCells #[.int .i64 0] n).toList) : w.heap[g]? = some (.cells (arr .i64 n (fun _ => 0)) 3) := by
  obtain ⟨_, h⟩ := h
  rcases h with ⟨h, _⟩ | ⟨g', cap, cur, h1, _, h3, _, _, h6, h7⟩
  · cases h
  · cases h1
    have e : cur = arr .i64 n (fun _ => 0) := by
      apply Array.ext'
      rw [List.take_of_length_le (by simp [h6])] at h7
      rw [h7]
      rw [toList_madeCells_one]
      unfold arr
      simp [List.map_const']
    rw [← e]; exact h3

set_option maxHeartbeats 4000000 in
theorem times_ref (v u : Value) (n m X Y : Nat) (w : World) (h : NumS w v n X) (g : NumS w u m Y) (hsm : n ≤ 400 ∧ m ≤ 400) : Calls Tryd.prog 19 #[v, u] w (RetN (n + m + 1) (X * Y) w) := by
  obtain ⟨i0, hi, hz0, hz1, hz2⟩ := info_parts Tryd.info3
  have h' := h
  have g' := g
  obtain ⟨⟨A, c, rfl, hnc, _⟩, hl, hm⟩ := h
  obtain ⟨⟨A', c', rfl, hnc', _⟩, gl, gm⟩ := g
  obtain ⟨L, hL⟩ : ∃ L, n + m + 1 = L := ⟨_, rfl⟩
  have hL1 : n + m + 1 ≤ L := by omega
  have hL2 : L ≤ 801 := by omega
  have hLi : ((n : Int) + (m : Int) + 1) = (L : Int) := by omega
  have hXY : X * Y < 256 ^ L := by
    have a1 : X * Y ≤ 256 ^ n * Y := Nat.mul_le_mul_right _ (Nat.le_of_lt hl)
    have a2 : 256 ^ n * Y ≤ 256 ^ n * 256 ^ m := Nat.mul_le_mul_left _ (Nat.le_of_lt gl)
    rw [← Nat.pow_add] at a2
    have a3 : 256 ^ (n + m) < 256 ^ L := Nat.pow_lt_pow_right (by decide) (by omega)
    omega
  rw [hL]
  have hXe : X % 256 ^ n * Y = X * Y := by rw [Nat.mod_eq_of_lt hl]
  have HS := Lib.hid hXY
  have HE := Lib.hid hXe
  have HL := Lib.hid hLi
  have HA := Lib.hid h'
  have HB := Lib.hid g'
  have HY := Lib.hid gl
  clear h' g' hl gl hXY hXe hL hLi
  go_enter Tryd.func19, Tryd.ntmps19
  go_upto_region 2 with (at_make; refine wpList_make_full _ rfl _ _ 48 rfl w.heap.size 3 i0 (.int .i64 0) 1 Tryd.underlying48 hi hz0 hz1 _ _ _ _ L rfl rfl HL.out HL.out ?b2 ?b3 ?b4 ?_)
  case b2 => rw [hz2]; omega
  case b3 => unfold maxLen; omega
  case b4 => exact Nat.le_refl _
  intro w1 hown hgrow
  have f5 := made_row hown
  have bW : Below w.heap.size w w1 := (Below.refl _ _).grown hgrow (Nat.le_refl _) (fun k hk => by cases hk)
  clear hown hgrow
  go_wp2_with fail
  go_loopw [6, 7, 8, 9, 19] (fun _ _ _ _ i wr => ∃ k : Nat, k ≤ n ∧ i = .int .i64 (k : Int) ∧ Below w.heap.size w wr ∧ wr.heap[w.heap.size]? = some (.cells (dL L (X % 256 ^ k * Y)) 3)) (fun _ _ _ _ i _ => n - (intOf i).toNat)
  case atStart => exact ⟨0, Nat.zero_le _, rfl, bW, by rw [dL_none]; exact f5⟩
  case round =>
    clear f5 bW
    obtain ⟨i, hin, rfl, bW, f5⟩ := hrel
    obtain ⟨wo, rfl⟩ : ∃ wo : World, wo = wr := ⟨_, rfl⟩
    by_cases hlt : i < n
    · rw [← rowL_start] at f5
      go_wp2_with fail
      go_loopw [7, 8, 9] (fun c k _ wr => ∃ q : Nat, q ≤ m + 1 ∧ k = .int .i64 (q : Int) ∧ c = .int .i64 ((rowC X Y i q : Nat) : Int) ∧ Below w.heap.size w wr ∧ wr.heap[w.heap.size]? = some (.cells (rowL L X Y i q) 3)) (fun _ k _ _ => m + 1 - (intOf k).toNat)
      case atStart => exact ⟨0, by omega, rfl, by rw [rowC_zero]; rfl, bW, f5⟩
      case round =>
        clear f5 bW
        obtain ⟨q, hq, rfl, rfl, bW, f5⟩ := hrel
        have d3 := rowC_le X Y i q
        have sW := bW.size
        by_cases hend : m ≤ q ∧ rowC X Y i q = 0
        · obtain ⟨he1, he2⟩ := hend
          have HF := Lib.hid (rowL_end L X Y i q (Nat.lt_of_lt_of_le HY.out (Nat.pow_le_pow_right (by decide) he1)) he2)
          rw [he2]
          clear he2
          have g1 : decide (q < m) = false := by simp; omega
          go_wp2_with fail
          exact ⟨⟨i + 1, by omega, by go_num, bW, by rw [← HF.out]; exact f5⟩, by simp only [intOf]; omega⟩
        · have hqm : q ≤ m := by
            apply Classical.byContradiction
            intro hn
            exact hend ⟨by omega, row_over HY.out (by omega)⟩
          have hbody : i + q < L := by omega
          have d1 := dig_lt X i
          have d2 := dig_lt Y q
          have d4 := dig_lt (X % 256 ^ i * Y) (i + q)
          have d5 : dig X i * dig Y q ≤ 65025 := by
            have := Nat.mul_le_mul (show dig X i ≤ 255 by omega) (show dig Y q ≤ 255 by omega)
            omega
          have d6 : ((dig X i : Nat) : Int) * ((dig Y q : Nat) : Int) ≤ 65025 := by rw [← Int.natCast_mul]; omega
          have d7 : 0 ≤ ((dig X i : Nat) : Int) * ((dig Y q : Nat) : Int) := by rw [← Int.natCast_mul]; omega
          clear d5
          obtain ⟨s1, s2⟩ := row_step X Y i q
          have S1 := Lib.hid s1
          have S2 := Lib.hid s2
          clear s1 s2
          have c5 : wr.cell? ⟨w.heap.size, i + q, none⟩ = some (.int .i64 ((dig (X % 256 ^ i * Y) (i + q) : Nat) : Int)) := blk_cell f5 (by unfold rowL; rw [arr_get .i64 _ hbody, if_neg (by omega)])
          have z5 := blk_frozen (j := i + q) f5
          have hb5 : w.heap.size < wr.heap.size := (Array.getElem?_eq_some_iff.1 f5).1
          obtain ⟨⟨A1, c1, e1, _, hs1⟩, _, _⟩ := HA.out.stays bW
          cases e1
          obtain ⟨b, off, rfl, hbl, hc⟩ := hs1 (by omega)
          have k1 := hc i hlt
          clear hs1 hc
          have HF := Lib.hid f5
          clear f5
          by_cases hqlt : q < m
          · have g1 : decide (q < m) = true := by simp; omega
            clear hend
            go_upto_region 9 with fail
            have k2 := fun g : Ext wr => (g.below.cell (p := ⟨b, off + i, none⟩) (by omega)).trans k1
            have c6 := fun g : Ext wr => (g.below.cell (p := ⟨w.heap.size, i + q, none⟩) hb5).trans c5
            have e1 : IntKind.i64.wrap ((i : Int) + (q : Int)) = ((i + q : Nat) : Int) := by rw [IntWalk.i64_in _ (by omega)]; omega
            have e2 : IntKind.i64.wrap (((dig X i : Nat) : Int) * ((dig Y q : Nat) : Int)) = ((dig X i : Nat) : Int) * ((dig Y q : Nat) : Int) := IntWalk.i64_in _ (by omega)
            have e3 : IntKind.i64.wrap (((dig (X % 256 ^ i * Y) (i + q) : Nat) : Int) + ((dig X i : Nat) : Int) * ((dig Y q : Nat) : Int)) = ((dig (X % 256 ^ i * Y) (i + q) : Nat) : Int) + ((dig X i : Nat) : Int) * ((dig Y q : Nat) : Int) := IntWalk.i64_in _ (by omega)
            have e4 : IntKind.i64.wrap (((dig (X % 256 ^ i * Y) (i + q) : Nat) : Int) + ((dig X i : Nat) : Int) * ((dig Y q : Nat) : Int) + ((rowC X Y i q : Nat) : Int)) = ((dig (X % 256 ^ i * Y) (i + q) : Nat) : Int) + ((dig X i : Nat) : Int) * ((dig Y q : Nat) : Int) + ((rowC X Y i q : Nat) : Int) := IntWalk.i64_in _ (by omega)
            refine region_ext (by kernel_rfl) (by kernel_rfl) ?_
            repeat (go_big_quiet_step ((go_at_call 20; with_reducible exact calls_ext (at_below _ m Y q _ ((HB.out.stays bW).stays (Ext.below _)) (by omega)))))
            refine wpQuiet_nil ?_
            rintro _ ⟨g, rfl⟩
            clear k2 c6 e1 e2 e3 e4 c5 z5 k1
            have f5 := stay g.below HF.out
            replace bW := bW.trans (g.below.mono bW.size)
            generalize g.on = wn at *
            have c5 : wn.cell? ⟨w.heap.size, i + q, none⟩ = some (.int .i64 ((dig (X % 256 ^ i * Y) (i + q) : Nat) : Int)) := blk_cell f5 (by unfold rowL; rw [arr_get .i64 _ hbody, if_neg (by omega)])
            have z5 := blk_frozen (j := i + q) f5
            clear HF
            have HF := Lib.hid f5
            clear f5
            go_wp2_with fail
            have v1 : (((dig (X % 256 ^ i * Y) (i + q) : Nat) : Int) + ((dig X i : Nat) : Int) * ((dig Y q : Nat) : Int) + ((rowC X Y i q : Nat) : Int)) % 256 = ((dig (rowT X Y i (q + 1)) (i + q) : Nat) : Int) := by rw [← S1.out]; rfl
            have v2 : (((dig (X % 256 ^ i * Y) (i + q) : Nat) : Int) + ((dig X i : Nat) : Int) * ((dig Y q : Nat) : Int) + ((rowC X Y i q : Nat) : Int)) / 256 = ((rowC X Y i (q + 1) : Nat) : Int) := by rw [← S2.out]; rfl
            rw [v1, v2]
            refine ⟨⟨q + 1, by omega, by go_num, rfl, bW.setCell (by simp) _, ?_⟩, by simp only [intOf]; omega⟩
            rw [← rowL_step L X Y i q hbody]
            exact blk_set HF.out _
          · have g1 : decide (q < m) = false := by simp; omega
            have hpos : 0 < rowC X Y i q := by omega
            clear hend
            go_upto_region 9 with fail
            have k2 := fun g : Ext wr => (g.below.cell (p := ⟨b, off + i, none⟩) (by omega)).trans k1
            have c6 := fun g : Ext wr => (g.below.cell (p := ⟨w.heap.size, i + q, none⟩) hb5).trans c5
            have e1 : IntKind.i64.wrap ((i : Int) + (q : Int)) = ((i + q : Nat) : Int) := by rw [IntWalk.i64_in _ (by omega)]; omega
            have e2 : IntKind.i64.wrap (((dig X i : Nat) : Int) * ((dig Y q : Nat) : Int)) = ((dig X i : Nat) : Int) * ((dig Y q : Nat) : Int) := IntWalk.i64_in _ (by omega)
            have e3 : IntKind.i64.wrap (((dig (X % 256 ^ i * Y) (i + q) : Nat) : Int) + ((dig X i : Nat) : Int) * ((dig Y q : Nat) : Int)) = ((dig (X % 256 ^ i * Y) (i + q) : Nat) : Int) + ((dig X i : Nat) : Int) * ((dig Y q : Nat) : Int) := IntWalk.i64_in _ (by omega)
            have e4 : IntKind.i64.wrap (((dig (X % 256 ^ i * Y) (i + q) : Nat) : Int) + ((dig X i : Nat) : Int) * ((dig Y q : Nat) : Int) + ((rowC X Y i q : Nat) : Int)) = ((dig (X % 256 ^ i * Y) (i + q) : Nat) : Int) + ((dig X i : Nat) : Int) * ((dig Y q : Nat) : Int) + ((rowC X Y i q : Nat) : Int) := IntWalk.i64_in _ (by omega)
            refine region_ext (by kernel_rfl) (by kernel_rfl) ?_
            repeat (go_big_quiet_step ((go_at_call 20; with_reducible exact calls_ext (at_below _ m Y q _ ((HB.out.stays bW).stays (Ext.below _)) (by omega)))))
            refine wpQuiet_nil ?_
            rintro _ ⟨g, rfl⟩
            clear k2 c6 e1 e2 e3 e4 c5 z5 k1
            have f5 := stay g.below HF.out
            replace bW := bW.trans (g.below.mono bW.size)
            generalize g.on = wn at *
            have c5 : wn.cell? ⟨w.heap.size, i + q, none⟩ = some (.int .i64 ((dig (X % 256 ^ i * Y) (i + q) : Nat) : Int)) := blk_cell f5 (by unfold rowL; rw [arr_get .i64 _ hbody, if_neg (by omega)])
            have z5 := blk_frozen (j := i + q) f5
            clear HF
            have HF := Lib.hid f5
            clear f5
            go_wp2_with fail
            have v1 : (((dig (X % 256 ^ i * Y) (i + q) : Nat) : Int) + ((dig X i : Nat) : Int) * ((dig Y q : Nat) : Int) + ((rowC X Y i q : Nat) : Int)) % 256 = ((dig (rowT X Y i (q + 1)) (i + q) : Nat) : Int) := by rw [← S1.out]; rfl
            have v2 : (((dig (X % 256 ^ i * Y) (i + q) : Nat) : Int) + ((dig X i : Nat) : Int) * ((dig Y q : Nat) : Int) + ((rowC X Y i q : Nat) : Int)) / 256 = ((rowC X Y i (q + 1) : Nat) : Int) := by rw [← S2.out]; rfl
            rw [v1, v2]
            refine ⟨⟨q + 1, by omega, by go_num, rfl, bW.setCell (by simp) _, ?_⟩, by simp only [intOf]; omega⟩
            rw [← rowL_step L X Y i q hbody]
            exact blk_set HF.out _
    · obtain rfl : i = n := by omega
      rw [HE.out] at f5
      go_wp2_with fail
      go_ret
      exact ⟨_, rfl, dL_num f5 HS.out (by omega), bW⟩
end Go.Proofs.YtnnodibjocilmaaDoor
