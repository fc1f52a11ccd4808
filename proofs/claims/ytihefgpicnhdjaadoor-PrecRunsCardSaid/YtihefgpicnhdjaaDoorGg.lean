/- Rows of bytes that a call appends to: with one byte, and with a slice of bytes; a slice of bytes as a string; a row of noughts. -/
import Derived.Test.YtihefgpicnhdjaaDoorGe
import Derived.Laws.AppendOwn
import Derived.Laws.AppendOwnNone
import Derived.Maps.AppendAt
import Derived.Lib.SlBytesRow
import Derived.Lib.ConvBytes
import Derived.Deep.OwnRows
import Derived.Deep.CutRange
namespace Go.Proofs.YtihefgpicnhdjaaDoor
open Go.RowKit SmWord
set_option maxRecDepth 100000

theorem Tryd.info8Q : (Tryd.prog.info? 5).map (fun i => (i.zero, i.size, i.bytes)) = some (some (.int .u8 0), 1, 1) := by kernel_rfl
theorem Tryd.parts8Q : ∃ i, Tryd.prog.info? 5 = some i ∧ i.zero = some (.int .u8 0) ∧ i.size = 1 ∧ i.bytes = 1 := info_parts Tryd.info8Q
/-- n bytes as a list. -/
def blQ (f : Nat → Nat) (n : Nat) : List Value := (List.range n).map fun i => Value.int .u8 ((f i : Nat) : Int)
theorem bl_length (f : Nat → Nat) (n : Nat) : (blQ f n).length = n := by simp [blQ]
theorem bl_get (f : Nat → Nat) {n i : Nat} (h : i < n) : (blQ f n)[i]? = some (.int .u8 ((f i : Nat) : Int)) := by simp [blQ, h]
theorem bl_snoc (f : Nat → Nat) (k : Nat) : blQ f k ++ [.int .u8 ((f k : Nat) : Int)] = blQ f (k + 1) := by
  unfold blQ
  rw [List.range_succ, List.map_append]
  rfl
theorem bl_congr {f g : Nat → Nat} {n : Nat} (h : ∀ i, i < n → f i = g i) : blQ f n = blQ g n := List.map_congr_left fun i hi => by rw [h i (List.mem_range.1 hi)]
theorem own_valQ {w : World} {base : Nat} {v : Value} {k : Nat} {xs : List Value} (h : w.ownsRow base 5 1 v k xs) : ∃ A c, v = .slice A k c := by
  rcases h.2 with ⟨rfl, rfl⟩ | ⟨g, cap, cur, rfl, _⟩
  · exact ⟨none, 0, rfl⟩
  · exact ⟨_, _, rfl⟩
/-- A slice of bytes is appended. -/
theorem append_slQ {ops : Array Oper} {rest : List Oper} {o : Oper} {a : Act} {w : World} {Q : Exit → Act → World → Prop} (hg : o.guard = none) (s x : Operand)
    (ho : o.op = .call { callee := .builtin .append, args := #[s, x], argTypes := #[22, 22] }) (base : Nat) (v : Value) (k : Nat) (xs : List Value) (hs : a.eval s = v) (hown : w.ownsRow base 5 1 v k xs)
    (A : Option Addr) (n c : Nat) (f : Nat → Nat) (hx : a.eval x = .slice A n c) (hA : A = none → n = 0 ∧ c = 0) (hsl : Sl w A n f) (hk : k + n ≤ 1000000) (hbase : base ≤ w.heap.size)
    (h : ∀ v' w', w'.ownsRow base 5 1 v' (k + n) (xs ++ blQ f n) → w.grownBy w' v.ownBlock → wpList Tryd.prog ops Q rest (a.put o.dst v') w') : wpList Tryd.prog ops Q (o :: rest) a w := by
  obtain ⟨i0, hi0, hz0, hz1, hz2⟩ := Tryd.parts8Q
  cases A with
  | none =>
    obtain ⟨rfl, rfl⟩ := hA rfl
    refine wpList_append_own_none hg s x 22 ho base 5 i0 1 Tryd.underlying22 hi0 v k xs hs hown hx (h v w (by simpa [blQ] using hown) ⟨rfl, rfl, rfl, Nat.le_refl _, fun _ _ _ => rfl⟩)
  | some ad =>
    refine wpList_append_own_at w hg s x 22 ho base 5 i0 (.int .u8 0) 1 1 Tryd.underlying22 hi0 hz0 hz1 hz2 rfl (by decide) v k xs hs hown ad n c (blQ f n) hx (by rw [bl_length, Nat.mul_one]) (fun j u hj => ?_) (fun u hu => ?_) (by unfold maxLen; omega) (by omega) hbase (fun v' w' h1 h2 _ _ => h v' w' h1 h2)
    · have hjn : j < n := by have := (List.getElem?_eq_some_iff.1 hj).1; rwa [bl_length] at this
      obtain ⟨b, off, e, _, hc⟩ := hsl.cells (by omega)
      cases e
      rw [bl_get f hjn] at hj
      cases hj
      have hadd : (⟨b, off, none⟩ : Addr).add j = ⟨b, off + j, none⟩ := by unfold Addr.add; split <;> simp_all
      rw [hadd]
      exact hc j hjn
    · simp [blQ] at hu
      obtain ⟨i, _, rfl⟩ := hu
      rfl
/-- A byte is appended. -/
theorem append_oneQ {ops : Array Oper} {rest : List Oper} {o : Oper} {a : Act} {w : World} {Q : Exit → Act → World → Prop} (hg : o.guard = none) (s x : Operand)
    (ho : o.op = .call { callee := .builtin .append, args := #[s, x], argTypes := #[22, 22] }) (base : Nat) (v : Value) (k : Nat) (xs : List Value) (hs : a.eval s = v) (hown : w.ownsRow base 5 1 v k xs)
    (ad : Addr) (u : Int) (hx : a.eval x = .slice (some ad) 1 1) (hnews : ∀ j v, [Value.int .u8 u][j]? = some v → w.cell? (ad.add j) = some v) (hk : k < 1000000) (hbase : base ≤ w.heap.size)
    (h : ∀ v' w', w'.ownsRow base 5 1 v' (k + 1) (xs ++ [.int .u8 u]) → w.grownBy w' v.ownBlock → wpList Tryd.prog ops Q rest (a.put o.dst v') w') : wpList Tryd.prog ops Q (o :: rest) a w := by
  obtain ⟨i0, hi0, hz0, hz1, hz2⟩ := Tryd.parts8Q
  refine wpList_append_own_at w hg s x 22 ho base 5 i0 (.int .u8 0) 1 1 Tryd.underlying22 hi0 hz0 hz1 hz2 rfl (by decide) v k xs hs hown ad 1 1 [.int .u8 u] hx rfl hnews (fun v hv => ?_) (by unfold maxLen; omega) (by omega) hbase (fun v' w' h1 h2 _ _ => h v' w' h1 h2)
  simp at hv
  subst hv
  rfl
theorem own_row {w : World} {base : Nat} {A : Option Addr} {k c : Nat} {f : Nat → Nat} (h : w.ownsRow base 5 1 (.slice A k c) k (blQ f k)) (hk : 0 < k) :
    ∃ g cur, A = some ⟨g, 0, none⟩ ∧ base ≤ g ∧ w.heap[g]? = some (.cells cur 5) ∧ k ≤ c ∧ ∀ i, i < k → cur[i]? = some (.int .u8 ((f i : Nat) : Int)) := by
  rcases h.2 with ⟨_, rfl⟩ | ⟨g, cap, cur, e, hb, hg, h1, h2, h3, h4⟩
  · omega
  · cases e
    refine ⟨g, cur, rfl, hb, hg, h1, fun i hi => ?_⟩
    have e : cur.toList[i]? = (cur.toList.take (k * 1))[i]? := by rw [List.getElem?_take_of_lt (by omega)]
    rw [← Array.getElem?_toList, e, h4, bl_get f hi]
def lenV : Value → Nat | .slice _ n _ => n | _ => 0
def strQ (l : List UInt8) : ByteArray := ⟨l.toArray⟩
theorem str_of (s : ByteArray) : strQ s.data.toList = s := by cases s; simp [strQ]
theorem str_sizeQ (l : List UInt8) : (strQ l).size = l.length := by simp [strQ, ByteArray.size]
theorem str_getQ (l : List UInt8) {i : Nat} (hi : i < (strQ l).size) : (strQ l)[i].toNat = (l.getD i 0).toNat := by
  have h : i < l.length := by rw [← str_sizeQ]; exact hi
  rw [List.getD, List.getElem?_eq_getElem h]
  rfl
/-- The signs of these bytes. -/
def bsQ (f : Nat → Nat) (n : Nat) : List UInt8 := (List.range n).map fun i => UInt8.ofNat (f i)
theorem bs_lengthQ (f : Nat → Nat) (n : Nat) : (bsQ f n).length = n := by simp [bsQ]
theorem bs_congrQ {f g : Nat → Nat} {n : Nat} (h : ∀ i, i < n → f i = g i) : bsQ f n = bsQ g n := by
  unfold bsQ
  exact List.map_congr_left fun i hi => by rw [h i (List.mem_range.1 hi)]
theorem conv_listQ (w : World) (b off c : Nat) (l : List UInt8) (h : ∀ i, i < l.length → w.cell? ⟨b, off + i, none⟩ = some (.int .u8 (((l.getD i 0).toNat : Nat) : Int))) :
    (convert 22 9 (.slice (some ⟨b, off, none⟩) l.length c)).run Tryd.prog w = .ok (.string (strQ l)) w := by
  have hb : Lib.Bytes w b off (strQ l) := fun i hi => by
    rw [h i (by rw [← str_sizeQ]; exact hi), str_getQ l hi]
  have := Lib.run_convert_whole (P := Tryd.prog) w 22 5 9 Tryd.underlying22 Tryd.underlying5 Tryd.underlying9 b off (strQ l) hb c
  rwa [str_sizeQ] at this
theorem conv_slQ {w : World} {A : Option Addr} {n c : Nat} {f : Nat → Nat} (h : Sl w A n f) :
    (convert 22 9 (.slice A n c)).run Tryd.prog w = .ok (.string (strQ (bsQ f n))) w := by
  by_cases hn : 0 < n
  · obtain ⟨b, off, rfl, _, hc⟩ := h.cells hn
    have := conv_listQ w b off c (bsQ f n) (fun i hi => by
      rw [bs_lengthQ] at hi
      rw [hc i hi]
      have e : (bsQ f n).getD i 0 = UInt8.ofNat (f i) := by simp [bsQ, List.getD, hi]
      rw [e]
      have := h.small i hi
      simp
      omega)
    rwa [bs_lengthQ] at this
  · obtain rfl : n = 0 := by omega
    cases A with
    | none => exact run_convert_bytes_nil (P := Tryd.prog) w 22 5 Tryd.underlying22 Tryd.underlying5 0 c 9 Tryd.underlying9
    | some a =>
      rw [run_convert_bytes_string w 22 9 5 (some a) 0 c Tryd.underlying22 Tryd.underlying5 Tryd.underlying9]
      exact run_bytesToString (P := Tryd.prog) w a 0 c [] (by kernel_rfl)

theorem Tryd.guardH : Tryd.prog.eqGuardType Tryd.prog.depth 42 = false := by kernel_rfl
theorem Tryd.cells8 : Tryd.prog.cellsOf 5 = 1 := by kernel_rfl
theorem equal_ha (f : Nat → Nat) (w : World) : (Op.equalIn 10000 42 (.agg (ha f)) (.agg (ha f))).run Tryd.prog w = .ok true w := by
  obtain ⟨r, hr, hiff⟩ := equal_ints (k := .u8) Tryd.underlying42 Tryd.underlying5 Tryd.cells8 (ha f) (ha f) (arr_size _ _ _) (arr_size _ _ _) (fun i hi => ⟨_, _, arr_get .u8 _ hi, arr_get .u8 _ hi⟩) w
  rw [hr, hiff.2 rfl]
theorem own_slQ {w : World} {base : Nat} {v : Value} {k : Nat} {f : Nat → Nat} (h : w.ownsRow base 5 1 v k (blQ f k)) (hf : ∀ i, i < k → f i < 256) : ∃ A c, v = .slice A k c ∧ k ≤ c ∧ Sl w A k f := by
  rcases h.2 with ⟨rfl, rfl⟩ | ⟨g, cap, cur, rfl, hb, hg, h1, h2, h3, h4⟩
  · exact ⟨none, 0, rfl, Nat.le_refl _, hf, fun h => by omega⟩
  · refine ⟨_, cap, rfl, h1, hf, fun h => ⟨g, 0, rfl, (Array.getElem?_eq_some_iff.1 hg).1, fun i hi => ?_⟩⟩
    rw [Nat.zero_add]
    refine blk_cell hg ?_
    have e : cur.toList[i]? = (cur.toList.take (k * 1))[i]? := by rw [List.getElem?_take_of_lt (by omega)]
    rw [← Array.getElem?_toList, e, h4, bl_get f hi]
theorem Tryd.make_bytesQ (n : Nat) (hn : n ≤ 140737488355328) (w : World) :
    (Instr.makeSlice 22 (.int .i64 (n : Int)) (.int .i64 (n : Int))).run Tryd.prog w = .ok (.slice (some ⟨w.heap.size, 0, none⟩) n n) (w.alloc (.cells (arr .u8 n (fun _ => 0)) 5)) := by
  have e : madeCells #[Value.int .u8 0] n = arr .u8 n (fun _ => 0) := by
    apply Array.ext
    · simp [arr_size, size_madeCells]
    · intro i h1 h2
      simp [arr, madeCells, Nat.mod_one]
  rw [← e]
  exact _root_.Go.run_make_row' 22 5 (.int .u8 0) 1 Tryd.underlying22 Tryd.info8Q rfl .i64 .i64 n (by omega) (by omega) w
end Go.Proofs.YtihefgpicnhdjaaDoor
/- What the function Sum of the document's own answers for sha does: the hash of bytes. -/
namespace Go.Proofs.YtihefgpicnhdjaaDoor
open Go.RowKit SmWord
set_option maxRecDepth 100000

/-- The constants, the eight numbers and the answer's variable lie behind what lay in w. -/
structure Four (w : World) (S : Nat → Nat) (x : World) : Prop where
  bel : Below w.heap.size w x
  k : x.heap[w.heap.size]? = some (.cells (ka ck) 48)
  h : x.heap[w.heap.size + 1]? = some (.cells (va S) 49)
  r : x.heap[w.heap.size + 1 + 1]? = some (.cells zH 42)
  size : w.heap.size + 3 ≤ x.heap.size
theorem Four.below {w x y : World} {S : Nat → Nat} (h : Four w S x) (hb : Below (w.heap.size + 3) x y) : Four w S y :=
  ⟨h.bel.trans (hb.mono (by omega)), (hb.block _ (by omega)).trans h.k, (hb.block _ (by omega)).trans h.h, (hb.block _ (by omega)).trans h.r, Nat.le_trans h.size hb.size⟩
theorem Four.stays {w x y : World} {S : Nat → Nat} (h : Four w S x) (hb : Below x.heap.size x y) : Four w S y := h.below (hb.mono h.size)
theorem Four.alloc {w x : World} {S : Nat → Nat} (h : Four w S x) (o : Obj) : Four w S (x.alloc o) := h.stays ((Below.refl _ _).alloc (Nat.le_refl _) o)
theorem Four.row {w x : World} {S : Nat → Nat} (h : Four w S x) {b : Nat} (hb : w.heap.size + 3 ≤ b) (c : Array Value) : Four w S (x.setRow b c) := h.below (below_setRow (Below.refl _ _) hb c)
theorem Four.put {w x : World} {S : Nat → Nat} (h : Four w S x) {b : Nat} (hb : w.heap.size + 3 ≤ b) (j : Nat) (v : Value) : Four w S (x.setCell ⟨b, j, none⟩ v) := h.below ((Below.refl _ _).setCell (p := ⟨b, j, none⟩) hb v)
theorem Four.puth {w x : World} {S T : Nat → Nat} (h : Four w S x) (j : Nat) (v : Value) (hv : (va S).setIfInBounds j v = va T) : Four w T (x.setCell ⟨w.heap.size + 1, j, none⟩ v) :=
  ⟨h.bel.setCell (p := ⟨w.heap.size + 1, j, none⟩) (by simp) v, blk_other h.k (by omega) v, by rw [← hv]; exact blk_set h.h v, blk_other h.r (by omega) v, by simpa [World.setCell] using h.size⟩

theorem rdQ (x n : Nat) (z : Int) (w : World) (hz : (n : Int) = z) (hx : x < D32) (h1 : 1 ≤ n) (h2 : n ≤ 31) :
    Calls Tryd.prog 49 #[.int .u32 (x : Int), .int .i64 z] w fun e w' => e = .returned (.int .u32 ((dn x n : Nat) : Int)) ∧ Below w.heap.size w w' := by
  subst hz
  exact rdown x n w hx h1 h2
theorem pad_here (f : Nat → Nat) (n : Nat) : padS f n n = 128 := by rw [padS, if_neg (by omega), if_pos rfl]
theorem pad_zero (f : Nat → Nat) {n k : Nat} (h1 : n < k) (h2 : k < 64 * nb n - 8) : padS f n k = 0 := by rw [padS, if_neg (by omega), if_neg (by omega), if_neg (by omega)]
theorem pad_count (f : Nat → Nat) {n m j i : Nat} (hL : m + 8 = 64 * nb n) (h : i + j = 7) : padS f n (m + j) = n * 8 / 256 ^ i % 256 := by
  have : n < 64 * nb n - 8 := by unfold nb; omega
  rw [padS, if_neg (by omega), if_neg (by omega), if_pos (by omega), show 64 * nb n - 1 - (m + j) = i by omega]
/-- A row while its numbers go up by one place: those behind q are there. -/
def shv (V : Nat → Nat) (q i : Nat) : Nat := if q < i then V (i - 1) else V i
theorem shv_start (V : Nat → Nat) : va (shv V 7) = va V := va_congr fun i hi => by rw [shv, if_neg (by omega)]
theorem shv_below (V : Nat → Nat) {q i : Nat} (h : i ≤ q) : shv V q i = V i := by rw [shv, if_neg (by omega)]
theorem shv_put (V : Nat → Nat) {q r : Nat} (h : r + 1 = q) (hq : q < 8) : (va (shv V q)).setIfInBounds q (.int .u32 ((V r : Nat) : Int)) = va (shv V r) := by
  rw [va_set hq]
  refine va_congr fun i hi => ?_
  unfold shv
  by_cases e : i = q
  · rw [if_pos e, if_pos (by omega), show i - 1 = r by omega]
  · rw [if_neg e]
    by_cases l : q < i
    · rw [if_pos l, if_pos (by omega)]
    · rw [if_neg l, if_neg (by omega)]
theorem rv_done (V : Nat → Nat) (c x : Nat) {n0 n4 : Nat} (e0 : rv V c x 0 = n0) (e4 : rv V c x 4 = n4) : va (fun i => if i = 0 then n0 else if i = 4 then n4 else shv V 0 i) = va (rv V c x) := va_congr fun i hi => by
  by_cases h0 : i = 0
  · rw [if_pos h0, h0, e0]
  · rw [if_neg h0]
    by_cases h4 : i = 4
    · rw [if_pos h4, h4, e4]
    · rw [if_neg h4, shv, if_pos (by omega), rv, if_neg h0, if_neg h4]
/-- The numbers of a piece behind t steps. -/
def wt (G : Nat → Nat) (t i : Nat) : Nat := if t ≤ 16 then (if i < t then m4 G i else 0) else sw (mm G) (t - 16) i
theorem wt_start (G : Nat → Nat) : ka (wt G 0) = zK := ka_congr fun i _ => by simp [wt]
theorem wt_16 (G : Nat → Nat) (k : Nat) : wt G (16 + k) = sw (mm G) k := funext fun i => by
  unfold wt
  by_cases h : 16 + k ≤ 16
  · obtain rfl : k = 0 := by omega
    rw [if_pos h, sw]
    rfl
  · rw [if_neg h, show 16 + k - 16 = k by omega]
theorem wt_put (G : Nat → Nat) {t : Nat} (h : t < 16) : (ka (wt G t)).setIfInBounds t (.int .u32 ((m4 G t : Nat) : Int)) = ka (wt G (t + 1)) := by
  rw [ka_set (by omega)]
  refine ka_congr fun i _ => ?_
  unfold wt
  rw [if_pos (show t ≤ 16 by omega), if_pos (show t + 1 ≤ 16 by omega)]
  by_cases e : i = t
  · subst e; simp
  · by_cases l : i < t
    · simp [e, l, show i < t + 1 by omega]
    · simp [e, l, show ¬ i < t + 1 by omega]
theorem hs_val (S : Nat → Nat) {t s : Nat} (h : 24 - 8 * (t % 4) = s) : (((S (t / 4) : Nat) : Int) / 2 ^ s).tmod 256 % 256 = ((hs S t : Nat) : Int) := by
  have e : ((S (t / 4) : Nat) : Int) / 2 ^ s = ((S (t / 4) / 2 ^ s : Nat) : Int) := by simp
  rw [e, Int.tmod_eq_emod_of_nonneg (Int.natCast_nonneg _), hs, h]
  omega
set_option maxHeartbeats 8000000 in
theorem rsum_walk (A : Option Addr) (n c : Nat) (f : Nat → Nat) (w : World) (hn : n ≤ 100000) (hA : A = none → n = 0 ∧ c = 0) (hs : Sl w A n f) :
    Calls Tryd.prog 24 #[.slice A n c, .agg (ka ck), .agg (va ch0)] w fun e w' => e = .returned (.agg (ha (shh f n))) ∧ Below w.heap.size w w' := by
  have HS := Lib.hid hs
  clear hs
  go_enter Tryd.func24, Tryd.ntmps24
  go_upto_region 2 with (first | (refine wpList_alloc_row rfl 42 rfl zH zH_run ?_))
  have H4 : Four w (bs64 (padS f n) 0) (((w.alloc (.cells (ka ck) 48)).alloc (.cells (va ch0) 49)).alloc (.cells zH 42)) :=
    ⟨(((Below.refl _ _).alloc (Nat.le_refl _) _).alloc (by simp) _).alloc (by simp; omega) _, blk_alloc (blk_alloc (heap_alloc_new _ _)), by rw [bs64_start]; exact blk_alloc (heap_alloc2_new _ _ _), by
      have := heap_alloc_new ((w.alloc (.cells (ka ck) 48)).alloc (.cells (va ch0) 49)) (.cells zH 42)
      simpa using this, by simp⟩
  have hs3 : (((w.alloc (.cells (ka ck) 48)).alloc (.cells (va ch0) 49)).alloc (.cells zH 42)).heap.size = w.heap.size + 1 + 1 + 1 := by simp
  obtain ⟨F, hF⟩ : ∃ F, padS f n = F := ⟨_, rfl⟩
  rw [hF] at H4
  have HF := Lib.hid hF
  clear hF
  generalize (((w.alloc (.cells (ka ck) 48)).alloc (.cells (va ch0) 49)).alloc (.cells zH 42)) = W0 at *
  have o0 : (W0.alloc (.cells #[] 5)).ownsRow (w.heap.size + 3) 5 1 (.slice (some ⟨w.heap.size + 1 + 1 + 1, 0, none⟩) 0 0) 0 (blQ f 0) :=
    ⟨rfl, .inr ⟨w.heap.size + 3, 0, #[], rfl, Nat.le_refl _, by have := heap_alloc_new W0 (.cells #[] 5); rw [hs3] at this; exact this, Nat.le_refl _, Nat.zero_le _, rfl, rfl⟩⟩
  replace H4 := H4.alloc (.cells #[] 5)
  generalize W0.alloc (.cells #[] 5) = W at *
  clear hs3
  have HQ := Lib.hid H4
  have HO := Lib.hid o0
  have HL := Lib.hid (HS.out.below H4.bel)
  clear H4 o0
  go_upto_region 3 with (at_builtin; refine append_slQ rfl _ _ rfl (w.heap.size + 3) _ 0 (blQ f 0) rfl HO.out A n c f rfl hA HL.out (by omega) HQ.out.size ?_; intro v1 w1 hown hgrow)
  rw [Nat.zero_add, show blQ f 0 ++ blQ f n = blQ F n from (List.nil_append _).trans (bl_congr fun i hi => by rw [← HF.out, pad_own f hi])] at hown
  have hb1 : Below (w.heap.size + 3) W w1 := (Below.refl _ _).grown hgrow HQ.out.size (fun b hb' => (HO.out.lt b hb').1)
  replace HQ := Lib.hid (HQ.out.below hb1)
  have HW := Lib.hid (hown.alloc (.cells #[Value.int .u8 128] 5))
  clear hgrow hb1 HO HL
  go_upto_region 4 with (at_builtin; refine append_oneQ rfl _ _ rfl (w.heap.size + 3) _ n (blQ F n) rfl HW.out ⟨w1.heap.size, 0, none⟩ 128 rfl (cell_one_new _ _ _) (by omega) (by have := HQ.out.size; simp; omega) ?_; intro v2 w2 hown2 hgrow2)
  rw [show (128 : Int) = ((F n : Nat) : Int) by rw [← HF.out, pad_here]; rfl, bl_snoc] at hown2
  have hb2 : Below (w.heap.size + 3) w1 w2 := ((Below.refl _ w1).alloc HQ.out.size (.cells #[Value.int .u8 128] 5)).grown hgrow2 (by have := HQ.out.size; simp; omega) (fun b hb' => (HW.out.lt b hb').1)
  replace HQ := Lib.hid (HQ.out.below hb2)
  clear hown HW hgrow2 hb2
  obtain ⟨A2, c2, rfl⟩ := own_valQ hown2
  have HO := Lib.hid hown2
  clear hown2
  obtain ⟨m, hL⟩ : ∃ m, m + 8 = 64 * nb n := ⟨64 * nb n - 8, by unfold nb; omega⟩
  have HLn := Lib.hid hL
  have hLn : n + 1 ≤ m ∧ m ≤ 200000 ∧ m < n + 65 ∧ m % 64 = 56 := by unfold nb at hL; omega
  clear hL
  go_loopw [7] (fun v wr => ∃ (k c' : Nat) (A' : Option Addr), v = .slice A' k c' ∧ n + 1 ≤ k ∧ k ≤ m ∧ Hid (wr.ownsRow (w.heap.size + 3) 5 1 (.slice A' k c') k (blQ F k)) ∧ Hid (Four w (bs64 F 0) wr)) (fun v _ => m - lenV v)
  case atStart => exact ⟨n + 1, c2, A2, rfl, Nat.le_refl _, hLn.1, HO, HQ⟩
  case round =>
    clear HO HQ
    obtain ⟨k, c', A', rfl, hk1, hk2, HO, HQ⟩ := hrel
    by_cases hmore : k % 64 = 56
    · obtain rfl : k = m := by omega
      have hnz : (((k : Nat) : Int) % 64 != 56) = false := by simp; omega
      obtain ⟨C, hC⟩ : ∃ C, n * 8 = C := ⟨_, rfl⟩
      have hCI : IntKind.u64.wrap ((n : Int) * 8) = (C : Int) := by rw [IntKind.wrap_u64]; omega
      have HC := Lib.hid hC
      clear hC
      go_wp2_with fail
      clear hnz hmore hCI hk1 hk2
      go_loopw [7, 9] (fun v i wr => ∃ (j c' : Nat) (z : Int) (A' : Option Addr), j ≤ 8 ∧ z = 7 - (j : Int) ∧ i = .int .i64 z ∧ v = .slice A' (k + j) c' ∧ Hid (wr.ownsRow (w.heap.size + 3) 5 1 (.slice A' (k + j) c') (k + j) (blQ F (k + j))) ∧ Hid (Four w (bs64 F 0) wr)) (fun _ i _ => (intOf i + 1).toNat)
      case atStart => exact ⟨0, c', 7, A', by omega, rfl, rfl, rfl, HO, HQ⟩
      case round =>
        clear HO HQ
        obtain ⟨j, c', z, A', hj, hz, rfl, rfl, HO, HQ⟩ := hrel
        by_cases hlt : j < 8
        ·
          obtain ⟨q, hq⟩ : ∃ q, q + j = 7 := ⟨7 - j, by omega⟩
          obtain rfl : z = (q : Int) := by omega
          clear hz
          obtain ⟨x, hx⟩ : ∃ x, F (k + j) = x := ⟨_, rfl⟩
          have hxv : C / 256 ^ q % 256 = x := by rw [← hx, ← HF.out, pad_count f HLn.out hq, HC.out]
          have hxI : ((C : Int) / 2 ^ (8 * q)).tmod 256 % 256 = (x : Int) := by
            have e : (C : Int) / 2 ^ (8 * q) = ((C / 2 ^ (8 * q) : Nat) : Int) := by simp
            rw [e, Int.tmod_eq_emod_of_nonneg (Int.natCast_nonneg _), Int.emod_emod, ← e, pow256, hxv]
          have hx8 : x < 256 := by omega
          have HX := Lib.hid hx
          have hs3 := HQ.out.size
          have HXI := Lib.hid hxI
          have HW := Lib.hid (HO.out.alloc (.cells #[Value.int .u8 (((C : Int) / 2 ^ (8 * q)).tmod 256 % 256)] 5))
          obtain ⟨p, hp⟩ : ∃ p, k + j = p := ⟨_, rfl⟩
          rw [hp] at HO HW HX ⊢
          have hp2 : k + (j + 1) = p + 1 := by omega
          have hp9 : p < 1000000 := by omega
          have HP := Lib.hid hp2
          clear hx hxv hp hp2 HO hxI
          go_wp2_with (at_builtin; refine append_oneQ rfl _ _ rfl (w.heap.size + 3) _ p (blQ F p) rfl HW.out ⟨wr.heap.size, 0, none⟩ (((C : Int) / 2 ^ (8 * q)).tmod 256 % 256) rfl (cell_one_new _ _ _) (by omega) (by simp; omega) ?_; intro v2 w2 hown2 hgrow2)
          rw [HXI.out, ← HX.out, bl_snoc] at hown2
          have hb2 : Below (w.heap.size + 3) wr w2 := ((Below.refl _ wr).alloc hs3 (.cells #[Value.int .u8 (((C : Int) / 2 ^ (8 * q)).tmod 256 % 256)] 5)).grown hgrow2 (by simp; omega) (fun b hb' => (HW.out.lt b hb').1)
          obtain ⟨A2, c2, rfl⟩ := own_valQ hown2
          exact ⟨⟨j + 1, c2, (q : Int) - 1, A2, by omega, by omega, rfl, by rw [HP.out], Lib.hid (by rw [HP.out]; exact hown2), Lib.hid (HQ.out.below hb2)⟩, by simp [intOf]⟩
        · obtain rfl : j = 8 := by omega
          obtain rfl : z = -1 := by omega
          clear hz
          obtain ⟨g, cur, rfl, hg1, hg, hkc, hcur⟩ := own_row HO.out (by omega)
          obtain ⟨L, hL⟩ : ∃ L, k + 8 = L := ⟨_, rfl⟩
          rw [hL] at hcur hkc ⊢
          have hL2 : L ≤ 200008 := by omega
          have hLJ : Hid (L = 64 * nb n) := Lib.hid (by rw [← hL, HLn.out])
          have HG := Lib.hid hg
          have HCur := Lib.hid hcur
          have hF8 : ∀ i, F i < 256 := by rw [← HF.out]; exact pad_lt HS.out.small
          have HF8 := Lib.hid hF8
          clear HO hj hlt hcur hg hL HLn hF8 hLn
          go_wp2_with fail
          go_loopw [10] (fun fr wr => ∃ j p : Nat, Hid (p = 64 * j) ∧ p ≤ L ∧ fr = .int .i64 p ∧ Hid (Four w (bs64 F j) wr) ∧ Hid (wr.heap[g]? = some (.cells cur 5))) (fun fr _ => L - (intOf fr).toNat)
          case atStart => exact ⟨0, 0, Lib.hid rfl, by omega, rfl, HQ, HG⟩
          case round =>
            clear HQ HG
            obtain ⟨j, p, hp, hpL, rfl, HQ, HG⟩ := hrel
            by_cases hpl : p < L
            · have hp64 : p + 64 ≤ L := by have := hp.out; have := hLJ.out; omega
              obtain ⟨G, hGe⟩ : ∃ G : Nat → Nat, (fun i => F (64 * j + i)) = G := ⟨_, rfl⟩
              have hG1 : ∀ i, i < 64 → cur[p + i]? = some (.int .u8 ((G i : Nat) : Int)) := fun i hi => by
                rw [HCur.out (p + i) (by omega), ← hGe, hp.out]
              have hG8 : ∀ i, G i < 256 := fun i => by rw [← hGe]; exact HF8.out _
              have HG1 := Lib.hid hG1
              have HG8 := Lib.hid hG8
              have HGe := Lib.hid hGe
              have HN : Hid (bs64 F (j + 1) = bk (bs64 F j) G) := Lib.hid (by rw [← bs64_next, hGe])
              have hS8 : ok8 (bs64 F j) := by rw [← HF.out]; exact bs64_lt _ _
              obtain ⟨S, hS⟩ : ∃ S, bs64 F j = S := ⟨_, rfl⟩
              rw [hS] at hS8 HN HQ
              have HS8 := Lib.hid hS8
              clear hG1 hG8 hGe hS8 hS
              have a0 : ((wr.alloc (.cells zK 48)).setRow wr.heap.size zK).heap[wr.heap.size]? = some (.cells zK 48) := blk_row (heap_alloc_new _ _)
              have hwz := HQ.out.size
              have hgl : g < wr.heap.size := (Array.getElem?_eq_some_iff.1 HG.out).1
              go_wp2_with (first | (refine wpList_alloc_row rfl 48 rfl zK zK_run ?_) | (refine wpList_build_zero rfl 48 rfl Tryd.underlying48 Tryd.sizeOf47 zK zK_run ?_) | (refine wpList_store_row rfl 48 _ _ rfl _ zK zK rfl rfl (heap_alloc_new _ _) (infoArrK _) rfl (arr_one _ _ _) ?_))
              replace HQ := Lib.hid ((HQ.out.alloc (.cells zK 48)).row hwz zK)
              replace HG := Lib.hid (blk_row_other (b := wr.heap.size) (c' := zK) (blk_alloc (o' := .cells zK 48) HG.out) (by omega))
              have KB : Hid (((wr.alloc (.cells zK 48)).setRow wr.heap.size zK).heap[wr.heap.size]? = some (.cells (ka (wt G 0)) 48)) := Lib.hid (by rw [wt_start]; exact a0)
              obtain ⟨wb, hwb⟩ : ∃ wb, wr.heap.size = wb := ⟨_, rfl⟩
              rw [hwb] at KB HQ HG hwz hgl ⊢
              clear a0 hwb
              generalize (wr.alloc (.cells zK 48)).setRow wb zK = w5 at *
              go_loopw [12] (fun i wr => ∃ t : Nat, t ≤ 64 ∧ i = .int .i64 t ∧ Hid (Four w S wr) ∧ Hid (wr.heap[g]? = some (.cells cur 5)) ∧ Hid (wr.heap[wb]? = some (.cells (ka (wt G t)) 48))) (fun i _ => 64 - (intOf i).toNat)
              case atStart => exact ⟨0, by omega, rfl, HQ, HG, KB⟩
              case round =>
                clear HQ HG KB
                obtain ⟨t, ht, rfl, HQ, HG, KB⟩ := hrel
                by_cases hlt : t < 64
                · by_cases h16 : t < 16
                  ·
                    obtain ⟨q, hq⟩ : ∃ q, p + 4 * t = q := ⟨_, rfl⟩
                    have hqI : (p : Int) + 4 * (t : Int) = (q : Int) := by omega
                    have hq4 : q + 4 ≤ c' := by omega
                    have hqc : ((c' : Int) == (q : Int)) = false := by simp; omega
                    go_upto_region 20 with fail
                    rw [Nat.add_sub_cancel_left]
                    clear hqc hqI
                    obtain ⟨x0, hx0⟩ : ∃ x, G (4 * t + 0) = x := ⟨_, rfl⟩
                    have b0 : x0 < 256 := by rw [← hx0]; exact HG8.out _
                    obtain ⟨x1, hx1⟩ : ∃ x, G (4 * t + 1) = x := ⟨_, rfl⟩
                    have b1 : x1 < 256 := by rw [← hx1]; exact HG8.out _
                    obtain ⟨x2, hx2⟩ : ∃ x, G (4 * t + 2) = x := ⟨_, rfl⟩
                    have b2 : x2 < 256 := by rw [← hx2]; exact HG8.out _
                    obtain ⟨x3, hx3⟩ : ∃ x, G (4 * t + 3) = x := ⟨_, rfl⟩
                    have b3 : x3 < 256 := by rw [← hx3]; exact HG8.out _
                    obtain ⟨z3, hz3⟩ : ∃ z, x0 * 16777216 + x1 * 65536 + x2 * 256 + x3 = z := ⟨_, rfl⟩
                    have hv : (x0 : Int) * 16777216 + (x1 : Int) * 65536 + (x2 : Int) * 256 + (x3 : Int) = (z3 : Int) := by omega
                    have HV := Lib.hid hv
                    have hm4 : Hid (m4 G t = z3) := Lib.hid (by rw [m4, hx1, hx2, hx3, ← hz3, ← hx0]; rfl)
                    have hcell : ∀ y : World, y.heap[g]? = some (.cells cur 5) → ∀ r, r < 4 → y.cell? ⟨g, q + r, none⟩ = some (.int .u8 ((G (4 * t + r) : Nat) : Int)) := fun y hy r hr => by
                      have := blk_cell hy (HG1.out (4 * t + r) (by omega))
                      rwa [← Nat.add_assoc, hq] at this
                    have HCell := Lib.hid hcell
                    have HX0 := Lib.hid hx0
                    have HX1 := Lib.hid hx1
                    have HX2 := Lib.hid hx2
                    have HX3 := Lib.hid hx3
                    clear hcell hx0 hx1 hx2 hx3 hz3 hv hq
                    try simp only [Act.put, List.setIfInBounds_toArray, List.set_cons_succ, List.set_cons_zero]
                    refine region_last2 (aQ := ?aQ) 24 (by kernel_rfl) (by kernel_rfl) (fun w1 => ?hq) (fun w0' hb' => ?hh)
                    case hq =>
                      have c0 : ∀ g' : Ext w1.on, g'.on.cell? ⟨g, q + 0, none⟩ = some (.int .u8 ((x0 : Nat) : Int)) := fun g' => by
                        have := HCell.out g'.on (g'.block (w1.block HG.out)) 0 (by decide)
                        rwa [HX0.out] at this
                      have c1 : ∀ g' : Ext w1.on, g'.on.cell? ⟨g, q + 1, none⟩ = some (.int .u8 ((x1 : Nat) : Int)) := fun g' => by
                        have := HCell.out g'.on (g'.block (w1.block HG.out)) 1 (by decide)
                        rwa [HX1.out] at this
                      have c2 : ∀ g' : Ext w1.on, g'.on.cell? ⟨g, q + 2, none⟩ = some (.int .u8 ((x2 : Nat) : Int)) := fun g' => by
                        have := HCell.out g'.on (g'.block (w1.block HG.out)) 2 (by decide)
                        rwa [HX2.out] at this
                      have c3 : ∀ g' : Ext w1.on, g'.on.cell? ⟨g, q + 3, none⟩ = some (.int .u8 ((x3 : Nat) : Int)) := fun g' => by
                        have := HCell.out g'.on (g'.block (w1.block HG.out)) 3 (by decide)
                        rwa [HX3.out] at this
                      rw [Nat.add_zero] at c0
                      simp only [List.take_succ_cons, List.take_zero]
                      repeat (go_big_quiet_step (fail))
                      refine wpQuiet_nil ?_
                      rfl
                    have kb : w0'.heap[wb]? = some (.cells (ka (wt G t)) 48) := Ext.block ⟨w0', hb'⟩ KB.out
                    replace HQ := Lib.hid (HQ.out.stays hb')
                    replace HG : Hid (w0'.heap[g]? = some (.cells cur 5)) := Lib.hid (Ext.block ⟨w0', hb'⟩ HG.out)
                    clear hb' KB
                    have cx := blk_cell kb (ka_get (S := wt G t) hlt)
                    have fz := blk_frozen (j := t) kb
                    have h4 : (w0'.setCell ⟨wb, t, none⟩ (.int .u32 ((z3 : Nat) : Int))).heap[wb]? = _ := blk_set kb _
                    rw [← hm4.out, wt_put G h16, hm4.out] at h4
                    have KB := Lib.hid h4
                    clear h4 kb
                    simp only [List.drop_succ_cons, List.drop_zero]
                    go_wp2_with fail
                    rw [HV.out]
                    exact ⟨⟨t + 1, by omega, by go_num, Lib.hid (HQ.out.put hwz _ _), Lib.hid (blk_other HG.out (by omega) _), KB⟩, by simp [intOf]; omega⟩
                  ·
                    obtain ⟨k', hk'⟩ : ∃ k', t = 16 + k' := ⟨t - 16, by omega⟩
                    have HT : ∀ i, wt G t i < D32 := fun i => by rw [hk', wt_16]; exact sw_lt (mm_lt fun i _ => HG8.out i) k' i
                    obtain ⟨p1, hp1⟩ : ∃ p, k' + 1 = p := ⟨_, rfl⟩
                    obtain ⟨p14, hp14⟩ : ∃ p, k' + 14 = p := ⟨_, rfl⟩
                    obtain ⟨p9, hp9⟩ : ∃ p, k' + 9 = p := ⟨_, rfl⟩
                    have i15 : (t : Int) - 15 = (p1 : Int) := by omega
                    have i2 : (t : Int) - 2 = (p14 : Int) := by omega
                    have i16 : (t : Int) - 16 = (k' : Int) := by omega
                    have i7 : (t : Int) - 7 = (p9 : Int) := by omega
                    have lp1 : p1 < 64 := by omega
                    have lp14 : p14 < 64 := by omega
                    have lp9 : p9 < 64 := by omega
                    have lp0 : k' < 64 := by omega
                    have hput : ∀ z, (wt G t k' + wt G t p9 + g0 (wt G t p1) + g1 (wt G t p14)) % D32 = z → (ka (wt G t)).setIfInBounds t (.int .u32 ((z : Nat) : Int)) = ka (wt G (t + 1)) := fun z hz => by
                      rw [hk', wt_16, ← hp9, ← hp1, ← hp14] at hz
                      rw [hk', show 16 + k' + 1 = 16 + (k' + 1) by omega, wt_16, wt_16]
                      exact sw_put _ rfl (by omega) hz
                    have HP := Lib.hid hput
                    clear hput hp1 hp14 hp9 hk'
                    obtain ⟨T, hTe⟩ : ∃ T, wt G t = T := ⟨_, rfl⟩
                    rw [hTe] at KB HP HT
                    have c15 := blk_cell KB.out (ka_get (S := T) lp1)
                    have c2 := blk_cell KB.out (ka_get (S := T) lp14)
                    have HTT := Lib.hid HT
                    clear HT hTe
                    go_upto_region 23 with fail
                    have la : T p1 < D32 := HTT.out _
                    have lb : T p14 < D32 := HTT.out _
                    obtain ⟨a8, ha8⟩ : ∃ x, T p1 / 8 = x := ⟨_, rfl⟩
                    obtain ⟨b10, hb10⟩ : ∃ x, T p14 / 1024 = x := ⟨_, rfl⟩
                    have ea : ((T p1 : Nat) : Int) / 8 = (a8 : Int) := by omega
                    have eb : ((T p14 : Nat) : Int) / 1024 = (b10 : Int) := by omega
                    have xa1 := xor32 (dn_lt 7 la) (dn_lt 18 la)
                    have xa2 : bits .xor .u32 ((dn (T p1) 7 ^^^ dn (T p1) 18 : Nat) : Int) ((a8 : Int) % 4294967296) = ((g0 (T p1) : Nat) : Int) := by
                      rw [show (a8 : Int) % 4294967296 = (a8 : Int) by simp only [D32] at la; omega, ← ha8]
                      exact xor32 (xor_lt32 (dn_lt 7 la) (dn_lt 18 la)) (Nat.lt_of_le_of_lt (Nat.div_le_self _ _) la)
                    have xb1 := xor32 (dn_lt 17 lb) (dn_lt 19 lb)
                    have xb2 : bits .xor .u32 ((dn (T p14) 17 ^^^ dn (T p14) 19 : Nat) : Int) ((b10 : Int) % 4294967296) = ((g1 (T p14) : Nat) : Int) := by
                      rw [show (b10 : Int) % 4294967296 = (b10 : Int) by simp only [D32] at lb; omega, ← hb10]
                      exact xor32 (xor_lt32 (dn_lt 17 lb) (dn_lt 19 lb)) (Nat.lt_of_le_of_lt (Nat.div_le_self _ _) lb)
                    obtain ⟨s1, hs1⟩ : ∃ s, (T k' + T p9) % D32 = s := ⟨_, rfl⟩
                    obtain ⟨s2, hs2⟩ : ∃ s, (s1 + g0 (T p1)) % D32 = s := ⟨_, rfl⟩
                    obtain ⟨s3, hs3⟩ : ∃ s, (s2 + g1 (T p14)) % D32 = s := ⟨_, rfl⟩
                    have q1 : ((T k' : Int) + (T p9 : Int)) % 4294967296 = (s1 : Int) := by rw [← hs1]; exact sum32 _ _
                    have q2 : ((s1 : Int) + ((g0 (T p1) : Nat) : Int)) % 4294967296 = (s2 : Int) := by rw [← hs2]; exact sum32 _ _
                    have q3 : ((s2 : Int) + ((g1 (T p14) : Nat) : Int)) % 4294967296 = (s3 : Int) := by rw [← hs3]; exact sum32 _ _

                    have hput := HP.out s3 (by rw [← hs3, ← hs2, ← hs1]; simp only [D32]; omega)
                    have HP2 := Lib.hid hput
                    clear HP hput hs1 hs2 hs3 ha8 hb10 c15 c2 i15 i2
                    try simp only [Act.put, List.setIfInBounds_toArray, List.set_cons_succ, List.set_cons_zero]
                    refine region_last2 (aQ := ?aQ1) 29 (by kernel_rfl) (by kernel_rfl) (fun w1 => ?hq1) (fun w0' hb' => ?hh1)
                    case hq1 =>
                      have cg : ∀ g : Ext w1.on, ∀ i, i < 64 → g.on.cell? ⟨wb, i, none⟩ = some (.int .u32 ((T i : Nat) : Int)) := fun g i hi => blk_cell (g.block (w1.block KB.out)) (ka_get (S := T) hi)
                      have c16 := fun g => cg g k' lp0
                      have c7 := fun g => cg g p9 lp9
                      have d1 := fun w => rdQ (T p1) 7 7 w rfl la (by decide) (by decide)
                      have d2 := fun w => rdQ (T p1) 18 18 w rfl la (by decide) (by decide)
                      have d3 := fun w => rdQ (T p14) 17 17 w rfl lb (by decide) (by decide)
                      have d4 := fun w => rdQ (T p14) 19 19 w rfl lb (by decide) (by decide)
                      clear cg
                      simp only [List.take_succ_cons, List.take_zero]
                      repeat (go_big_quiet_step (first | (go_at_call 49; with_reducible exact calls_ext (d1 _)) | (go_at_call 49; with_reducible exact calls_ext (d2 _)) | (go_at_call 49; with_reducible exact calls_ext (d3 _)) | (go_at_call 49; with_reducible exact calls_ext (d4 _))))
                      refine wpQuiet_nil ?_
                      rfl
                    have kb : w0'.heap[wb]? = some (.cells (ka T) 48) := Ext.block ⟨w0', hb'⟩ KB.out
                    replace HQ := Lib.hid (HQ.out.stays hb')
                    replace HG : Hid (w0'.heap[g]? = some (.cells cur 5)) := Lib.hid (Ext.block ⟨w0', hb'⟩ HG.out)
                    clear hb' KB
                    have cx := blk_cell kb (ka_get (S := T) hlt)
                    have fz := blk_frozen (j := t) kb
                    have h4 : (w0'.setCell ⟨wb, t, none⟩ (.int .u32 ((s3 : Nat) : Int))).heap[wb]? = _ := blk_set kb _
                    rw [HP2.out] at h4
                    have KB := Lib.hid h4
                    clear h4 kb
                    simp only [List.drop_succ_cons, List.drop_zero]
                    go_wp2_with fail
                    exact ⟨⟨t + 1, by omega, by go_num, Lib.hid (HQ.out.put hwz _ _), Lib.hid (blk_other HG.out (by omega) _), KB⟩, by simp [intOf]; omega⟩
                · obtain rfl : t = 64 := by omega
                  obtain ⟨X, hX⟩ : ∃ X, sw (mm G) 48 = X := ⟨_, rfl⟩
                  rw [show wt G 64 = X from (wt_16 G 48).trans hX] at KB
                  have hX8 : ∀ i, X i < D32 := by rw [← hX]; exact sw_lt (mm_lt fun i _ => HG8.out i) 48
                  have HX8 := Lib.hid hX8
                  have HR : Hid (bk S G = fun i => (S i + vs S X 64 i) % D32) := Lib.hid (by rw [← hX]; exact funext fun i => (bk_mm S G i).symm)
                  clear hX hX8 ht
                  have a0 : ((wr.alloc (.cells zVQ 49)).setRow wr.heap.size (va S)).heap[wr.heap.size]? = some (.cells (va S) 49) := blk_row (heap_alloc_new _ _)
                  have hvz := HQ.out.size
                  have hwl : wb < wr.heap.size := (Array.getElem?_eq_some_iff.1 KB.out).1
                  go_wp2_with (first | (refine wpList_load_row rfl 49 _ rfl _ rfl 49 (va S) (0, 0) _ HQ.out.h Tryd.underlying49 rfl (infoArrV _) ?_) | (refine wpList_alloc_row rfl 49 rfl zVQ zV_run ?_) | (refine wpList_store_row rfl 49 _ _ rfl _ zVQ (va S) rfl rfl (heap_alloc_new _ _) (infoArrV _) rfl (arr_one _ _ _) ?_))
                  replace HQ := Lib.hid ((HQ.out.alloc (.cells zVQ 49)).row hvz (va S))
                  replace HG := Lib.hid (blk_row_other (b := wr.heap.size) (c' := va S) (blk_alloc (o' := .cells zVQ 49) HG.out) (by omega))
                  replace KB := Lib.hid (blk_row_other (b := wr.heap.size) (c' := va S) (blk_alloc (o' := .cells zVQ 49) KB.out) (by omega))
                  have VB : Hid (((wr.alloc (.cells zVQ 49)).setRow wr.heap.size (va S)).heap[wr.heap.size]? = some (.cells (va (vs S X 0)) 49)) := Lib.hid a0
                  obtain ⟨vb, hvb⟩ : ∃ vb, wr.heap.size = vb := ⟨_, rfl⟩
                  rw [hvb] at VB KB HQ HG hvz hwl ⊢
                  clear a0 hvb
                  generalize (wr.alloc (.cells zVQ 49)).setRow vb (va S) = w6 at *
                  go_loopw [17] (fun i wr => ∃ k' : Nat, k' ≤ 64 ∧ i = .int .i64 k' ∧ Hid (Four w S wr) ∧ Hid (wr.heap[g]? = some (.cells cur 5)) ∧ Hid (wr.heap[wb]? = some (.cells (ka X) 48)) ∧ Hid (wr.heap[vb]? = some (.cells (va (vs S X k')) 49))) (fun i _ => 64 - (intOf i).toNat)
                  case atStart => exact ⟨0, by omega, rfl, HQ, HG, KB, VB⟩
                  case round =>
                    clear HQ HG KB VB
                    obtain ⟨k', hk', rfl, HQ, HG, KB, VB⟩ := hrel
                    by_cases hlt : k' < 64
                    ·
                      have hV : ok8 (vs S X k') := vs_lt HS8.out X k'
                      have HN2 : Hid (vs S X (k' + 1) = rv (vs S X k') (ck k') (X k')) := Lib.hid rfl
                      obtain ⟨V, hVe⟩ : ∃ V, vs S X k' = V := ⟨_, rfl⟩
                      rw [hVe] at hV HN2 VB
                      clear hVe
                      have l0 : V 0 < D32 := hV 0 (by decide)
                      have l1 : V 1 < D32 := hV 1 (by decide)
                      have l2 : V 2 < D32 := hV 2 (by decide)
                      have l3 : V 3 < D32 := hV 3 (by decide)
                      have l4 : V 4 < D32 := hV 4 (by decide)
                      have l5 : V 5 < D32 := hV 5 (by decide)
                      have l6 : V 6 < D32 := hV 6 (by decide)
                      have l7 : V 7 < D32 := hV 7 (by decide)
                      clear hV
                      obtain ⟨cc, hc⟩ : ∃ c, ck k' = c := ⟨_, rfl⟩
                      obtain ⟨x, hx⟩ : ∃ x, X k' = x := ⟨_, rfl⟩
                      rw [hc, hx] at HN2
                      have x1 := xor32 (dn_lt 6 l4) (dn_lt 11 l4)
                      have x2 : bits .xor .u32 ((dn (V 4) 6 ^^^ dn (V 4) 11 : Nat) : Int) ((dn (V 4) 25 : Nat) : Int) = ((G1 (V 4) : Nat) : Int) := xor32 (xor_lt32 (dn_lt 6 l4) (dn_lt 11 l4)) (dn_lt 25 l4)
                      obtain ⟨t1, ht1⟩ : ∃ s, (V 7 + G1 (V 4)) % D32 = s := ⟨_, rfl⟩
                      obtain ⟨t2, ht2⟩ : ∃ s, (t1 + chs (V 4) (V 5) (V 6)) % D32 = s := ⟨_, rfl⟩
                      obtain ⟨t3, ht3⟩ : ∃ s, (t2 + cc) % D32 = s := ⟨_, rfl⟩
                      obtain ⟨t, ht⟩ : ∃ s, tt V cc x = s := ⟨_, rfl⟩
                      have q1 : ((V 7 : Int) + ((G1 (V 4) : Nat) : Int)) % 4294967296 = (t1 : Int) := by rw [← ht1]; exact sum32 _ _
                      have q2 : ((t1 : Int) + ((chs (V 4) (V 5) (V 6) : Nat) : Int)) % 4294967296 = (t2 : Int) := by rw [← ht2]; exact sum32 _ _
                      have q3 : ((t2 : Int) + (cc : Int)) % 4294967296 = (t3 : Int) := by rw [← ht3]; exact sum32 _ _
                      have q4 : ((t3 : Int) + (x : Int)) % 4294967296 = (t : Int) := by
                        rw [sum32, ← ht, ← ht3, ← ht2, ← ht1, tt]
                        simp only [D32]
                        omega
                      have y1 := xor32 (dn_lt 2 l0) (dn_lt 13 l0)
                      have y2 : bits .xor .u32 ((dn (V 0) 2 ^^^ dn (V 0) 13 : Nat) : Int) ((dn (V 0) 22 : Nat) : Int) = ((G0 (V 0) : Nat) : Int) := xor32 (xor_lt32 (dn_lt 2 l0) (dn_lt 13 l0)) (dn_lt 22 l0)
                      have b1 := and32 l0 l1
                      have b2 := and32 l0 l2
                      have b3 := or32 (and_lt32 (y := V 1) l0) (and_lt32 (y := V 2) l0)
                      have b4 := and32 l1 l2
                      have b5 : bits .or .u32 ((V 0 &&& V 1 ||| V 0 &&& V 2 : Nat) : Int) ((V 1 &&& V 2 : Nat) : Int) = ((maj (V 0) (V 1) (V 2) : Nat) : Int) := or32 (or_lt32 (and_lt32 l0) (and_lt32 l0)) (and_lt32 l1)
                      obtain ⟨u, hu⟩ : ∃ s, uu V = s := ⟨_, rfl⟩
                      have q5 : (((G0 (V 0) : Nat) : Int) + ((maj (V 0) (V 1) (V 2) : Nat) : Int)) % 4294967296 = (u : Int) := by rw [← hu]; exact sum32 _ _
                      obtain ⟨n0, hn0⟩ : ∃ s, (t + u) % D32 = s := ⟨_, rfl⟩
                      obtain ⟨n4, hn4⟩ : ∃ s, (V 3 + t) % D32 = s := ⟨_, rfl⟩
                      have q6 : ((t : Int) + (u : Int)) % 4294967296 = (n0 : Int) := by rw [← hn0]; exact sum32 _ _
                      have q7 : ((V 3 : Int) + (t : Int)) % 4294967296 = (n4 : Int) := by rw [← hn4]; exact sum32 _ _
                      have e0 : rv V cc x 0 = n0 := by rw [rv, if_pos rfl, ht, hu, hn0]
                      have e4 : rv V cc x 4 = n4 := by rw [rv, if_neg (by decide), if_pos rfl, ht, hn4]
                      have HE : Hid (va (fun i => if i = 0 then n0 else if i = 4 then n4 else shv V 0 i) = va (rv V cc x)) := Lib.hid (rv_done V cc x e0 e4)
                      have HC := Lib.hid hc
                      have HXX := Lib.hid hx
                      have Q6 := Lib.hid q6
                      have Q7 := Lib.hid q7
                      clear ht1 ht2 ht3 ht hu hn0 hn4 e0 e4 hc hx q6 q7
                      go_wp2_with fail
                      refine region_ext (by kernel_rfl) (by kernel_rfl) ?_
                      have cK : ∀ g : Ext wr, g.on.cell? ⟨w.heap.size, k', none⟩ = some (.int .u32 ((cc : Nat) : Int)) := fun g => by
                        rw [← HC.out]
                        exact blk_cell (g.block HQ.out.k) (ka_get hlt)
                      have cX : ∀ g : Ext wr, g.on.cell? ⟨wb, k', none⟩ = some (.int .u32 ((x : Nat) : Int)) := fun g => by
                        rw [← HXX.out]
                        exact blk_cell (g.block KB.out) (ka_get hlt)
                      have cV : ∀ g : Ext wr, ∀ i, i < 8 → g.on.cell? ⟨vb, i, none⟩ = some (.int .u32 ((V i : Nat) : Int)) := fun g i hi => blk_cell (g.block VB.out) (va_get hi)
                      have cV4 := fun g => cV g 4 (by decide)
                      have cV5 := fun g => cV g 5 (by decide)
                      have cV6 := fun g => cV g 6 (by decide)
                      have cV7 := fun g => cV g 7 (by decide)
                      clear cV
                      have d1 := fun w => rdQ (V 4) 6 6 w rfl l4 (by decide) (by decide)
                      have d2 := fun w => rdQ (V 4) 11 11 w rfl l4 (by decide) (by decide)
                      have d3 := fun w => rdQ (V 4) 25 25 w rfl l4 (by decide) (by decide)
                      have d4 := fun w => (rchoose (V 4) (V 5) (V 6) w l4 l5 l6).mono fun _ w' ⟨a, b⟩ => (show _ ∧ Below w.heap.size w w' from ⟨a, by subst b; exact Below.refl _ _⟩)
                      repeat (go_big_quiet_step (first | (go_at_call 49; with_reducible exact calls_ext (d1 _)) | (go_at_call 49; with_reducible exact calls_ext (d2 _)) | (go_at_call 49; with_reducible exact calls_ext (d3 _)) | (go_at_call 50; with_reducible exact calls_ext (d4 _))))
                      refine wpQuiet_nil ?_
                      rintro _ ⟨g1, rfl⟩
                      rw [q4]
                      replace HQ := Lib.hid (HQ.out.stays g1.below)
                      replace HG := Lib.hid (g1.block HG.out)
                      replace KB := Lib.hid (g1.block KB.out)
                      replace VB := Lib.hid (g1.block VB.out)
                      generalize g1.on = w7 at *
                      clear x1 x2 q1 q2 q3 q4 cK cX cV4 cV5 cV6 cV7 d1 d2 d3 d4 HC HXX
                      go_wp2_with fail
                      refine region_ext (by kernel_rfl) (by kernel_rfl) ?_
                      have cV : ∀ g : Ext w7, ∀ i, i < 8 → g.on.cell? ⟨vb, i, none⟩ = some (.int .u32 ((V i : Nat) : Int)) := fun g i hi => blk_cell (g.block VB.out) (va_get hi)
                      have cV0 := fun g => cV g 0 (by decide)
                      have cV1 := fun g => cV g 1 (by decide)
                      have cV2 := fun g => cV g 2 (by decide)
                      clear cV
                      have d1 := fun w => rdQ (V 0) 2 2 w rfl l0 (by decide) (by decide)
                      have d2 := fun w => rdQ (V 0) 13 13 w rfl l0 (by decide) (by decide)
                      have d3 := fun w => rdQ (V 0) 22 22 w rfl l0 (by decide) (by decide)
                      repeat (go_big_quiet_step (first | (go_at_call 49; with_reducible exact calls_ext (d1 _)) | (go_at_call 49; with_reducible exact calls_ext (d2 _)) | (go_at_call 49; with_reducible exact calls_ext (d3 _))))
                      refine wpQuiet_nil ?_
                      rintro _ ⟨g2, rfl⟩
                      rw [q5]
                      replace HQ := Lib.hid (HQ.out.stays g2.below)
                      replace HG := Lib.hid (g2.block HG.out)
                      replace KB := Lib.hid (g2.block KB.out)
                      replace VB : Hid (g2.on.heap[vb]? = some (.cells (va (shv V 7)) 49)) := Lib.hid (by rw [shv_start]; exact g2.block VB.out)
                      generalize g2.on = w8 at *
                      clear y1 y2 b1 b2 b3 b4 b5 q5 cV0 cV1 cV2 d1 d2 d3
                      go_wp2_with fail
                      go_loopw [20] (fun i wr => ∃ q : Nat, q ≤ 7 ∧ i = .int .i64 q ∧ Hid (Four w S wr) ∧ Hid (wr.heap[g]? = some (.cells cur 5)) ∧ Hid (wr.heap[wb]? = some (.cells (ka X) 48)) ∧ Hid (wr.heap[vb]? = some (.cells (va (shv V q)) 49))) (fun i _ => (intOf i).toNat)
                      case atStart => exact ⟨7, by omega, rfl, HQ, HG, KB, VB⟩
                      case round =>
                        clear HQ HG KB VB
                        obtain ⟨q, hq, rfl, HQ, HG, KB, VB⟩ := hrel
                        cases q with
                        | zero =>
                          have vbv := VB.out
                          have c4 := blk_cell vbv (va_get (S := shv V 0) (i := 4) (by decide))
                          rw [show shv V 0 4 = V 3 from rfl] at c4
                          have fz := blk_frozen (j := 4) vbv
                          have h4 : (wr.setCell ⟨vb, 4, none⟩ (.int .u32 ((n4 : Nat) : Int))).heap[vb]? = _ := blk_set vbv _
                          rw [va_set (by decide)] at h4
                          have q7 := Q7.out
                          have VB4 := Lib.hid h4
                          clear h4 vbv VB hq
                          go_upto_region 35 with fail
                          replace HQ := Lib.hid (HQ.out.put hvz 4 (.int .u32 ((n4 : Nat) : Int)))
                          replace HG := Lib.hid (blk_other (b := vb) (j := 4) HG.out (by omega) (.int .u32 ((n4 : Nat) : Int)))
                          replace KB := Lib.hid (blk_other (b := vb) (j := 4) KB.out (by omega) (.int .u32 ((n4 : Nat) : Int)))
                          clear c4 fz q7
                          generalize wr.setCell ⟨vb, 4, none⟩ (.int .u32 ((n4 : Nat) : Int)) = w9 at *
                          have vbv := VB4.out
                          have c0 := blk_cell vbv (va_get (S := fun j => if j = 4 then n4 else shv V 0 j) (i := 0) (by decide))
                          have fz := blk_frozen (j := 0) vbv
                          have h4 : (w9.setCell ⟨vb, 0, none⟩ (.int .u32 ((n0 : Nat) : Int))).heap[vb]? = _ := blk_set vbv _
                          rw [va_set (by decide), HE.out, ← HN2.out] at h4
                          have VB5 := Lib.hid h4
                          have q6 := Q6.out
                          clear h4 vbv VB4
                          go_wp2_with fail
                          exact ⟨⟨k' + 1, by omega, by go_num, Lib.hid (HQ.out.put hvz _ _), Lib.hid (blk_other HG.out (by omega) _), Lib.hid (blk_other KB.out (by omega) _), VB5⟩, by simp [intOf]; omega⟩
                        | succ r =>
                          have hr : ((r + 1 : Nat) : Int) - 1 = (r : Int) := by omega
                          obtain ⟨q, hqe⟩ : ∃ q, r + 1 = q := ⟨_, rfl⟩
                          rw [hqe] at hr hq VB ⊢
                          have vbv := VB.out
                          have c4 := blk_cell vbv (va_get (S := shv V q) (i := r) (by omega))
                          have cq := blk_cell vbv (va_get (S := shv V q) (i := q) (by omega))
                          rw [shv_below V (by omega)] at c4
                          have fz := blk_frozen (j := q) vbv
                          have h4 : (wr.setCell ⟨vb, q, none⟩ (.int .u32 ((V r : Nat) : Int))).heap[vb]? = _ := blk_set vbv _
                          rw [shv_put V hqe (by omega)] at h4
                          have VB4 := Lib.hid h4
                          have hq1 : 0 < q := by omega
                          have hr8 : r < 8 := by omega
                          have HR8 := Lib.hid hqe
                          clear h4 vbv VB hqe
                          go_wp2_with fail
                          exact ⟨⟨r, by omega, rfl, Lib.hid (HQ.out.put hvz _ _), Lib.hid (blk_other HG.out (by omega) _), Lib.hid (blk_other KB.out (by omega) _), VB4⟩, by have := HR8.out; simp [intOf]; omega⟩
                    · obtain rfl : k' = 64 := by omega
                      obtain ⟨V, hV⟩ : ∃ V, vs S X 64 = V := ⟨_, rfl⟩
                      rw [hV] at VB HR
                      obtain ⟨R, hR⟩ : ∃ R : Nat → Nat, (fun i => (S i + V i) % D32) = R := ⟨_, rfl⟩
                      have hq : ∀ i, (((S i : Nat) : Int) + ((V i : Nat) : Int)) % 4294967296 = ((R i : Nat) : Int) := fun i => by rw [← hR]; exact sum32 _ _
                      rw [hR] at HR
                      replace HQ : Hid (Four w (upto R S 0) wr) := Lib.hid ⟨HQ.out.bel, HQ.out.k, by rw [upto_start]; exact HQ.out.h, HQ.out.r, HQ.out.size⟩
                      have HSum := Lib.hid hq
                      clear hV hR hq hk' KB hwl
                      go_wp2_with fail
                      go_loopw [21] (fun i wr => ∃ t : Nat, t ≤ 8 ∧ i = .int .i64 t ∧ Hid (Four w (upto R S t) wr) ∧ Hid (wr.heap[g]? = some (.cells cur 5)) ∧ Hid (wr.heap[vb]? = some (.cells (va V) 49))) (fun i _ => 8 - (intOf i).toNat)
                      case atStart => exact ⟨0, by omega, rfl, HQ, HG, VB⟩
                      case round =>
                        clear HQ HG VB
                        obtain ⟨t, ht, rfl, HQ, HG, VB⟩ := hrel
                        by_cases hlt : t < 8
                        · have qs := HSum.out t
                          go_wp2_with fail
                          refine region_last2 (aQ := ?aQ3) 9 (by kernel_rfl) (by kernel_rfl) (fun w1 => ?hq3) (fun w0' hb' => ?hh3)
                          case hq3 =>
                            have ch : ∀ g' : Ext w1.on, g'.on.cell? ⟨w.heap.size + 1, t, none⟩ = some (.int .u32 ((S t : Nat) : Int)) := fun g' => by
                              have := blk_cell (g'.block (w1.block HQ.out.h)) (va_get (S := upto R S t) hlt)
                              rwa [upto_here] at this
                            have cv : ∀ g' : Ext w1.on, g'.on.cell? ⟨vb, t, none⟩ = some (.int .u32 ((V t : Nat) : Int)) := fun g' => blk_cell (g'.block (w1.block VB.out)) (va_get hlt)
                            simp only [List.take_succ_cons, List.take_zero]
                            repeat (go_big_quiet_step (fail))
                            refine wpQuiet_nil ?_
                            rfl
                          replace HQ := Lib.hid (HQ.out.stays hb')
                          replace HG : Hid (w0'.heap[g]? = some (.cells cur 5)) := Lib.hid (Ext.block ⟨w0', hb'⟩ HG.out)
                          replace VB : Hid (w0'.heap[vb]? = some (.cells (va V) 49)) := Lib.hid (Ext.block ⟨w0', hb'⟩ VB.out)
                          clear hb'
                          have cx := blk_cell HQ.out.h (va_get (S := upto R S t) hlt)
                          have fz := blk_frozen (j := t) HQ.out.h
                          have HQ2 := Lib.hid (HQ.out.puth t (.int .u32 ((R t : Nat) : Int)) (upto_next R S hlt))
                          simp only [List.drop_succ_cons, List.drop_zero]
                          go_wp2_with fail
                          exact ⟨⟨t + 1, by omega, by go_num, HQ2, Lib.hid (blk_other HG.out (by omega) _), Lib.hid (blk_other VB.out (by omega) _)⟩, by simp [intOf]; omega⟩
                        · obtain rfl : t = 8 := by omega
                          have HQ8 : Hid (Four w (bs64 F (j + 1)) wr) := Lib.hid ⟨HQ.out.bel, HQ.out.k, by rw [HN.out, HR.out, ← upto_end R S]; exact HQ.out.h, HQ.out.r, HQ.out.size⟩
                          clear HQ VB
                          go_wp2_with fail
                          exact ⟨⟨j + 1, p + 64, Lib.hid (by have := hp.out; omega), by omega, by go_num, HQ8, HG⟩, by simp [intOf]; omega⟩
            · obtain rfl : p = L := by omega
              obtain rfl : j = nb n := by have := hp.out; have := hLJ.out; omega
              have HSH : Hid (shh f n = hs (bs64 F (nb n))) := Lib.hid (by rw [shh_hs, HF.out])
              obtain ⟨S, hS⟩ : ∃ S, bs64 F (nb n) = S := ⟨_, rfl⟩
              rw [hS] at HQ HSH
              have hwz := HQ.out.size
              have a0 : ((wr.alloc (.cells zH 42)).setRow wr.heap.size zH).heap[wr.heap.size]? = some (.cells zH 42) := blk_row (heap_alloc_new _ _)
              clear hS HG
              go_wp2_with (first | (refine wpList_alloc_row rfl 42 rfl zH zH_run ?_) | (refine wpList_build_zero rfl 42 rfl Tryd.underlying42 Tryd.sizeOf5 zH zH_run ?_) | (refine wpList_store_row rfl 42 _ _ rfl _ zH zH rfl rfl (heap_alloc_new _ _) (infoArrH _) rfl (arr_one _ _ _) ?_))
              replace HQ := Lib.hid ((HQ.out.alloc (.cells zH 42)).row hwz zH)
              have OB : Hid (((wr.alloc (.cells zH 42)).setRow wr.heap.size zH).heap[wr.heap.size]? = some (.cells (ha (hk S 0)) 42)) := Lib.hid (by rw [hk_start]; exact a0)
              obtain ⟨ob, hob⟩ : ∃ ob, wr.heap.size = ob := ⟨_, rfl⟩
              rw [hob] at OB HQ hwz ⊢
              clear a0 hob
              generalize (wr.alloc (.cells zH 42)).setRow ob zH = w6 at *
              go_loopw [23] (fun i wr => ∃ t : Nat, t ≤ 32 ∧ i = .int .i64 t ∧ Hid (Four w S wr) ∧ Hid (wr.heap[ob]? = some (.cells (ha (hk S t)) 42))) (fun i _ => 32 - (intOf i).toNat)
              case atStart => exact ⟨0, by omega, rfl, HQ, OB⟩
              case round =>
                clear HQ OB
                obtain ⟨t, ht, rfl, HQ, OB⟩ := hrel
                by_cases hlt : t < 32
                · have hq4 : t / 4 < 8 := by omega
                  obtain ⟨s, hse⟩ : ∃ s, 24 - 8 * (t % 4) = s := ⟨_, rfl⟩
                  have hsI : 24 - 8 * ((t : Int) % 4) = (s : Int) := by omega
                  have c0 := blk_cell HQ.out.h (va_get (S := S) (i := t / 4) hq4)
                  have c2 := blk_cell OB.out (ha_get (S := hk S t) hlt)
                  have fz := blk_frozen (j := t) OB.out
                  have h4 : (wr.setCell ⟨ob, t, none⟩ (.int .u8 ((hs S t : Nat) : Int))).heap[ob]? = _ := blk_set OB.out _
                  rw [hk_next S hlt] at h4
                  have OB2 := Lib.hid h4
                  clear h4 OB
                  go_wp2_with fail
                  rw [hs_val S hse]
                  exact ⟨⟨t + 1, by omega, by go_num, Lib.hid (HQ.out.put hwz _ _), OB2⟩, by simp [intOf]; omega⟩
                · obtain rfl : t = 32 := by omega
                  rw [hk_end] at OB
                  go_wp2_with (first | (refine wpList_load_row rfl 42 _ rfl _ rfl 42 (ha (hs S)) (0, 0) _ OB.out Tryd.underlying42 rfl (infoArrH _) ?_) | (refine wpList_store_row rfl 42 _ _ rfl _ zH (ha (hs S)) rfl rfl HQ.out.r (infoArrH _) rfl (arr_one _ _ _) ?_))
                  refine bodyPost_ret (v := .agg (ha (hs S))) (results_cell_row rfl _ _ _ 42 (ha (hs S)) (0, 0) _ rfl (blk_row HQ.out.r) Tryd.underlying42 rfl (infoArrH _)) rfl ⟨by rw [HSH.out], below_setRow HQ.out.bel (by omega) _⟩
    ·
      have hkL : k < m := by omega
      have hnz : (((k : Nat) : Int) % 64 != 56) = true := by simp; omega
      have hz8 := HQ.out.size
      have HW := Lib.hid (HO.out.alloc (.cells #[Value.int .u8 0] 5))
      go_wp2_with (at_builtin; refine append_oneQ rfl _ _ rfl (w.heap.size + 3) _ k (blQ F k) rfl HW.out ⟨wr.heap.size, 0, none⟩ 0 rfl (cell_one_new _ _ _) (by omega) (by simp; omega) ?_; intro v2 w2 hown2 hgrow2)
      rw [show (0 : Int) = ((F k : Nat) : Int) by rw [← HF.out, pad_zero f (by omega) (by rw [← HLn.out]; omega)]; rfl, bl_snoc] at hown2
      have hb2 : Below (w.heap.size + 3) wr w2 := ((Below.refl _ wr).alloc hz8 (.cells #[Value.int .u8 0] 5)).grown hgrow2 (by simp; omega) (fun b hb' => (HW.out.lt b hb').1)
      obtain ⟨A2, c2, rfl⟩ := own_valQ hown2
      exact ⟨⟨k + 1, c2, A2, rfl, by omega, by omega, Lib.hid hown2, Lib.hid (HQ.out.below hb2)⟩, by simp [lenV]; omega⟩
end Go.Proofs.YtihefgpicnhdjaaDoor
