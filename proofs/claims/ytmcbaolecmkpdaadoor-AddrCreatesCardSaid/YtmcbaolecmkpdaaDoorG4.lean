/- Rows of bytes that a call appends to, at any program with bytes: with one byte, and with a slice of bytes; a slice of bytes as a string; rows of nodes that a call appends to. -/
import Derived.Test.YtmcbaolecmkpdaaDoorG3
import Derived.Test.YtmcbaolecmkpdaaDoorG2
import Derived.Laws.AppendOwn
import Derived.Laws.AppendOwnNone
import Derived.Maps.AppendAt
import Derived.Lib.SlBytesRow
import Derived.Lib.ConvBytes
import Derived.Deep.OwnRows
import Derived.Deep.CutRange
import Derived.Deep.LoopGhost
import Derived.Deep.QuietTactic
import Derived.Deep.RegionWith
import Derived.Deep.RegionHeld3
import Derived.Deep.MidRow
import Derived.Lib.SlBytesConst
namespace Go.Proofs.YtmcbaolecmkpdaaDoor
open Go.RowKit SmWord
set_option maxRecDepth 100000

theorem Tryd.info8 : (Tryd.prog.info? 5).map (fun i => (i.zero, i.size, i.bytes)) = some (some (.int .u8 0), 1, 1) := by kernel_rfl
theorem Tryd.parts8 : ∃ i, Tryd.prog.info? 5 = some i ∧ i.zero = some (.int .u8 0) ∧ i.size = 1 ∧ i.bytes = 1 := info_parts Tryd.info8
/-- A node without bytes, and no list. -/
def zN : Array Value := #[.bool false, .slice none 0 0, .int .i64 0]
theorem Tryd.infoN : (Tryd.prog.info? 53).map (fun i => (i.zero, i.size, i.bytes)) = some (some (.agg zN), 3, 40) := by kernel_rfl
theorem Tryd.partsN : ∃ i, Tryd.prog.info? 53 = some i ∧ i.zero = some (.agg zN) ∧ i.size = 3 ∧ i.bytes = 40 := info_parts Tryd.infoN
/-- n bytes as a list. -/
def bb (f : Nat → Nat) (n : Nat) : List Value := (List.range n).map fun i => Value.int .u8 ((f i : Nat) : Int)
theorem bb_length (f : Nat → Nat) (n : Nat) : (bb f n).length = n := by simp [bb]
theorem bb_get (f : Nat → Nat) {n i : Nat} (h : i < n) : (bb f n)[i]? = some (.int .u8 ((f i : Nat) : Int)) := by simp [bb, h]
theorem bb_congr {f g : Nat → Nat} {n : Nat} (h : ∀ i, i < n → f i = g i) : bb f n = bb g n := List.map_congr_left fun i hi => by rw [h i (List.mem_range.1 hi)]
/-- A list of bytes. -/
def lb8 (l : List Nat) : List Value := l.map fun x => Value.int .u8 ((x : Nat) : Int)
theorem lb8_length (l : List Nat) : (lb8 l).length = l.length := by simp [lb8]
theorem lb8_app (l m : List Nat) : lb8 (l ++ m) = lb8 l ++ lb8 m := by simp [lb8]
theorem bb_lb8 (f : Nat → Nat) (n : Nat) : bb f n = lb8 (bf f 0 n) := by simp [bb, lb8, bf]
theorem lb8_bb (l : List Nat) : lb8 l = bb (fun i => l.getD i 0) l.length := by rw [bb_lb8, bf_list]
theorem own_val {w : World} {base : Nat} {t : TypeId} {s : Nat} {v : Value} {k : Nat} {xs : List Value} (h : w.ownsRow base t s v k xs) : ∃ A c, v = .slice A k c := by
  rcases h.2 with ⟨rfl, rfl⟩ | ⟨g, cap, cur, rfl, _⟩
  · exact ⟨none, 0, rfl⟩
  · exact ⟨_, _, rfl⟩
/-- A slice of bytes is appended. -/
theorem append_sl {ops : Array Oper} {rest : List Oper} {o : Oper} {a : Act} {w : World} {Q : Exit → Act → World → Prop} (hg : o.guard = none) (s x : Operand)
    (ho : o.op = .call { callee := .builtin .append, args := #[s, x], argTypes := #[33, 33] }) (base : Nat) (v : Value) (k : Nat) (xs : List Value) (hs : a.eval s = v) (hown : w.ownsRow base 5 1 v k xs)
    (A : Option Addr) (n c : Nat) (f : Nat → Nat) (hx : a.eval x = .slice A n c) (hA : A = none → n = 0 ∧ c = 0) (hsl : Sl w A n f) (hk : k + n ≤ 140737488355328) (hbase : base ≤ w.heap.size)
    (h : ∀ v' w', w'.ownsRow base 5 1 v' (k + n) (xs ++ bb f n) → w.grownBy w' v.ownBlock → wpList Tryd.prog ops Q rest (a.put o.dst v') w') : wpList Tryd.prog ops Q (o :: rest) a w := by
  obtain ⟨i0, hi0, hz0, hz1, hz2⟩ := Tryd.parts8
  cases A with
  | none =>
    obtain ⟨rfl, rfl⟩ := hA rfl
    refine wpList_append_own_none hg s x 33 ho base 5 i0 1 Tryd.underlying33 hi0 v k xs hs hown hx (h v w (by simpa [bb] using hown) ⟨rfl, rfl, rfl, Nat.le_refl _, fun _ _ _ => rfl⟩)
  | some ad =>
    refine wpList_append_own_at w hg s x 33 ho base 5 i0 (.int .u8 0) 1 1 Tryd.underlying33 hi0 hz0 hz1 hz2 rfl (by decide) v k xs hs hown ad n c (bb f n) hx (by rw [bb_length, Nat.mul_one]) (fun j u hj => ?_) (fun u hu => ?_) (by unfold maxLen; omega) (by omega) hbase (fun v' w' h1 h2 _ _ => h v' w' h1 h2)
    · have hjn : j < n := by have := (List.getElem?_eq_some_iff.1 hj).1; rwa [bb_length] at this
      obtain ⟨b, off, e, _, hc⟩ := hsl.cells (by omega)
      cases e
      rw [bb_get f hjn] at hj
      cases hj
      have hadd : (⟨b, off, none⟩ : Addr).add j = ⟨b, off + j, none⟩ := by unfold Addr.add; split <;> simp_all
      rw [hadd]
      exact hc j hjn
    · simp [bb] at hu
      obtain ⟨i, _, rfl⟩ := hu
      rfl
/-- A byte is appended. -/
theorem append_one {ops : Array Oper} {rest : List Oper} {o : Oper} {a : Act} {w : World} {Q : Exit → Act → World → Prop} (hg : o.guard = none) (s x : Operand)
    (ho : o.op = .call { callee := .builtin .append, args := #[s, x], argTypes := #[33, 33] }) (base : Nat) (v : Value) (k : Nat) (xs : List Value) (hs : a.eval s = v) (hown : w.ownsRow base 5 1 v k xs)
    (ad : Addr) (u : Int) (hx : a.eval x = .slice (some ad) 1 1) (hnews : ∀ j v, [Value.int .u8 u][j]? = some v → w.cell? (ad.add j) = some v) (hk : k < 140737488355328) (hbase : base ≤ w.heap.size)
    (h : ∀ v' w', w'.ownsRow base 5 1 v' (k + 1) (xs ++ [.int .u8 u]) → w.grownBy w' v.ownBlock → wpList Tryd.prog ops Q rest (a.put o.dst v') w') : wpList Tryd.prog ops Q (o :: rest) a w := by
  obtain ⟨i0, hi0, hz0, hz1, hz2⟩ := Tryd.parts8
  refine wpList_append_own_at w hg s x 33 ho base 5 i0 (.int .u8 0) 1 1 Tryd.underlying33 hi0 hz0 hz1 hz2 rfl (by decide) v k xs hs hown ad 1 1 [.int .u8 u] hx rfl hnews (fun v hv => ?_) (by unfold maxLen; omega) (by omega) hbase (fun v' w' h1 h2 _ _ => h v' w' h1 h2)
  simp at hv
  subst hv
  rfl
theorem own_sl {w : World} {base : Nat} {v : Value} {k : Nat} {f : Nat → Nat} (h : w.ownsRow base 5 1 v k (bb f k)) (hf : ∀ i, i < k → f i < 256) : ∃ A c, v = .slice A k c ∧ k ≤ c ∧ (A = none → k = 0 ∧ c = 0) ∧ Sl w A k f := by
  rcases h.2 with ⟨rfl, rfl⟩ | ⟨g, cap, cur, rfl, hb, hg, h1, h2, h3, h4⟩
  · exact ⟨none, 0, rfl, Nat.le_refl _, fun _ => ⟨rfl, rfl⟩, hf, fun h => by omega⟩
  · refine ⟨_, cap, rfl, h1, (fun e => by cases e), hf, fun h => ⟨g, 0, rfl, (Array.getElem?_eq_some_iff.1 hg).1, fun i hi => ?_⟩⟩
    rw [Nat.zero_add]
    refine blk_cell hg ?_
    have e : cur.toList[i]? = (cur.toList.take (k * 1))[i]? := by rw [List.getElem?_take_of_lt (by omega)]
    rw [← Array.getElem?_toList, e, h4, bb_get f hi]
def str (l : List UInt8) : ByteArray := ⟨l.toArray⟩
theorem str_size (l : List UInt8) : (str l).size = l.length := by simp [str, ByteArray.size]
theorem str_get (l : List UInt8) {i : Nat} (hi : i < (str l).size) : (str l)[i].toNat = (l.getD i 0).toNat := by
  have h : i < l.length := by rw [← str_size]; exact hi
  rw [List.getD, List.getElem?_eq_getElem h]
  rfl
/-- The signs of these bytes. -/
def bs (f : Nat → Nat) (n : Nat) : List UInt8 := (List.range n).map fun i => UInt8.ofNat (f i)
theorem bs_length (f : Nat → Nat) (n : Nat) : (bs f n).length = n := by simp [bs]
theorem bs_congr {f g : Nat → Nat} {n : Nat} (h : ∀ i, i < n → f i = g i) : bs f n = bs g n := by
  unfold bs
  exact List.map_congr_left fun i hi => by rw [h i (List.mem_range.1 hi)]
theorem conv_list (w : World) (b off c : Nat) (l : List UInt8) (h : ∀ i, i < l.length → w.cell? ⟨b, off + i, none⟩ = some (.int .u8 (((l.getD i 0).toNat : Nat) : Int))) :
    (convert 33 9 (.slice (some ⟨b, off, none⟩) l.length c)).run Tryd.prog w = .ok (.string (str l)) w := by
  have hb : Lib.Bytes w b off (str l) := fun i hi => by
    rw [h i (by rw [← str_size]; exact hi), str_get l hi]
  have := Lib.run_convert_whole (P := Tryd.prog) w 33 5 9 Tryd.underlying33 Tryd.underlying5 Tryd.underlying9 b off (str l) hb c
  rwa [str_size] at this
theorem conv_sl {w : World} {A : Option Addr} {n c : Nat} {f : Nat → Nat} (h : Sl w A n f) :
    (convert 33 9 (.slice A n c)).run Tryd.prog w = .ok (.string (str (bs f n))) w := by
  by_cases hn : 0 < n
  · obtain ⟨b, off, rfl, _, hc⟩ := h.cells hn
    have := conv_list w b off c (bs f n) (fun i hi => by
      rw [bs_length] at hi
      rw [hc i hi]
      have e : (bs f n).getD i 0 = UInt8.ofNat (f i) := by simp [bs, List.getD, hi]
      rw [e]
      have := h.small i hi
      simp
      omega)
    rwa [bs_length] at this
  · obtain rfl : n = 0 := by omega
    cases A with
    | none => exact run_convert_bytes_nil (P := Tryd.prog) w 33 5 Tryd.underlying33 Tryd.underlying5 0 c 9 Tryd.underlying9
    | some a =>
      rw [run_convert_bytes_string w 33 9 5 (some a) 0 c Tryd.underlying33 Tryd.underlying5 Tryd.underlying9]
      exact run_bytesToString (P := Tryd.prog) w a 0 c [] (by kernel_rfl)
end Go.Proofs.YtmcbaolecmkpdaaDoor
/- What the small functions of package rlp do: bare, leastHead, headSize, Number; and the document's Number. -/
namespace Go.Proofs.YtmcbaolecmkpdaaDoor
open Go.RowKit SmWord
set_option maxRecDepth 100000

theorem bare_walk (A : Option Addr) (n c : Nat) (f : Nat → Nat) (w : World) (hn : n ≤ maxLen) (hs : Sl w A n f) :
    Calls Tryd.prog 39 #[.slice A n c] w fun e w' => e = .returned (.bool (decide (n = 1 ∧ f 0 < 128))) ∧ w' = w := by
  have hn' : n ≤ 9223372036854775807 := hn
  by_cases h1 : n = 1
  · subst h1
    obtain ⟨b, off, rfl, _, hc⟩ := hs.cells (by decide)
    have c0 := hc 0 (by decide)
    have s0 := hs.small 0 (by decide)
    clear hc hs
    rw [Nat.add_zero] at c0
    go_enter Tryd.func39, Tryd.ntmps39
    go_wp2_with fail
    go_ret
    refine ⟨?_, rfl⟩
    congr 2
    simp
    omega
  · clear hs
    have d1 : decide ((n : Int) = 1) = false := decide_eq_false (by omega)
    go_enter Tryd.func39, Tryd.ntmps39
    go_wp2_with fail
    go_ret
    exact ⟨by simp [h1], rfl⟩
theorem least_walk (b : Bool) (w : World) :
    Calls Tryd.prog 52 #[.bool b] w fun e w' => e = .returned (.int .u8 (if b then 192 else 128)) ∧ w' = w := by
  cases b
  · go_enter Tryd.func52, Tryd.ntmps52
    go_wp2_with fail
    go_ret
    exact ⟨rfl, rfl⟩
  · go_enter Tryd.func52, Tryd.ntmps52
    go_wp2_with fail
    go_ret
    exact ⟨rfl, rfl⟩
theorem nbl_bl (n : Nat) : (bl n + 7) / 8 = nbl n := by
  unfold bl nbl
  split
  · rfl
  · omega
theorem size_of (n : Nat) (w : World) (hn : n < B) : Calls Tryd.prog 41 #[wd n] w fun e w' => e = .returned (.int .i64 ((nbl n : Nat) : Int)) ∧ Below w.heap.size w w' := by
  have h := size_wd n w
  rw [Nat.mod_eq_of_lt (Nat.lt_trans hn (by decide)), nbl_bl] at h
  exact h
theorem nbl_8 {n : Nat} (hn : n < B) : nbl n ≤ 8 := nbl_le_of (by simpa [B] using hn)
/-- How many bytes a head has. -/
def hz (n : Nat) : Nat := if n ≤ 55 then 1 else nbl n + 1
theorem hea_hz (n m : Nat) : (hea n m).length = hz n := by
  unfold hea hz
  split
  · rfl
  · simp [bdig_length]
theorem hz_le {n : Nat} (hn : n < B) : hz n ≤ 9 := by
  have := nbl_8 hn
  unfold hz
  split <;> omega
theorem hsize_walk (n : Nat) (w : World) (hn : n < B) :
    Calls Tryd.prog 60 #[.int .u64 (n : Int)] w fun e w' => e = .returned (.int .u64 ((hz n : Nat) : Int)) ∧ Below w.heap.size w w' := by
  have hn' : n < 18446744073709551616 := hn
  by_cases h : n ≤ 55
  · clear hn
    have e : hz n = 1 := if_pos h
    rw [e]
    clear e
    go_enter Tryd.func60, Tryd.ntmps60
    go_wp2_with fail
    go_ret
    exact ⟨rfl, Below.refl _ _⟩
  · have e : hz n = nbl n + 1 := if_neg h
    rw [e]
    clear e
    have K1 := Lib.hid fun w => of_wd n w hn
    have K2 := Lib.hid fun w => size_of n w hn
    have hm := nbl_8 hn
    generalize nbl n = m at *
    clear hn
    go_enter Tryd.func60, Tryd.ntmps60
    go_wp2_with fail
    refine (K1.out _).mono ?_
    rintro e w1 ⟨rfl, b1⟩
    go_wp2_with fail
    refine (K2.out _).mono ?_
    rintro e w2 ⟨rfl, b2⟩
    go_wp2_with fail
    go_ret
    refine ⟨?_, b1.trans (b2.mono b1.size)⟩
    rw [show ((m + 1 : Nat) : Int) = 1 + (m : Int) by omega]
    rfl
theorem Tryd.len32 : Tryd.prog.arrayLen 44 = 32 := by kernel_rfl
theorem slice32 (b j : Nat) (w : World) (h : j ≤ 32) : (Instr.sliceAt 44 (.pointer (some ⟨b, 0, none⟩)) (some (.int .i64 (j : Int))) none none).run Tryd.prog w = .ok (.slice (some ⟨b, if j = 32 then 0 else j, none⟩) (32 - j) (32 - j)) w := by
  have e := run_sliceAt_array_l (P := Tryd.prog) w 44 ⟨b, 0, none⟩ (by kernel_rfl) .i64 (j : Int) (by omega) (by rw [Tryd.len32]; omega)
  rw [e, Tryd.len32, show Tryd.prog.elem 44 = 5 by kernel_rfl, Tryd.sizeOf5]
  simp only [slicedAt, Result.andThen_ok, Int.toNat_natCast]
  by_cases hj : j = 32
  · subst hj
    rfl
  · have a1 : ¬ (32 : Nat) = j := fun h => hj h.symm
    simp [hj, a1, Addr.add]
    intro h0
    subst h0
    rfl
/-- The bytes of a number by their place, the highest first, without noughts. -/
def nf (n i : Nat) : Nat := (bdig (nbl n) n).getD i 0
theorem number_walk (n : Nat) (w : World) (hn : n < 256 ^ 32) :
    Calls Tryd.prog 28 #[wd n] w fun e w' => (∃ b off, e = .returned (.slice (some ⟨b, off, none⟩) (nbl n) (nbl n)) ∧ w.heap.size ≤ b ∧ Sl w' (some ⟨b, off, none⟩) (nbl n) (nf n)) ∧ Below w.heap.size w w' := by
  have hz := wa_size
  have K1 := Lib.hid fun w => bytes_wd n w
  have K2 := Lib.hid fun w => size_wd n w
  have hm : bl (n % M) ≤ 256 := bl_le (by rw [← M_2]; exact Nat.mod_lt _ (by decide))
  have e0 : (bl (n % M) + 7) / 8 = nbl n := by rw [Nat.mod_eq_of_lt (by rw [M_2]; exact Nat.lt_of_lt_of_eq hn (by decide)), nbl_bl]
  rw [e0] at K2
  have hk : nbl n ≤ 32 := nbl_le_of hn
  clear hm e0
  have HP := Lib.hid (show ∀ i, i < nbl n → dig n (31 - (32 - nbl n + i)) = nf n i from fun i hi => by
    rw [nf, bdig_get _ _ _ hi]
    unfold dig
    rw [show 31 - (32 - nbl n + i) = nbl n - 1 - i by omega])
  generalize hk' : nbl n = k at *
  clear hk'
  go_enter Tryd.func28, Tryd.ntmps28
  go_wp2_with fail
  refine (K1.out _).mono ?_
  rintro e w1 ⟨rfl, b1⟩
  have ha : (w.alloc (.cells (wa n) 26)).heap[w.heap.size]? = some (.cells (wa n) 26) := heap_alloc_new _ _
  replace ha := blk_row_other (b' := w.heap.size) (b := w1.heap.size) (c' := ya n) (blk_alloc (o' := .cells zY 44) (stay b1 ha)) (by have := b1.size; simp at this; omega)
  have f1 : ((w1.alloc (.cells zY 44)).setRow w1.heap.size (ya n)).heap[w1.heap.size]? = some (.cells (ya n) 44) := blk_row (heap_alloc_new _ _)
  have bW : Below w.heap.size w ((w1.alloc (.cells zY 44)).setRow w1.heap.size (ya n)) := by
    have b0 : Below w.heap.size w (w.alloc (.cells (wa n) 26)) := (Below.refl _ _).alloc (Nat.le_refl _) _
    have b2 := b0.trans (b1.mono b0.size)
    exact below_setRow (b2.alloc b2.size _) b2.size _
  have hnew : w.heap.size ≤ w1.heap.size := by have := b1.size; simp at this; omega
  have HB := Lib.hid b1
  clear b1
  go_upto_region 2 with (first | (refine wpList_alloc_row rfl 44 rfl zY zY_run ?_) | (refine wpList_store_row rfl 44 _ _ rfl _ zY (ya n) rfl rfl (heap_alloc_new _ _) (infoArrY _) rfl (arr_one _ _ _) ?_))
  clear HB
  generalize ((w1.alloc (.cells zY 44)).setRow w1.heap.size (ya n)) = W2 at *
  go_wp2_with (refine wpList_load_row rfl 26 _ rfl _ rfl 26 (wa n) (0, 0) _ ha Tryd.underlying26 rfl Tryd.infoWa ?_)
  refine (K2.out _).mono ?_
  rintro e w3 ⟨rfl, b3⟩
  have es := slice32 w1.heap.size (32 - k) w3 (by omega)
  rw [show ((32 - k : Nat) : Int) = 32 - (k : Int) by omega, show 32 - (32 - k) = k by omega] at es
  have HS : Sl w3 (some ⟨w1.heap.size, if 32 - k = 32 then 0 else 32 - k, none⟩) k (nf n) := ⟨fun i hi => by
      rw [← HP.out i hi]
      exact dig_lt _ _, fun h0 => ⟨w1.heap.size, 32 - k, by rw [if_neg (by omega)], by have := b3.size; have := (Array.getElem?_eq_some_iff.1 f1).1; omega, fun i hi => by
      rw [← HP.out i hi]
      exact blk_cell (stay b3 f1) (arr_get .u8 _ (show 32 - k + i < 32 by omega))⟩⟩
  generalize (if 32 - k = 32 then 0 else 32 - k) = q at *
  replace HS := Lib.hid HS
  have HB := Lib.hid (bW.trans (b3.mono bW.size))
  clear f1 ha bW b3 HP
  go_wp2_with fail
  go_ret
  exact ⟨⟨_, _, rfl, hnew, HS.out⟩, HB.out⟩
theorem nf_lt (n : Nat) : ∀ i, i < nbl n → nf n i < 256 := fun i hi => by
  unfold nf
  rw [bdig_get _ _ _ hi]
  omega
theorem lb8_nf (n : Nat) : lb8 (bdig (nbl n) n) = bb (nf n) (nbl n) := by
  rw [lb8_bb, bdig_length]
  rfl
/-- A new row of no bytes. -/
theorem own_none (w : World) {base : Nat} (hb : base ≤ w.heap.size) : (w.alloc (.cells #[] 5)).ownsRow base 5 1 (.slice (some ⟨w.heap.size, 0, none⟩) 0 0) 0 [] :=
  ⟨rfl, .inr ⟨w.heap.size, 0, #[], rfl, hb, heap_alloc_new _ _, Nat.le_refl _, Nat.zero_le _, rfl, rfl⟩⟩
/-- The noughts ahead, one after another. -/
theorem ahead_zero {n k : Nat} (hn : n < 256 ^ 32) (hk : k < 32 - nbl n) : dig n (31 - k) = 0 := by
  have h := bdig_nought (n := n) (k := 32) (i := k) (by omega) (nbl_le_of hn)
  rw [bdig_get _ _ _ (by omega)] at h
  unfold dig
  exact h
theorem ahead_end {n : Nat} (hn : n < 256 ^ 32) (h : 0 < nbl n) : dig n (31 - (32 - nbl n)) ≠ 0 := by
  have h0 : n ≠ 0 := by rintro rfl; simp [nbl] at h
  have hk := nbl_le_of hn
  have h := bdig_first (n := n) (k := 32) h0 hk
  rw [bdig_get _ _ _ (by omega)] at h
  unfold dig
  exact h
set_option maxHeartbeats 1000000 in
theorem rnumber_walk (n : Nat) (w : World) (hn : n < 256 ^ 32) :
    Calls Tryd.prog 31 #[wd n] w fun e w' => (∃ v, e = .returned v ∧ w'.ownsRow w.heap.size 5 1 v (nbl n) (bb (nf n) (nbl n))) ∧ Below w.heap.size w w' := by
  have hz := wa_size
  have hk : nbl n ≤ 32 := nbl_le_of hn
  have K1 := Lib.hid fun w => of_ref n w
  have K2 := Lib.hid fun w => bytes_ref n w
  have HP := Lib.hid (show ∀ i, i < nbl n → dig n (31 - (32 - nbl n + i)) = nf n i from fun i hi => by
    rw [nf, bdig_get _ _ _ hi]
    unfold dig
    rw [show 31 - (32 - nbl n + i) = nbl n - 1 - i by omega])
  have HZ := Lib.hid (fun k => ahead_zero (k := k) hn)
  have HE := Lib.hid (ahead_end hn)
  generalize nbl n = m at *
  go_enter Tryd.func31, Tryd.ntmps31
  go_wp2_with fail
  refine (K1.out _).mono ?_
  rintro e w1 ⟨rfl, b1⟩
  go_wp2_with fail
  refine (K2.out _).mono ?_
  rintro e w2 ⟨rfl, b2⟩
  have b0 : Below w.heap.size w w2 := by
    have b0 : Below w.heap.size w (w.alloc (.cells (wa n) 26)) := (Below.refl _ _).alloc (Nat.le_refl _) _
    have b1 := b0.trans (b1.mono b0.size)
    exact b1.trans (b2.mono b1.size)
  have f1 : ((w2.alloc (.cells zY 44)).setRow w2.heap.size (ya n)).heap[w2.heap.size]? = some (.cells (ya n) 44) := blk_row (heap_alloc_new _ _)
  have bW : Below w.heap.size w ((w2.alloc (.cells zY 44)).setRow w2.heap.size (ya n)) := below_setRow (b0.alloc b0.size _) b0.size _
  have hsz := b0.size
  clear b1 b2 b0
  go_upto_region 2 with (first | (refine wpList_alloc_row rfl 44 rfl zY zY_run ?_) | (refine wpList_store_row rfl 44 _ _ rfl _ zY (ya n) rfl rfl (heap_alloc_new _ _) (infoArrY _) rfl (arr_one _ _ _) ?_))
  generalize hwb : w2.heap.size = p at *
  generalize ((w2.alloc (.cells zY 44)).setRow p (ya n)) = W2 at *
  clear hwb
  go_upto_region 3 with fail
  go_loopw [4] (fun i wr => ∃ k : Nat, k ≤ 32 - m ∧ i = .int .i64 k ∧ Below w.heap.size w wr ∧ wr.heap[p]? = some (.cells (ya n) 44)) (fun i _ => 32 - (intOf i).toNat)
  case atStart => exact ⟨0, Nat.zero_le _, rfl, bW, f1⟩
  case round =>
    obtain ⟨k, hk', rfl, hb, ha⟩ := hrel
    clear f1 bW
    by_cases hlt : k < 32 - m
    · have c1 := blk_cell ha (arr_get .u8 _ (show k < 32 by omega))
      have hz0 := HZ.out k hlt
      rw [hz0] at c1
      have HA := Lib.hid ha
      have HB := Lib.hid hb
      clear ha hb
      go_wp2_with fail
      exact ⟨⟨k + 1, by omega, by go_num, HB.out, HA.out⟩, by simp [intOf]; omega⟩
    · obtain rfl : k = 32 - m := by omega
      have es := fun w => slice32 p (32 - m) w (by omega)
      rw [show 32 - (32 - m) = m by omega] at es
      have HS : Sl wr (some ⟨p, if 32 - m = 32 then 0 else 32 - m, none⟩) m (nf n) := ⟨fun i hi => by
          rw [← HP.out i hi]
          exact dig_lt _ _, fun h0 => ⟨p, 32 - m, by rw [if_neg (by omega)], (Array.getElem?_eq_some_iff.1 ha).1, fun i hi => by
          rw [← HP.out i hi]
          exact blk_cell ha (arr_get .u8 _ (show 32 - m + i < 32 by omega))⟩⟩
      generalize (if 32 - m = 32 then 0 else 32 - m) = q at *
      have b2 : Below w.heap.size w (wr.alloc (.cells #[] 5)) := hb.alloc hb.size _
      have o2 := own_none wr hb.size
      replace HS := Lib.hid (HS.below ((Below.refl _ _).alloc (Nat.le_refl _) (.cells #[] 5)))
      have hd : m = 0 ∨ 0 < m := by omega
      have hsz2 := b2.size
      replace HB := Lib.hid b2
      have HO := Lib.hid o2
      clear b2 o2 hb
      rcases hd with rfl | hm
      · clear ha
        go_wp2_with fail
        go_ret
        exact ⟨⟨_, rfl, HO.out⟩, HB.out⟩
      · have c1 := blk_cell ha (arr_get .u8 _ (show 32 - m < 32 by omega))
        have hz0 := HE.out hm
        have hl := dig_lt n (31 - (32 - m))
        generalize dig n (31 - (32 - m)) = d at *
        have e1 : ((d : Int) == 0) = false := by simp; omega
        clear ha
        generalize hk2 : 32 - m = k at *
        have e2 : (k : Int) < 32 := by omega
        go_wp2_with (first | (at_builtin; refine append_sl rfl _ _ rfl w.heap.size _ 0 [] rfl HO.out _ m _ (nf n) rfl (fun h => by cases h) HS.out (by omega) hsz2 ?_))
        intro v' w' o3 g3
        have b3 := HB.out.grown g3 hsz2 (fun b hb' => (HO.out.lt b hb').1)
        go_wp2_with fail
        go_ret
        exact ⟨⟨_, rfl, by simpa using o3⟩, b3⟩
end Go.Proofs.YtmcbaolecmkpdaaDoor
/- What stays while a call appends to a row of its own; what the heads of items in bytes are: appendHead of package rlp, and the document's Head. -/
namespace Go.Proofs.YtmcbaolecmkpdaaDoor
open Go.RowKit SmWord
set_option maxRecDepth 100000

/-- Blocks below base stay, and all of the kinds that T doesn't name. -/
structure Keeps (base : Nat) (T : TypeId → Bool) (w w' : World) : Prop where
  below : Below base w w'
  other : ∀ (i : Nat) (c : Array Value) (t : TypeId) (fr : Nat × Nat), T t = false → w.heap[i]? = some (.cells c t fr) → w'.heap[i]? = some (.cells c t fr)
theorem Keeps.refl (base : Nat) (T : TypeId → Bool) (w : World) : Keeps base T w w := ⟨Below.refl _ _, fun _ _ _ _ _ h => h⟩
theorem Keeps.trans {base : Nat} {T : TypeId → Bool} {a b c : World} (h : Keeps base T a b) (k : Keeps base T b c) : Keeps base T a c := ⟨h.below.trans k.below, fun i d t fr ht hi => k.other i d t fr ht (h.other i d t fr ht hi)⟩
theorem Keeps.mono {base base' : Nat} {T : TypeId → Bool} {a b : World} (h : Keeps base T a b) (hb : base' ≤ base) : Keeps base' T a b := ⟨h.below.mono hb, h.other⟩
theorem Keeps.of_below {base : Nat} {T : TypeId → Bool} {w w' : World} (h : Below w.heap.size w w') (hb : base ≤ w.heap.size) : Keeps base T w w' := ⟨h.mono hb, fun _ _ _ _ _ hi => stay h hi⟩
theorem Keeps.alloc {base : Nat} {T : TypeId → Bool} {a b : World} (h : Keeps base T a b) (hb : base ≤ b.heap.size) (o : Obj) : Keeps base T a (b.alloc o) := h.trans (.of_below ((Below.refl _ _).alloc (Nat.le_refl _) _) hb)
theorem Keeps.size {base : Nat} {T : TypeId → Bool} {a b : World} (h : Keeps base T a b) : a.heap.size ≤ b.heap.size := h.below.size
theorem Keeps.grown {base : Nat} {T : TypeId → Bool} {a w w' : World} {e : TypeId} {s : Nat} {v : Value} {k : Nat} {xs : List Value} (h : Keeps base T a w) (g : w.grownBy w' v.ownBlock) (hown : w.ownsRow base e s v k xs) (hT : T e = true) (hb : base ≤ w.heap.size) : Keeps base T a w' :=
  ⟨h.below.grown g hb (fun b hb' => (hown.lt b hb').1), fun i c t fr ht hi => by
    have h1 := h.other i c t fr ht hi
    rw [g.block i (Array.getElem?_eq_some_iff.1 h1).1, h1]
    intro e1
    rcases hown.2 with ⟨rfl, _⟩ | ⟨b, cap, cur, rfl, _, hg, _⟩
    · cases e1
    · cases e1
      rw [h1] at hg
      cases hg
      rw [hT] at ht
      cases ht⟩
theorem Keeps.setCell {base : Nat} {T : TypeId → Bool} {a w : World} (h : Keeps base T a w) {b j : Nat} {c : Array Value} {e : TypeId} (hb : w.heap[b]? = some (.cells c e)) (hT : T e = true) (hle : base ≤ b) (v : Value) : Keeps base T a (w.setCell ⟨b, j, none⟩ v) :=
  ⟨h.below.setCell hle v, fun i d t fr ht hi => by
    have h1 := h.other i d t fr ht hi
    by_cases hne : i = b
    · subst hne
      rw [h1] at hb
      cases hb
      rw [hT] at ht
      cases ht
    · exact blk_other h1 hne v⟩
theorem own_keeps {base base' : Nat} {T : TypeId → Bool} {w w' : World} {e : TypeId} {s : Nat} {v : Value} {k : Nat} {xs : List Value} (hown : w.ownsRow base e s v k xs) (h : Keeps base' T w w') (hT : T e = false) : w'.ownsRow base e s v k xs := by
  refine ⟨hown.1, ?_⟩
  rcases hown.2 with h1 | ⟨g, cap, cur, h1, h2, h3, h4⟩
  · exact .inl h1
  · exact .inr ⟨g, cap, cur, h1, h2, h.other g cur e _ hT h3, h4⟩
theorem own_below {base : Nat} {w w' : World} {e : TypeId} {s : Nat} {v : Value} {k : Nat} {xs : List Value} (hown : w.ownsRow base e s v k xs) (h : Below w.heap.size w w') : w'.ownsRow base e s v k xs :=
  own_keeps (T := fun _ => false) hown (Keeps.of_below (base := 0) h (Nat.zero_le _)) rfl
theorem Sl.kept {w w' : World} {b off n : Nat} {f : Nat → Nat} (h : Sl w (some ⟨b, off, none⟩) n f) (g : w'.heap[b]? = w.heap[b]?) (hs : w.heap.size ≤ w'.heap.size) : Sl w' (some ⟨b, off, none⟩) n f :=
  ⟨h.small, fun hn => by
    obtain ⟨b', off', e, hlt, hc⟩ := h.cells hn
    cases e
    exact ⟨b, off, rfl, Nat.lt_of_lt_of_le hlt hs, fun i hi => (World.cell?_of_block (a := ⟨b, off + i, none⟩) g).trans (hc i hi)⟩⟩
/-- Rows of bytes. -/
def U8 (t : TypeId) : Bool := t == 5
theorem own_new1 (w : World) {base : Nat} (hb : base ≤ w.heap.size) (x : Int) : (w.alloc (.cells #[.int .u8 x] 5)).ownsRow base 5 1 (.slice (some ⟨w.heap.size, 0, none⟩) 1 1) 1 [.int .u8 x] :=
  ⟨rfl, .inr ⟨w.heap.size, 1, #[.int .u8 x], rfl, hb, heap_alloc_new _ _, Nat.le_refl _, by decide, rfl, rfl⟩⟩
theorem hea_short {n : Nat} (m : Nat) (h : n ≤ 55) : hea n m = [128 + m + n] := if_pos h
theorem hea_great {n : Nat} (m : Nat) (h : ¬ n ≤ 55) : hea n m = (183 + m + nbl n) :: bdig (nbl n) n := if_neg h
set_option maxHeartbeats 1000000 in
theorem ahead_walk (base : Nat) (v : Value) (k : Nat) (xs : List Value) (list : Bool) (n : Nat) (w : World) (hown : w.ownsRow base 5 1 v k xs) (hbase : base ≤ w.heap.size) (hk : k ≤ 140737488350000) (hn : n < B) :
    Calls Tryd.prog 40 #[v, .bool list, .int .u64 (n : Int)] w fun e w' => (∃ v', e = .returned v' ∧ w'.ownsRow base 5 1 v' (k + hz n) (xs ++ lb8 (hea n (if list then 64 else 0)))) ∧ Keeps base U8 w w' := by
  have hn' : n < 18446744073709551616 := hn
  obtain ⟨A0, c0, rfl⟩ := own_val hown
  obtain ⟨L, hL, hLv, hLm⟩ : ∃ L : Nat, (L = 128 ∨ L = 192) ∧ (if list then (192 : Int) else 128) = (L : Int) ∧ 128 + (if list then 64 else 0) = L := by cases list <;> exact ⟨_, by decide, rfl, rfl⟩
  have K1 := Lib.hid fun w => least_walk list w
  rw [hLv] at K1
  have HW := Lib.hid hown
  clear hown hLv
  by_cases h : n ≤ 55
  · have e1 : hz n = 1 := if_pos h
    rw [e1, hea_short _ h, hLm]
    clear e1 hLm hn
    have e2 : ((n : Int) % 256) = (n : Int) := by omega
    obtain ⟨q, hq⟩ : ∃ q : Nat, L + n = q := ⟨_, rfl⟩
    rw [hq]
    have e3 : (L : Int) + (n : Int) = (q : Int) := by omega
    have hq8 : q < 256 := by omega
    have o2 := HW.out.alloc (.cells #[.int .u8 (q : Int)] 5)
    have HX := Lib.hid o2
    have b2 : Keeps base U8 w (w.alloc (.cells #[.int .u8 (q : Int)] 5)) := (Keeps.refl _ _ _).alloc hbase _
    have HB := Lib.hid b2
    have hs2 := Nat.le_trans hbase b2.size
    clear HW o2 b2 hq hL
    go_enter Tryd.func40, Tryd.ntmps40
    go_wp2_with fail
    refine (K1.out _).mono ?_
    rintro e w1 ⟨rfl, rfl⟩
    go_wp2_with (at_builtin; refine append_one rfl _ _ rfl base _ k xs rfl HX.out ⟨w1.heap.size, 0, none⟩ (q : Int) rfl (cell_one_new _ _ _) (by omega) hs2 ?_)
    intro v' w' o3 g3
    have HO := Lib.hid o3
    have HG := Lib.hid (HB.out.grown g3 HX.out rfl hs2)
    clear o3 g3 HX HB
    go_wp2_with fail
    go_ret
    exact ⟨⟨_, rfl, HO.out⟩, HG.out⟩
  · have e1 : hz n = 1 + nbl n := by rw [hz, if_neg h, Nat.add_comm]
    have hm8 := nbl_8 hn
    have e4 : (183 + (if list then 64 else 0) + nbl n) = L + 55 + nbl n := by omega
    rw [e1, hea_great _ h, e4, show ∀ x : Nat, ∀ l : List Nat, lb8 (x :: l) = Value.int .u8 (x : Int) :: lb8 l from fun _ _ => rfl, lb8_nf]
    have K2 := Lib.hid fun w => of_wd n w hn
    have K3 := Lib.hid fun w => number_walk n w (Nat.lt_trans hn (by decide))
    clear e1 e4 hLm hn
    generalize nbl n = m at *
    have e2 : (m : Int) % 256 = (m : Int) := by omega
    obtain ⟨q1, hq1⟩ : ∃ q : Nat, L + 55 = q := ⟨_, rfl⟩
    obtain ⟨q, hq⟩ : ∃ q : Nat, q1 + m = q := ⟨_, rfl⟩
    rw [hq1, hq]
    have e3 : (L : Int) + 55 = (q1 : Int) := by omega
    have e5 : (q1 : Int) + (m : Int) = (q : Int) := by omega
    have hq8 : q < 256 := by omega
    have hq9 : q1 < 256 := by omega
    clear hq hq1 hL
    go_enter Tryd.func40, Tryd.ntmps40
    go_wp2_with fail
    refine (K1.out _).mono ?_
    rintro e w1 ⟨rfl, rfl⟩
    go_wp2_with fail
    refine (K2.out _).mono ?_
    rintro e w2 ⟨rfl, b1⟩
    go_wp2_with fail
    refine (K3.out _).mono ?_
    rintro e w3 ⟨⟨nb, no, rfl, hnb, hs⟩, b2⟩
    have b3 := b1.trans (b2.mono b1.size)
    have o3 := own_below HW.out b3
    have HX := Lib.hid (o3.alloc (.cells #[.int .u8 (q : Int)] 5))
    have k3 : Keeps base U8 w1 (w3.alloc (.cells #[.int .u8 (q : Int)] 5)) := (Keeps.of_below b3 hbase).alloc (Nat.le_trans hbase b3.size) _
    have HB := Lib.hid k3
    have HS := Lib.hid (hs.below ((Below.refl _ _).alloc (Nat.le_refl _) (.cells #[.int .u8 (q : Int)] 5)))
    have hs2 := Nat.le_trans hbase k3.size
    have hne : ∀ b, (Value.slice A0 k c0).ownBlock = some b → b < nb := fun b hb => by have h1 := (HW.out.lt b hb).2; have h2 := b1.size; omega
    have HN := Lib.hid hne
    clear b1 b2 b3 o3 k3 HW hs hne hnb
    go_wp2_with (at_builtin; refine append_one rfl _ _ rfl base _ k xs rfl HX.out ⟨w3.heap.size, 0, none⟩ (q : Int) rfl (cell_one_new _ _ _) (by omega) hs2 ?_)
    intro v' w' o3 g3
    have HG := Lib.hid (HB.out.grown g3 HX.out rfl hs2)
    have hs5 : base ≤ w'.heap.size := Nat.le_trans hbase HG.out.size
    have hd : m = 0 ∨ 0 < m := by omega
    have HS' : Hid (Sl w' (some ⟨nb, no, none⟩) m (nf n)) := Lib.hid (by
      rcases hd with rfl | hm
      · exact ⟨fun i hi => by omega, fun hi => by omega⟩
      · obtain ⟨_, _, e, hl, _⟩ := HS.out.cells hm
        cases e
        exact HS.out.kept (g3.block nb hl (fun e => Nat.lt_irrefl _ (HN.out nb e.symm))) g3.size)
    have HO := Lib.hid o3
    clear o3 g3 HX HB HS HN hd
    go_wp2_with (at_builtin; refine append_sl rfl _ _ rfl base _ (k + 1) _ rfl HO.out _ m _ (nf n) rfl (fun h => by cases h) HS'.out (by omega) hs5 ?_)
    intro v2 w4 o4 g4
    have HG2 := Lib.hid (HG.out.grown g4 HO.out rfl hs5)
    have HO2 := Lib.hid o4
    clear o4 g4 HG HO HS'
    go_wp2_with fail
    go_ret
    have := HO2.out
    rw [Nat.add_assoc] at this
    exact ⟨⟨_, rfl, this⟩, HG2.out⟩
end Go.Proofs.YtmcbaolecmkpdaaDoor
