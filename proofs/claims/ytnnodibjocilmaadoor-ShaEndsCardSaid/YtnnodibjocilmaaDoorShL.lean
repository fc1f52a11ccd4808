/- Rows of bytes that a call appends to: with one byte, and with a slice of bytes; a slice of bytes as a string; a row of noughts. -/
import Derived.Test.YtnnodibjocilmaaDoorShA
import Derived.Laws.AppendOwn
import Derived.Laws.AppendOwnNone
import Derived.Maps.AppendAt
import Derived.Lib.SlBytesRow
import Derived.Lib.ConvBytes
import Derived.Deep.OwnRows
namespace Go.Proofs.YtnnodibjocilmaaDoor
open Go.RowKit SmWord
set_option maxRecDepth 100000

theorem Tryd.info8 : (Tryd.prog.info? 5).map (fun i => (i.zero, i.size, i.bytes)) = some (some (.int .u8 0), 1, 1) := by kernel_rfl
theorem Tryd.parts8 : ∃ i, Tryd.prog.info? 5 = some i ∧ i.zero = some (.int .u8 0) ∧ i.size = 1 ∧ i.bytes = 1 := info_parts Tryd.info8
/-- n bytes as a list. -/
def bl (f : Nat → Nat) (n : Nat) : List Value := (List.range n).map fun i => Value.int .u8 ((f i : Nat) : Int)
theorem bl_length (f : Nat → Nat) (n : Nat) : (bl f n).length = n := by simp [bl]
theorem bl_get (f : Nat → Nat) {n i : Nat} (h : i < n) : (bl f n)[i]? = some (.int .u8 ((f i : Nat) : Int)) := by simp [bl, h]
theorem bl_snoc (f : Nat → Nat) (k : Nat) : bl f k ++ [.int .u8 ((f k : Nat) : Int)] = bl f (k + 1) := by
  unfold bl
  rw [List.range_succ, List.map_append]
  rfl
theorem bl_congr {f g : Nat → Nat} {n : Nat} (h : ∀ i, i < n → f i = g i) : bl f n = bl g n := List.map_congr_left fun i hi => by rw [h i (List.mem_range.1 hi)]
theorem own_val {w : World} {base : Nat} {v : Value} {k : Nat} {xs : List Value} (h : w.ownsRow base 5 1 v k xs) : ∃ A c, v = .slice A k c := by
  rcases h.2 with ⟨rfl, rfl⟩ | ⟨g, cap, cur, rfl, _⟩
  · exact ⟨none, 0, rfl⟩
  · exact ⟨_, _, rfl⟩
/-- A slice of bytes is appended. -/
theorem append_sl {ops : Array Oper} {rest : List Oper} {o : Oper} {a : Act} {w : World} {Q : Exit → Act → World → Prop} (hg : o.guard = none) (s x : Operand)
    (ho : o.op = .call { callee := .builtin .append, args := #[s, x], argTypes := #[22, 22] }) (base : Nat) (v : Value) (k : Nat) (xs : List Value) (hs : a.eval s = v) (hown : w.ownsRow base 5 1 v k xs)
    (A : Option Addr) (n c : Nat) (f : Nat → Nat) (hx : a.eval x = .slice A n c) (hA : A = none → n = 0 ∧ c = 0) (hsl : Sl w A n f) (hk : k + n ≤ 1000000) (hbase : base ≤ w.heap.size)
    (h : ∀ v' w', w'.ownsRow base 5 1 v' (k + n) (xs ++ bl f n) → w.grownBy w' v.ownBlock → wpList Tryd.prog ops Q rest (a.put o.dst v') w') : wpList Tryd.prog ops Q (o :: rest) a w := by
  obtain ⟨i0, hi0, hz0, hz1, hz2⟩ := Tryd.parts8
  cases A with
  | none =>
    obtain ⟨rfl, rfl⟩ := hA rfl
    refine wpList_append_own_none hg s x 22 ho base 5 i0 1 Tryd.underlying22 hi0 v k xs hs hown hx (h v w (by simpa [bl] using hown) ⟨rfl, rfl, rfl, Nat.le_refl _, fun _ _ _ => rfl⟩)
  | some ad =>
    refine wpList_append_own_at w hg s x 22 ho base 5 i0 (.int .u8 0) 1 1 Tryd.underlying22 hi0 hz0 hz1 hz2 rfl (by decide) v k xs hs hown ad n c (bl f n) hx (by rw [bl_length, Nat.mul_one]) (fun j u hj => ?_) (fun u hu => ?_) (by unfold maxLen; omega) (by omega) hbase (fun v' w' h1 h2 _ _ => h v' w' h1 h2)
    · have hjn : j < n := by have := (List.getElem?_eq_some_iff.1 hj).1; rwa [bl_length] at this
      obtain ⟨b, off, e, _, hc⟩ := hsl.cells (by omega)
      cases e
      rw [bl_get f hjn] at hj
      cases hj
      have hadd : (⟨b, off, none⟩ : Addr).add j = ⟨b, off + j, none⟩ := by unfold Addr.add; split <;> simp_all
      rw [hadd]
      exact hc j hjn
    · simp [bl] at hu
      obtain ⟨i, _, rfl⟩ := hu
      rfl
/-- A byte is appended. -/
theorem append_one {ops : Array Oper} {rest : List Oper} {o : Oper} {a : Act} {w : World} {Q : Exit → Act → World → Prop} (hg : o.guard = none) (s x : Operand)
    (ho : o.op = .call { callee := .builtin .append, args := #[s, x], argTypes := #[22, 22] }) (base : Nat) (v : Value) (k : Nat) (xs : List Value) (hs : a.eval s = v) (hown : w.ownsRow base 5 1 v k xs)
    (ad : Addr) (u : Int) (hx : a.eval x = .slice (some ad) 1 1) (hnews : ∀ j v, [Value.int .u8 u][j]? = some v → w.cell? (ad.add j) = some v) (hk : k < 1000000) (hbase : base ≤ w.heap.size)
    (h : ∀ v' w', w'.ownsRow base 5 1 v' (k + 1) (xs ++ [.int .u8 u]) → w.grownBy w' v.ownBlock → wpList Tryd.prog ops Q rest (a.put o.dst v') w') : wpList Tryd.prog ops Q (o :: rest) a w := by
  obtain ⟨i0, hi0, hz0, hz1, hz2⟩ := Tryd.parts8
  refine wpList_append_own_at w hg s x 22 ho base 5 i0 (.int .u8 0) 1 1 Tryd.underlying22 hi0 hz0 hz1 hz2 rfl (by decide) v k xs hs hown ad 1 1 [.int .u8 u] hx rfl hnews (fun v hv => ?_) (by unfold maxLen; omega) (by omega) hbase (fun v' w' h1 h2 _ _ => h v' w' h1 h2)
  simp at hv
  subst hv
  rfl
theorem own_row {w : World} {base : Nat} {A : Option Addr} {k c : Nat} {f : Nat → Nat} (h : w.ownsRow base 5 1 (.slice A k c) k (bl f k)) (hk : 0 < k) :
    ∃ g cur, A = some ⟨g, 0, none⟩ ∧ base ≤ g ∧ w.heap[g]? = some (.cells cur 5) ∧ k ≤ c ∧ ∀ i, i < k → cur[i]? = some (.int .u8 ((f i : Nat) : Int)) := by
  rcases h.2 with ⟨_, rfl⟩ | ⟨g, cap, cur, e, hb, hg, h1, h2, h3, h4⟩
  · omega
  · cases e
    refine ⟨g, cur, rfl, hb, hg, h1, fun i hi => ?_⟩
    have e : cur.toList[i]? = (cur.toList.take (k * 1))[i]? := by rw [List.getElem?_take_of_lt (by omega)]
    rw [← Array.getElem?_toList, e, h4, bl_get f hi]
def lenV : Value → Nat | .slice _ n _ => n | _ => 0
def str (l : List UInt8) : ByteArray := ⟨l.toArray⟩
theorem str_of (s : ByteArray) : str s.data.toList = s := by cases s; simp [str]
theorem str_size (l : List UInt8) : (str l).size = l.length := by simp [str, ByteArray.size]
theorem str_get (l : List UInt8) {i : Nat} (hi : i < (str l).size) : (str l)[i].toNat = (l.getD i 0).toNat := by
  have h : i < l.length := by rw [← str_size]; exact hi
  rw [List.getD, List.getElem?_eq_getElem h]
  rfl
/-- The signs of these bytes. -/
def bs (f : Nat → Nat) (n : Nat) : List UInt8 := (List.range n).map fun i => UInt8.ofNat (f i)
theorem bs_length (f : Nat → Nat) (n : Nat) : (bs f n).length = n := by simp [bs]
theorem bs_congr {f g : Nat → Nat} {n : Nat} (h : ∀ i, i < n → f i = g i) : bs f n = bs g n := by
  unfold bs
  exact List.map_congr_left fun i hi => by rw [h i (List.mem_range.1 hi)]
theorem conv_list (w : World) (b off c : Nat) (l : List UInt8) (h : ∀ i, i < l.length → w.cell? ⟨b, off + i, none⟩ = some (.int .u8 (((l.getD i 0).toNat : Nat) : Int))) :
    (convert 22 9 (.slice (some ⟨b, off, none⟩) l.length c)).run Tryd.prog w = .ok (.string (str l)) w := by
  have hb : Lib.Bytes w b off (str l) := fun i hi => by
    rw [h i (by rw [← str_size]; exact hi), str_get l hi]
  have := Lib.run_convert_whole (P := Tryd.prog) w 22 5 9 Tryd.underlying22 Tryd.underlying5 Tryd.underlying9 b off (str l) hb c
  rwa [str_size] at this
theorem conv_sl {w : World} {A : Option Addr} {n c : Nat} {f : Nat → Nat} (h : Sl w A n f) :
    (convert 22 9 (.slice A n c)).run Tryd.prog w = .ok (.string (str (bs f n))) w := by
  by_cases hn : 0 < n
  · obtain ⟨b, off, rfl, _, hc⟩ := h.cells hn
    have := conv_list w b off c (bs f n) (fun i hi => by
      rw [bs_length] at hi
      rw [hc i hi]
      have e : (bs f n).getD i 0 = UInt8.ofNat (f i) := by simp [bs, List.getD, hi]
      rw [e]
      have := h.small i hi
      simp
      omega)
    rwa [bs_length] at this
  · obtain rfl : n = 0 := by omega
    cases A with
    | none => exact run_convert_bytes_nil (P := Tryd.prog) w 22 5 Tryd.underlying22 Tryd.underlying5 0 c 9 Tryd.underlying9
    | some a =>
      rw [run_convert_bytes_string w 22 9 5 (some a) 0 c Tryd.underlying22 Tryd.underlying5 Tryd.underlying9]
      exact run_bytesToString (P := Tryd.prog) w a 0 c [] (by kernel_rfl)

theorem Tryd.guardH : Tryd.prog.eqGuardType Tryd.prog.depth 30 = false := by kernel_rfl
theorem Tryd.cells8 : Tryd.prog.cellsOf 5 = 1 := by kernel_rfl
theorem equal_ha (f : Nat → Nat) (w : World) : (Op.equalIn 10000 30 (.agg (ha f)) (.agg (ha f))).run Tryd.prog w = .ok true w := by
  obtain ⟨r, hr, hiff⟩ := equal_ints (k := .u8) Tryd.underlying30 Tryd.underlying5 Tryd.cells8 (ha f) (ha f) (arr_size _ _ _) (arr_size _ _ _) (fun i hi => ⟨_, _, arr_get .u8 _ hi, arr_get .u8 _ hi⟩) w
  rw [hr, hiff.2 rfl]
theorem own_sl {w : World} {base : Nat} {v : Value} {k : Nat} {f : Nat → Nat} (h : w.ownsRow base 5 1 v k (bl f k)) (hf : ∀ i, i < k → f i < 256) : ∃ A c, v = .slice A k c ∧ k ≤ c ∧ Sl w A k f := by
  rcases h.2 with ⟨rfl, rfl⟩ | ⟨g, cap, cur, rfl, hb, hg, h1, h2, h3, h4⟩
  · exact ⟨none, 0, rfl, Nat.le_refl _, hf, fun h => by omega⟩
  · refine ⟨_, cap, rfl, h1, hf, fun h => ⟨g, 0, rfl, (Array.getElem?_eq_some_iff.1 hg).1, fun i hi => ?_⟩⟩
    rw [Nat.zero_add]
    refine blk_cell hg ?_
    have e : cur.toList[i]? = (cur.toList.take (k * 1))[i]? := by rw [List.getElem?_take_of_lt (by omega)]
    rw [← Array.getElem?_toList, e, h4, bl_get f hi]
theorem Tryd.make_bytes (n : Nat) (hn : n ≤ 140737488355328) (w : World) :
    (Instr.makeSlice 22 (.int .i64 (n : Int)) (.int .i64 (n : Int))).run Tryd.prog w = .ok (.slice (some ⟨w.heap.size, 0, none⟩) n n) (w.alloc (.cells (arr .u8 n (fun _ => 0)) 5)) := by
  have e : madeCells #[Value.int .u8 0] n = arr .u8 n (fun _ => 0) := by
    apply Array.ext
    · simp [arr_size, size_madeCells]
    · intro i h1 h2
      simp [arr, madeCells, Nat.mod_one]
  rw [← e]
  exact _root_.Go.run_make_row' 22 5 (.int .u8 0) 1 Tryd.underlying22 Tryd.info8 rfl .i64 .i64 n (by omega) (by omega) w
end Go.Proofs.YtnnodibjocilmaaDoor
