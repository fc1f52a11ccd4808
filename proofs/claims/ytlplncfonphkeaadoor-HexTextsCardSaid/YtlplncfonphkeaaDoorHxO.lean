/- Slices of bytes as strings; letters made great. -/
import Derived.Test.YtlplncfonphkeaaDoorHxN
import Derived.Test.YtlplncfonphkeaaDoorHxL
import Derived.Lib.SlBytesRow
import Derived.Lib.ConvBytes
namespace Go.Proofs.YtlplncfonphkeaaDoor
open Go.RowKit SmWord
set_option maxRecDepth 100000

/-- The signs of these bytes. -/
def bs (f : Nat → Nat) (n : Nat) : List UInt8 := (List.range n).map fun i => UInt8.ofNat (f i)
theorem bs_length (f : Nat → Nat) (n : Nat) : (bs f n).length = n := by simp [bs]
theorem bs_congr {f g : Nat → Nat} {n : Nat} (h : ∀ i, i < n → f i = g i) : bs f n = bs g n := by
  unfold bs
  exact List.map_congr_left fun i hi => by rw [h i (List.mem_range.1 hi)]
theorem conv_list (w : World) (b off c : Nat) (l : List UInt8) (h : ∀ i, i < l.length → w.cell? ⟨b, off + i, none⟩ = some (.int .u8 (((l.getD i 0).toNat : Nat) : Int))) :
    (convert 22 9 (.slice (some ⟨b, off, none⟩) l.length c)).run Tryd.prog w = .ok (.string (str l)) w := by
  have hb : Lib.Bytes w b off (str l) := fun i hi => by
    rw [h i (by rw [← str_size]; exact hi), str_get l hi]
  have := Lib.run_convert_whole (P := Tryd.prog) w 22 5 9 Tryd.underlying22 Tryd.underlying5 Tryd.underlying9 b off (str l) hb c
  rwa [str_size] at this
theorem conv_sl {w : World} {A : Option Addr} {n c : Nat} {f : Nat → Nat} (h : Sl w A n f) :
    (convert 22 9 (.slice A n c)).run Tryd.prog w = .ok (.string (str (bs f n))) w := by
  by_cases hn : 0 < n
  · obtain ⟨b, off, rfl, _, hc⟩ := h.cells hn
    have := conv_list w b off c (bs f n) (fun i hi => by
      rw [bs_length] at hi
      rw [hc i hi]
      have e : (bs f n).getD i 0 = UInt8.ofNat (f i) := by simp [bs, List.getD, hi]
      rw [e]
      have := h.small i hi
      simp
      omega)
    rwa [bs_length] at this
  · obtain rfl : n = 0 := by omega
    cases A with
    | none => exact run_convert_bytes_nil (P := Tryd.prog) w 22 5 Tryd.underlying22 Tryd.underlying5 0 c 9 Tryd.underlying9
    | some a =>
      rw [run_convert_bytes_string w 22 9 5 (some a) 0 c Tryd.underlying22 Tryd.underlying5 Tryd.underlying9]
      exact run_bytesToString (P := Tryd.prog) w a 0 c [] (by kernel_rfl)

/-- A great letter, if it is a small one. -/
def un (c : Nat) : Nat := if 97 ≤ c then c - 32 else c
def great (c : UInt8) : UInt8 := UInt8.ofNat (un c.toNat)
theorem un_lt (c : UInt8) : un c.toNat < 256 := by have := UInt8.toNat_lt c; unfold un; split <;> omega
theorem great_toNat (c : UInt8) : (great c).toNat = un c.toNat := by
  have := un_lt c
  simp [great]; omega
theorem vl_great : ∀ n, n < 16 → vl (great (hx n)) = n := by decide
/-- Two digits a byte, with great letters. -/
def tX (f : Nat → Nat) (n : Nat) : List UInt8 := (tx f n).map great
theorem tX_length (f : Nat → Nat) (n : Nat) : (tX f n).length = 2 * n := by rw [tX, List.length_map, tx_length]
theorem okD_tX {f : Nat → Nat} : ∀ {n : Nat}, (∀ i, i < n → f i < 256) → okD (tX f n)
  | 0, _ => by intro c hc; cases hc
  | n + 1, h => by
    intro c hc
    rw [tX, show tx f (n + 1) = tx f n ++ [hx (f n / 16), hx (f n % 16)] from rfl, List.map_append] at hc
    have := h n (by omega)
    rcases List.mem_append.1 hc with hc | hc
    · exact okD_tX (n := n) (fun i hi => h i (by omega)) c hc
    · simp only [List.map_cons, List.map_nil, List.mem_cons, List.mem_nil_iff, or_false] at hc
      rcases hc with rfl | rfl
      · rw [vl_great _ (by omega)]; omega
      · rw [vl_great _ (by omega)]; omega
theorem pv_tX {f : Nat → Nat} {n i : Nat} (hi : i < n) (hf : f i < 256) : pv (tX f n) i = f i := by
  obtain ⟨h1, h2⟩ := tx_get f hi
  unfold pv tX
  rw [List.getD, List.getD, List.getElem?_map, List.getElem?_map, h1, h2]
  simp only [Option.map_some, Option.getD_some]
  rw [vl_great _ (by omega), vl_great _ (by omega)]
  omega
/-- A whole array, loaded, in a row of operations, where a guard lets it. -/
theorem wpList_load_row_if {P : Program} {ops : Array Oper} {rest : List Oper} {o : Oper} {a : Act} {w : World} {Q : Exit → Act → World → Prop} (hw : Region.wanted o (yielded ops a.tmps) = true) (ty : TypeId) (x : Operand) (ho : o.op = .load ty x)
    (g : Nat) (hx : a.eval x = .pointer (some ⟨g, 0, none⟩)) (t : TypeId) (cs : Array Value) (fr : Nat × Nat) (d : TypeDesc) (hg : w.heap[g]? = some (.cells cs t fr))
    (hu : P.underlying ty = some d) (hd : (match d with | .struct _ | .array _ _ => true | _ => false) = true) (hi : (P.info? ty).map (·.size) = some cs.size)
    (h : wpList P ops Q rest (a.put o.dst (.agg cs)) w) : wpList P ops Q (o :: rest) a w := by
  unfold wpList
  rw [if_pos hw]
  exact .inl (wp_load_row ty x ho g hx t cs fr d hg hu hd hi h)
end Go.Proofs.YtlplncfonphkeaaDoor
