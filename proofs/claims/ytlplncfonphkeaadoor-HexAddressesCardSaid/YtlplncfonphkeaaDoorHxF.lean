/- How bytes are written: package hex's Text and the document's Text. -/
import Derived.Test.YtlplncfonphkeaaDoorHxB
import Derived.Test.YtlplncfonphkeaaDoorFromW
import Derived.Test.YtlplncfonphkeaaDoorBuilder
namespace Go.Proofs.YtlplncfonphkeaaDoor
open Go.RowKit SmWord
set_option maxRecDepth 100000

theorem text_cell : ∀ j (h : j < (⟨#[48, 49, 50, 51, 52, 53, 54, 55, 56, 57, 97, 98, 99, 100, 101, 102]⟩ : ByteArray).size), (⟨#[48, 49, 50, 51, 52, 53, 54, 55, 56, 57, 97, 98, 99, 100, 101, 102]⟩ : ByteArray)[j].toNat = (hx j).toNat := by decide
/-- A used builder that holds these bytes. -/
def Held (b : Nat) (l : List UInt8) (w : World) : Prop := Lib.BuilderAt 47 5 b b (.pointer (some ⟨b, 0, none⟩)) (Lib.byteCells l) w
theorem held_next {b : Nat} {l : List UInt8} {c : UInt8} {w : World} (h : Lib.BuilderAt 47 5 b b (.pointer (some ⟨b, 0, none⟩)) (Lib.byteCells l ++ [.int .u8 ((c.toNat : Nat) : Int)]) w) : Held b (l ++ [c]) w := by
  unfold Held; rw [Lib.byteCells_append]; exact h
theorem write_byte (b : Nat) (l : List UInt8) (c : UInt8) (w : World) (h : Held b l w) (hl : l.length < 3000000) (hB : b ≤ w.heap.size) :
    Calls Tryd.prog 18 #[.pointer (some ⟨b, 0, none⟩), .int .u8 ((c.toNat : Nat) : Int)] w fun e w' => e = .returned .nilIface ∧ Held b (l ++ [c]) w' ∧ Below b w w' := by
  refine (Tryd.Builder_WriteByte b b (Lib.byteCells l) _ w (Or.inr h) (by rw [Lib.byteCells_length]; omega) hB).mono ?_
  rintro e w' ⟨rfl, h1, h2⟩
  exact ⟨rfl, held_next h1, h2⟩
set_option maxHeartbeats 1000000 in
theorem text_walk (A : Option Addr) (n c : Nat) (f : Nat → Nat) (w : World) (hn : n ≤ 1000000) (hs : Hid (Sl w A n f)) :
    Calls Tryd.prog 7 #[.slice A n c] w fun e w' => e = .returned (.string (str (48 :: 120 :: tx f n))) ∧ Below w.heap.size w w' := by
  go_enter Tryd.func7, Tryd.ntmps7
  have hb0 : (w.alloc (.cells #[.pointer none, .slice none 0 0] 47)).heap[w.heap.size]? = some (.cells #[.pointer none, .slice none 0 0] 47 (0, 0)) := heap_alloc_new _ _
  have bW : Below w.heap.size w (w.alloc (.cells #[.pointer none, .slice none 0 0] 47)) := (Below.refl _ _).alloc (Nat.le_refl _) _
  have HB0 := Lib.hid hb0
  have HW := Lib.hid bW
  clear hb0 bW
  obtain ⟨m, hm⟩ : ∃ m : Nat, m = 2 + 2 * n := ⟨_, rfl⟩
  have e1 : 2 + 2 * (n : Int) = (m : Int) := by omega
  have hm1 : m ≤ 2000002 := by omega
  clear hm
  go_wp2_with (go_at_call 16; refine (Tryd.Builder_Grow_fresh w.heap.size w.heap.size m _ (Nat.le_refl _) HB0.out HW.out.size (by omega)).mono ?_; rintro e w1 ⟨rfl, hu, hb⟩)
  have HB1 := Lib.hid (HW.out.trans hb)
  have HU1 := Lib.hid (Or.inr hu : Lib.IsBuilder 47 5 w.heap.size w.heap.size [] w1)
  clear hb hu HB0 HW
  go_wp2_with (go_at_call 17; refine (Tryd.Builder_WriteString w.heap.size w.heap.size [] ⟨#[48, 120]⟩ _ HU1.out (by simp [ByteArray.size]) HB1.out.size).mono ?_; rintro e w2 ⟨rfl, hu, hb⟩)
  have HB2 := Lib.hid (HB1.out.trans hb)
  have HU2 := Lib.hid (hu : Held w.heap.size (48 :: 120 :: tx f 0) w2)
  clear hb hu HB1 HU1 w1
  go_loopw [14] (fun i wr => ∃ k : Nat, k ≤ n ∧ i = .int .i64 k ∧ Held w.heap.size (48 :: 120 :: tx f k) wr ∧ Below w.heap.size w wr) (fun i _ => n - (intOf i).toNat)
  case atStart => exact ⟨0, Nat.zero_le _, rfl, HU2.out, HB2.out⟩
  case round =>
    obtain ⟨k, hk, rfl, hu, hb⟩ := hrel
    have HU := Lib.hid hu
    have HB := Lib.hid hb
    clear hu hb HU2 HB2
    by_cases hlt : k < n
    · obtain ⟨b, off, rfl, hbl, hc⟩ := (hs.out.below HB.out).cells (by omega)
      have c1 := hc k hlt
      have hf := hs.out.small k hlt
      clear hc
      have HT := Lib.hid (show 48 :: 120 :: tx f (k + 1) = 48 :: 120 :: tx f k ++ [hx (f k / 16)] ++ [hx (f k % 16)] by simp [tx])
      have hl : (48 :: 120 :: tx f k).length = 2 * k + 2 := by simp [tx_length]
      generalize f k = x at *
      have HL := Lib.hid hl
      clear hl
      generalize 48 :: 120 :: tx f k = t at *
      have e3 := text_cell (x / 16) (by show x / 16 < 16; omega)
      have e4 := text_cell (x % 16) (by show x % 16 < 16; omega)
      go_wp2_with fail
      refine (write_byte w.heap.size t (hx (x / 16)) _ HU.out (by rw [HL.out]; omega) HB.out.size).mono ?_
      rintro e w3 ⟨rfl, hu, hb⟩
      have HU3 := Lib.hid hu
      have HB3 := Lib.hid (HB.out.trans hb)
      clear hu hb HU HB
      have hl3 : (t ++ [hx (x / 16)]).length < 3000000 := by have := HL.out; simp; omega
      go_wp2_with fail
      refine (write_byte w.heap.size (t ++ [hx (x / 16)]) (hx (x % 16)) _ HU3.out hl3 HB3.out.size).mono ?_
      rintro e w4 ⟨rfl, hu, hb⟩
      have HU4 := Lib.hid hu
      have HB4 := Lib.hid (HB3.out.trans hb)
      clear hu hb HU3 HB3
      go_wp2_with fail
      refine ⟨⟨k + 1, by omega, by go_num, ?_, HB4.out⟩, by simp [intOf]; omega⟩
      rw [HT.out]; exact HU4.out
    · obtain rfl : k = n := by omega
      go_wp2_with (go_at_call 19; refine (Tryd.Builder_String_any w.heap.size w.heap.size (48 :: 120 :: tx f k) _ (Or.inr HU.out) HB.out.size).mono ?_; rintro e w3 ⟨rfl, hb⟩; have HB3 := Lib.hid (HB.out.trans hb); clear hb)
      go_ret
      exact ⟨rfl, HB3.out⟩
end Go.Proofs.YtlplncfonphkeaaDoor
