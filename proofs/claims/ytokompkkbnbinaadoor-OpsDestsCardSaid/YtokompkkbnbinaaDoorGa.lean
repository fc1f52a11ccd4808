/- How bytes are written: package hex's Text; a builder through calls that only make new memory. -/
import Derived.Test.YtokompkkbnbinaaDoorG0
import Derived.Test.YtokompkkbnbinaaDoorG4
import Derived.Test.YtokompkkbnbinaaDoorBuilder
import Derived.Test.YtokompkkbnbinaaDoorG8
import Derived.Test.YtokompkkbnbinaaDoorG7
namespace Go.Proofs.YtokompkkbnbinaaDoor
open Go.RowKit SmWord
set_option maxRecDepth 100000

theorem text_cell : ∀ j (h : j < (⟨#[48, 49, 50, 51, 52, 53, 54, 55, 56, 57, 97, 98, 99, 100, 101, 102]⟩ : ByteArray).size), (⟨#[48, 49, 50, 51, 52, 53, 54, 55, 56, 57, 97, 98, 99, 100, 101, 102]⟩ : ByteArray)[j].toNat = (hx j).toNat := by decide
/-- A used builder that holds these bytes. -/
def Held (b : Nat) (l : List UInt8) (w : World) : Prop := Lib.BuilderAt 49 5 b b (.pointer (some ⟨b, 0, none⟩)) (Lib.byteCells l) w
theorem held_next {b : Nat} {l : List UInt8} {c : UInt8} {w : World} (h : Lib.BuilderAt 49 5 b b (.pointer (some ⟨b, 0, none⟩)) (Lib.byteCells l ++ [.int .u8 ((c.toNat : Nat) : Int)]) w) : Held b (l ++ [c]) w := by
  unfold Held; rw [Lib.byteCells_append]; exact h
theorem write_byte (b : Nat) (l : List UInt8) (c : UInt8) (w : World) (h : Held b l w) (hl : l.length < 3000000) (hB : b ≤ w.heap.size) :
    Calls Tryd.prog 33 #[.pointer (some ⟨b, 0, none⟩), .int .u8 ((c.toNat : Nat) : Int)] w fun e w' => e = .returned .nilIface ∧ Held b (l ++ [c]) w' ∧ Below b w w' := by
  refine (Tryd.Builder_WriteByte b b (Lib.byteCells l) _ w (Or.inr h) (by rw [Lib.byteCells_length]; omega) hB).mono ?_
  rintro e w' ⟨rfl, h1, h2⟩
  exact ⟨rfl, held_next h1, h2⟩
set_option maxHeartbeats 1000000 in
theorem text_walk (A : Option Addr) (n c : Nat) (f : Nat → Nat) (w : World) (hn : n ≤ 1000000) (hs : Hid (Sl w A n f)) :
    Calls Tryd.prog 35 #[.slice A n c] w fun e w' => e = .returned (.string (str (48 :: 120 :: tx f n))) ∧ Below w.heap.size w w' := by
  go_enter Tryd.func35, Tryd.ntmps35
  have hb0 : (w.alloc (.cells #[.pointer none, .slice none 0 0] 49)).heap[w.heap.size]? = some (.cells #[.pointer none, .slice none 0 0] 49 (0, 0)) := heap_alloc_new _ _
  have bW : Below w.heap.size w (w.alloc (.cells #[.pointer none, .slice none 0 0] 49)) := (Below.refl _ _).alloc (Nat.le_refl _) _
  have HB0 := Lib.hid hb0
  have HW := Lib.hid bW
  clear hb0 bW
  obtain ⟨m, hm⟩ : ∃ m : Nat, m = 2 + 2 * n := ⟨_, rfl⟩
  have e1 : 2 + 2 * (n : Int) = (m : Int) := by omega
  have hm1 : m ≤ 2000002 := by omega
  clear hm
  go_wp2_with (go_at_call 42; refine (Tryd.Builder_Grow_fresh w.heap.size w.heap.size m _ (Nat.le_refl _) HB0.out HW.out.size (by omega)).mono ?_; rintro e w1 ⟨rfl, hu, hb⟩)
  have HB1 := Lib.hid (HW.out.trans hb)
  have HU1 := Lib.hid (Or.inr hu : Lib.IsBuilder 49 5 w.heap.size w.heap.size [] w1)
  clear hb hu HB0 HW
  go_wp2_with (go_at_call 31; refine (Tryd.Builder_WriteString w.heap.size w.heap.size [] ⟨#[48, 120]⟩ _ HU1.out (by simp [ByteArray.size]) HB1.out.size).mono ?_; rintro e w2 ⟨rfl, hu, hb⟩)
  have HB2 := Lib.hid (HB1.out.trans hb)
  have HU2 := Lib.hid (hu : Held w.heap.size (48 :: 120 :: tx f 0) w2)
  clear hb hu HB1 HU1 w1
  go_loopw [14] (fun i wr => ∃ k : Nat, k ≤ n ∧ i = .int .i64 k ∧ Held w.heap.size (48 :: 120 :: tx f k) wr ∧ Below w.heap.size w wr) (fun i _ => n - (intOf i).toNat)
  case atStart => exact ⟨0, Nat.zero_le _, rfl, HU2.out, HB2.out⟩
  case round =>
    obtain ⟨k, hk, rfl, hu, hb⟩ := hrel
    have HU := Lib.hid hu
    have HB := Lib.hid hb
    clear hu hb HU2 HB2
    by_cases hlt : k < n
    · obtain ⟨b, off, rfl, hbl, hc⟩ := (hs.out.below HB.out).cells (by omega)
      have c1 := hc k hlt
      have hf := hs.out.small k hlt
      clear hc
      have HT := Lib.hid (show 48 :: 120 :: tx f (k + 1) = 48 :: 120 :: tx f k ++ [hx (f k / 16)] ++ [hx (f k % 16)] by simp [tx])
      have hl : (48 :: 120 :: tx f k).length = 2 * k + 2 := by simp [tx_length]
      generalize f k = x at *
      have HL := Lib.hid hl
      clear hl
      generalize 48 :: 120 :: tx f k = t at *
      have e3 := text_cell (x / 16) (by show x / 16 < 16; omega)
      have e4 := text_cell (x % 16) (by show x % 16 < 16; omega)
      go_wp2_with fail
      refine (write_byte w.heap.size t (hx (x / 16)) _ HU.out (by rw [HL.out]; omega) HB.out.size).mono ?_
      rintro e w3 ⟨rfl, hu, hb⟩
      have HU3 := Lib.hid hu
      have HB3 := Lib.hid (HB.out.trans hb)
      clear hu hb HU HB
      have hl3 : (t ++ [hx (x / 16)]).length < 3000000 := by have := HL.out; simp; omega
      go_wp2_with fail
      refine (write_byte w.heap.size (t ++ [hx (x / 16)]) (hx (x % 16)) _ HU3.out hl3 HB3.out.size).mono ?_
      rintro e w4 ⟨rfl, hu, hb⟩
      have HU4 := Lib.hid hu
      have HB4 := Lib.hid (HB3.out.trans hb)
      clear hu hb HU3 HB3
      go_wp2_with fail
      refine ⟨⟨k + 1, by omega, by go_num, ?_, HB4.out⟩, by simp [intOf]; omega⟩
      rw [HT.out]; exact HU4.out
    · obtain rfl : k = n := by omega
      go_wp2_with (go_at_call 36; refine (Tryd.Builder_String_any w.heap.size w.heap.size (48 :: 120 :: tx f k) _ (Or.inr HU.out) HB.out.size).mono ?_; rintro e w3 ⟨rfl, hb⟩; have HB3 := Lib.hid (HB.out.trans hb); clear hb)
      go_ret
      exact ⟨rfl, HB3.out⟩
theorem Held.below {b : Nat} {l : List UInt8} {w w' : World} (h : Held b l w) (hb : Below w.heap.size w w') : Held b l w' := by
  obtain ⟨hB, v, h1, h2, h3⟩ := h
  exact ⟨hB, v, stay hb h1, own_below h2 hb, h3⟩
theorem write_str (b : Nat) (l m : List UInt8) (w : World) (h : Held b l w) (hl : l.length + m.length < 3000000) (hB : b ≤ w.heap.size) :
    Calls Tryd.prog 31 #[.pointer (some ⟨b, 0, none⟩), .string ⟨m.toArray⟩] w fun e w' => e = .returned (.tuple #[.int .i64 ((m.length : Nat) : Int), .nilIface]) ∧ Held b (l ++ m) w' ∧ Below b w w' := by
  refine (Tryd.Builder_WriteString b b (Lib.byteCells l) ⟨m.toArray⟩ w (Or.inr h) (by rw [Lib.byteCells_length]; simp [ByteArray.size]; omega) hB).mono ?_
  rintro e w' ⟨rfl, h1, h2⟩
  refine ⟨rfl, ?_, h2⟩
  unfold Held
  rw [Lib.byteCells_append]
  exact h1
theorem write_b (b : Nat) (l : List UInt8) (c : UInt8) (z : Int) (hz : z = ((c.toNat : Nat) : Int)) (w : World) (h : Held b l w) (hl : l.length < 3000000) (hB : b ≤ w.heap.size) :
    Calls Tryd.prog 33 #[.pointer (some ⟨b, 0, none⟩), .int .u8 z] w fun e w' => e = .returned .nilIface ∧ Held b (l ++ [c]) w' ∧ Below b w w' := by
  subst hz
  exact write_byte b l c w h hl hB
theorem fresh_builder (w : World) : Lib.IsBuilder 49 5 w.heap.size w.heap.size [] (w.alloc (.cells #[.pointer none, .slice none 0 0] 49)) :=
  Or.inl ⟨Nat.le_refl _, _, heap_alloc_new _ _, World.ownsRow_nil _ _ _ _, by simp [Value.ownBlock]⟩
theorem Isb.below {b : Nat} {l : List Value} {w w' : World} (h : Lib.IsBuilder 49 5 b b l w) (hb : Below w.heap.size w w') : Lib.IsBuilder 49 5 b b l w' := by
  rcases h with ⟨hB, v, h1, h2, h3⟩ | ⟨hB, v, h1, h2, h3⟩
  · exact .inl ⟨hB, v, stay hb h1, own_below h2 hb, h3⟩
  · exact .inr ⟨hB, v, stay hb h1, own_below h2 hb, h3⟩
theorem write_first (b : Nat) (m : List UInt8) (w : World) (h : Lib.IsBuilder 49 5 b b [] w) (hl : m.length < 3000000) (hB : b ≤ w.heap.size) :
    Calls Tryd.prog 31 #[.pointer (some ⟨b, 0, none⟩), .string ⟨m.toArray⟩] w fun e w' => e = .returned (.tuple #[.int .i64 ((m.length : Nat) : Int), .nilIface]) ∧ Held b m w' ∧ Below b w w' := by
  refine (Tryd.Builder_WriteString b b [] ⟨m.toArray⟩ w h (by simp [ByteArray.size]; omega) hB).mono ?_
  rintro e w' ⟨rfl, h1, h2⟩
  exact ⟨rfl, h1, h2⟩
end Go.Proofs.YtokompkkbnbinaaDoor
/- The text of the chapter's example: a push of one byte. -/
namespace Go.Proofs.YtokompkkbnbinaaDoor
open Go.RowKit SmWord
set_option maxRecDepth 100000
set_option maxHeartbeats 1000000 in
theorem written_core (x : Nat) (T : OpT) (w : World) (K : Hid (∀ w, Calls Tryd.prog 6 #[.int .u8 (x : Int)] w fun e w' => e = .returned (.tuple #[tv T, .bool true]) ∧ Below w.heap.size w w')) :
    Calls Tryd.prog 34 #[.int .u8 (x : Int)] w fun e w' => e = .returned (.string T.nm) ∧ Below w.heap.size w w' := by
  go_enter Tryd.func34, Tryd.ntmps34
  go_wp2_with (first | (go_at_call 6; refine (K.out _).mono ?_; rintro e w1 ⟨rfl, hb⟩; have r0 := blk_row (c' := tC T) (heap_alloc_new w1 (.cells zO 24)); have d0 := blk_cell r0 (show (tC T)[0]? = some (.string T.nm) from rfl); simp only [zO] at d0; clear r0) | (refine wpList_store_row rfl 24 _ _ rfl _ zO (tC T) rfl rfl (heap_alloc_new _ _) Tryd.infoOp rfl (tC_one T) ?_))
  go_ret
  exact ⟨rfl, below_setRow (hb.alloc hb.size _) hb.size _⟩
theorem push1_name : (told 96).nm = ⟨[80, 85, 83, 72, 49].toArray⟩ := by
  rw [told_push (by decide) (by decide)]
  show nmd sPUSH 1 = _
  rw [nmd, decDigits_small (by decide)]
  rfl
theorem nought_text : (⟨(Lib.decDigits 0).toArray⟩ : ByteArray) = ⟨[48].toArray⟩ := by rw [decDigits_small (by decide)]; rfl
set_option maxHeartbeats 1000000 in
theorem text_one (b off c : Nat) (f : Nat → Nat) (w : World) (h0 : f 0 = 96) (h1 : f 1 = 1) (hc : 2 ≤ c) (hs : Sl w (some ⟨b, off, none⟩) 2 f) :
    Calls Tryd.prog 16 #[.slice (some ⟨b, off, none⟩) 2 c] w fun e w' => e = .returned (.string ⟨#[48, 32, 80, 85, 83, 72, 49, 32, 48, 120, 48, 49, 10]⟩) ∧ Below w.heap.size w w' := by
  obtain ⟨b', off', e0, hbl, hcc⟩ := hs.cells (by omega)
  cases e0
  have c0 := hcc 0 (by omega)
  have c1 := hcc 1 (by omega)
  rw [Nat.add_zero, h0] at c0
  rw [h1] at c1
  have C0 := Lib.hid fun (w' : World) (hb : Below w.heap.size w w') => (hb.cell (p := ⟨b, off, none⟩) hbl).trans c0
  have KB := Lib.hid fun (w' : World) (hb : Below w.heap.size w w') => behind_walk (some ⟨b, off, none⟩) 2 c 0 2 f w' (by omega) (by omega) (hs.below hb) (by rw [h0]; decide)
  have hsub : Sl w (some ⟨b, off + 1, none⟩) 1 (fun _ => 1) := ⟨fun _ _ => by decide, fun _ => ⟨b, off + 1, rfl, hbl, fun i hi => by
    have h : i = 0 := by omega
    rw [h]
    exact c1⟩⟩
  have KX := Lib.hid fun (w' : World) (hb : Below w.heap.size w w') => text_walk (some ⟨b, off + 1, none⟩) 1 (c - 1) (fun _ => 1) w' (by omega) (Lib.hid (hsub.below hb))
  have KW := Lib.hid fun (w' : World) => written_core 96 (told 96) w' (Lib.hid fun w => info_walk 96 w (by decide))
  rw [push1_name] at KW
  have KI := Lib.hid fun (w' : World) => itoa_walk 0 w' (by decide)
  rw [nought_text] at KI
  have KG := Lib.hid fun (w' : World) => belonging_walk 96 w' (by decide)
  rw [show nb 96 = 1 from rfl] at KG
  rw [show str (48 :: 120 :: tx (fun _ => 1) 1) = (⟨[48, 120, 48, 49].toArray⟩ : ByteArray) from rfl] at KX
  clear c0 c1 hcc hsub hs h0 h1
  go_enter Tryd.func16, Tryd.ntmps16
  have U0 := Lib.hid (fresh_builder w)
  have B0 := Lib.hid (show Below w.heap.size w (w.alloc (.cells #[.pointer none, .slice none 0 0] 49)) from (Below.refl _ _).alloc (Nat.le_refl _) _)
  go_wp2_with fail
  go_loopw [4] (fun i wr => ∃ k : Nat, k ≤ 2 ∧ i = .int .i64 (k : Int) ∧ Hid ((k = 0 ∧ Lib.IsBuilder 49 5 w.heap.size w.heap.size [] wr) ∨ (k = 2 ∧ Held w.heap.size [48, 32, 80, 85, 83, 72, 49, 32, 48, 120, 48, 49, 10] wr)) ∧ Hid (Below w.heap.size w wr)) (fun i _ => 2 - (intOf i).toNat)
  case atStart => exact ⟨0, by omega, rfl, Lib.hid (.inl ⟨rfl, U0.out⟩), B0⟩
  case round =>
    clear U0 B0
    obtain ⟨k, hk, rfl, HU, HB⟩ := hrel
    rcases HU.out with ⟨rfl, hu⟩ | ⟨rfl, hu⟩
    · have U := Lib.hid hu
      have c0 := C0.out wr HB.out
      clear hu HU
      go_wp2_with (first | (go_at_call 17; refine (KB.out _ HB.out).mono ?_; rintro e w1 ⟨rfl, rfl⟩) | (go_at_call 32; refine (KI.out _).mono ?_; rintro e w1 ⟨rfl, rfl⟩))
      refine (write_first w.heap.size [48] _ U.out (by decide) HB.out.size).mono ?_
      rintro e w2 ⟨rfl, hu, hb⟩
      have U2 := Lib.hid hu
      have HB2 := Lib.hid (HB.out.trans hb)
      have c2 := C0.out w2 HB2.out
      clear hu hb c0
      go_wp2_with fail
      refine (write_b w.heap.size [48] 32 _ rfl _ U2.out (by decide) HB2.out.size).mono ?_
      rintro e w3 ⟨rfl, hu, hb⟩
      have U3 := Lib.hid hu
      have HB3 := Lib.hid (HB2.out.trans hb)
      have c3 := C0.out w3 HB3.out
      clear hu hb c2
      go_wp2_with (go_at_call 34; refine (KW.out _).mono ?_; rintro e w4 ⟨rfl, hb⟩; have U4 := Lib.hid (Held.below U3.out hb); have HB4 := Lib.hid (HB3.out.trans (hb.mono HB3.out.size)); clear hb)
      refine (write_str w.heap.size ([48] ++ [32]) [80, 85, 83, 72, 49] _ U4.out (by decide) HB4.out.size).mono ?_
      rintro e w5 ⟨rfl, hu, hb⟩
      have U5 := Lib.hid hu
      have HB5 := Lib.hid (HB4.out.trans hb)
      have c5 := C0.out w5 HB5.out
      clear hu hb c3
      go_wp2_with (go_at_call 26; refine (KG.out _).mono ?_; rintro e wy ⟨rfl, rfl⟩)
      refine (write_b w.heap.size ([48] ++ [32] ++ [80, 85, 83, 72, 49]) 32 _ rfl _ U5.out (by decide) HB5.out.size).mono ?_
      rintro e w6 ⟨rfl, hu, hb⟩
      have U6 := Lib.hid hu
      have HB6 := Lib.hid (HB5.out.trans hb)
      clear hu hb c5
      have hc1 : ¬ c = 1 := by omega
      go_wp2_with (go_at_call 35; refine (KX.out _ HB6.out).mono ?_; rintro e w7 ⟨rfl, hb⟩; have U7 := Lib.hid (Held.below U6.out hb); have HB7 := Lib.hid (HB6.out.trans (hb.mono HB6.out.size)); clear hb)
      refine (write_str w.heap.size ([48] ++ [32] ++ [80, 85, 83, 72, 49] ++ [32]) [48, 120, 48, 49] _ U7.out (by decide) HB7.out.size).mono ?_
      rintro e w8 ⟨rfl, hu, hb⟩
      have U8 := Lib.hid hu
      have HB8 := Lib.hid (HB7.out.trans hb)
      clear hu hb
      go_wp2_with fail
      refine (write_b w.heap.size ([48] ++ [32] ++ [80, 85, 83, 72, 49] ++ [32] ++ [48, 120, 48, 49]) 10 _ rfl _ U8.out (by decide) HB8.out.size).mono ?_
      rintro e w9 ⟨rfl, hu, hb⟩
      have U9 := Lib.hid hu
      have HB9 := Lib.hid (HB8.out.trans hb)
      clear hu hb
      go_wp2_with fail
      exact ⟨⟨2, by omega, rfl, Lib.hid (.inr ⟨rfl, U9.out⟩), HB9⟩, by simp [intOf]⟩
    · have U := Lib.hid hu
      clear hu HU
      go_wp2_with (go_at_call 36; refine (Tryd.Builder_String_any w.heap.size w.heap.size _ _ (Or.inr U.out) HB.out.size).mono ?_; rintro e w3 ⟨rfl, hb⟩; have HB3 := Lib.hid (HB.out.trans hb); clear hb)
      go_ret
      exact ⟨rfl, HB3.out⟩
end Go.Proofs.YtokompkkbnbinaaDoor
/- The chapter's examples. -/
namespace Go.Proofs.YtokompkkbnbinaaDoor
open Go.RowKit SmWord
set_option maxRecDepth 100000
def exA (i : Nat) : Nat := [91, 96, 91, 91].getD i 0
def exB (i : Nat) : Nat := [96, 1].getD i 0
theorem exA_ds : ds exA 4 = [0, 3] := by decide
theorem exA_lt : ∀ i, i < 4 → exA i < 256 := by decide
theorem exB_lt : ∀ i, i < 2 → exB i < 256 := by decide
theorem exA_cell : ∀ i, i < 4 → (#[Value.int .u8 91, .int .u8 96, .int .u8 91, .int .u8 91] : Array Value)[i]? = some (.int .u8 ((exA i : Nat) : Int)) := fun i hi => by
  have : i = 0 ∨ i = 1 ∨ i = 2 ∨ i = 3 := by omega
  rcases this with rfl | rfl | rfl | rfl <;> rfl
theorem exB_cell : ∀ i, i < 2 → (#[Value.int .u8 96, .int .u8 1] : Array Value)[i]? = some (.int .u8 ((exB i : Nat) : Int)) := fun i hi => by
  have : i = 0 ∨ i = 1 := by omega
  rcases this with rfl | rfl <;> rfl
theorem sl_cells {w : World} {b n : Nat} {f : Nat → Nat} {C : Array Value} {t : TypeId} (h : w.heap[b]? = some (.cells C t)) (hf : ∀ i, i < n → f i < 256) (hc : ∀ i, i < n → C[i]? = some (.int .u8 ((f i : Nat) : Int))) : Sl w (some ⟨b, 0, none⟩) n f :=
  ⟨hf, fun _ => ⟨b, 0, rfl, (Array.getElem?_eq_some_iff.1 h).1, fun i hi => by rw [Nat.zero_add]; exact blk_cell h (hc i hi)⟩⟩
set_option maxHeartbeats 1000000 in
theorem fixed_walk (w : World) : Calls Tryd.prog 8 #[] w fun e w' => e = .returned (.bool true) ∧ Below w.heap.size w w' := by
  have KD := Lib.hid (dests_walk (some ⟨w.heap.size, 0, none⟩) 4 4 exA (w.alloc (.cells #[.int .u8 91, .int .u8 96, .int .u8 91, .int .u8 91] 5)) (by decide) (sl_cells (heap_alloc_new _ _) exA_lt exA_cell))
  have KT := Lib.hid fun w1 : World => text_one w1.heap.size 0 2 exB (w1.alloc (.cells #[.int .u8 96, .int .u8 1] 5)) rfl rfl (Nat.le_refl _) (sl_cells (heap_alloc_new _ _) exB_lt exB_cell)
  rw [exA_ds] at KD
  have B0 := Lib.hid (show Below w.heap.size w (w.alloc (.cells #[.int .u8 91, .int .u8 96, .int .u8 91, .int .u8 91] 5)) from (Below.refl _ _).alloc (Nat.le_refl _) _)
  go_enter Tryd.func8, Tryd.ntmps8
  go_wp2_with (go_at_call 9; refine KD.out.mono ?_; rintro e w1 ⟨v, rfl, ho, hb⟩)
  obtain ⟨_, A', c', rfl, hmc, hA', hcells⟩ := own_int ho
  obtain ⟨g, rfl, _, _, hg⟩ := hcells (by decide)
  have d0 : w1.cell? ⟨g, 0, none⟩ = some (.int .i64 0) := hg 0 (by decide)
  have d1 : w1.cell? ⟨g, 1, none⟩ = some (.int .i64 3) := hg 1 (by decide)
  have B1 := Lib.hid (B0.out.trans (hb.mono B0.out.size))
  clear hcells hg hA' ho hb KD
  go_wp2_with (go_at_call 16; refine (KT.out _).mono ?_; rintro e w2 ⟨rfl, hb⟩)
  go_ret
  exact ⟨rfl, (B1.out.alloc B1.out.size _).trans (hb.mono (by have := B1.out.size; simp; omega))⟩
end Go.Proofs.YtokompkkbnbinaaDoor
/- The statement on what is told: its walk. -/
namespace Go.Proofs.YtokompkkbnbinaaDoor
open Go.RowKit SmWord
set_option maxRecDepth 100000
set_option maxHeartbeats 1000000 in
theorem info_law (x : Nat) (T : OpT) (iv : Bool) (w : World) (K1 : Hid (∀ w, Calls Tryd.prog 6 #[.int .u8 (x : Int)] w fun e w' => e = .returned (.tuple #[tv T, .bool iv]) ∧ Below w.heap.size w w'))
    (K2 : Hid (∀ w, Calls Tryd.prog 7 #[.int .u8 (x : Int)] w fun e w' => e = .returned (.tuple #[tv T, .bool iv]) ∧ Below w.heap.size w w')) :
    Calls Tryd.prog 3 #[.int .u8 (x : Int)] w fun e w' => e = .returned (.bool true) ∧ Below w.heap.size w w' := by
  go_enter Tryd.func3, Tryd.ntmps3
  go_wp2_with (first | (go_at_call 6; refine (K1.out _).mono ?_; rintro e w1 ⟨rfl, hb1⟩) | (refine wpList_store_row rfl 24 _ _ rfl _ zO (tC T) rfl rfl (heap_alloc_new _ _) Tryd.infoOp rfl (tC_one T) ?_) | (go_at_call 7; refine (K2.out _).mono ?_; rintro e w2 ⟨rfl, hb2⟩) | (go_at_call 8; refine (fixed_walk _).mono ?_; rintro e w3 ⟨rfl, hb3⟩; have q1 := blk_row (c' := tC T) (heap_alloc_new w1 (.cells zO 24)); have q2 := stay hb2 q1; have q3 : ((w2.alloc (.cells zO 24)).setRow w2.heap.size (tC T)).heap[w1.heap.size]? = some (.cells (tC T) 24) := blk_row_other (blk_alloc q2) (by have := (Array.getElem?_eq_some_iff.1 q2).1; omega); obtain ⟨c0, c1, c2, c3, c4⟩ := op_cells5 (stay hb3 q3); obtain ⟨d0, d1, d2, d3, d4⟩ := op_cells5 (stay hb3 (blk_row (c' := tC T) (heap_alloc_new w2 (.cells zO 24)))); clear q1 q2 q3))
  go_ret
  have hs1 := hb1.size
  have b1 : Below w.heap.size w ((w1.alloc (.cells zO 24)).setRow w1.heap.size (tC T)) := below_setRow (hb1.alloc hs1 _) hs1 _
  have b2 := b1.trans (hb2.mono b1.size)
  have hs2 := b2.size
  have b3 : Below w.heap.size w ((w2.alloc (.cells zO 24)).setRow w2.heap.size (tC T)) := below_setRow (b2.alloc hs2 _) hs2 _
  exact ⟨rfl, b3.trans (hb3.mono b3.size)⟩
theorem infolaw_walk (x : Nat) (w : World) (hx : x < 256) : Calls Tryd.prog 3 #[.int .u8 (x : Int)] w fun e w' => e = .returned (.bool true) ∧ Below w.heap.size w w' :=
  info_law x (told x) (isI x) w (Lib.hid fun w => info_walk x w hx) (Lib.hid fun w => rinfo_walk x w hx)
end Go.Proofs.YtokompkkbnbinaaDoor
