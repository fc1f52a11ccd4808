/- The statements HexTexts and HexReads, at every input: they return true, and leave all older memory as it was. -/
import Derived.Test.YtlplncfonphkeaaDoorHxR
namespace Go.Proofs.YtlplncfonphkeaaDoor
open Go.RowKit SmWord
set_option maxRecDepth 100000

theorem Sl.congr {w : World} {A : Option Addr} {n : Nat} {f g : Nat → Nat} (h : Sl w A n f) (hg : ∀ i, i < n → g i = f i) : Sl w A n g :=
  ⟨fun i hi => by rw [hg i hi]; exact h.small i hi, fun hn => by
    obtain ⟨b, off, e, hl, hc⟩ := h.cells hn
    exact ⟨b, off, e, hl, fun i hi => by rw [hg i hi]; exact hc i hi⟩⟩
theorem nm_wdig (a : Nat) : nm (wdig a) = a % M := by
  have h : (wdig a).length = 2 * 32 := tx_length _ _
  rw [nm_pairs h]
  have e : val (fun i => pv (wdig a) (32 - 1 - i)) 32 = val (dig a) 32 := val_congr fun i hi => by
    show pv (wdig a) (32 - 1 - i) = dig a i
    have h2 : pv (wdig a) (32 - 1 - i) = dig a (31 - (32 - 1 - i)) := pv_tx (f := fun i => dig a (31 - i)) (by omega) (dig_lt _ _)
    rw [h2]
    rw [show 31 - (32 - 1 - i) = i by omega]
  rw [e, val_dig, ← M_256]
theorem wdig_form (a : Nat) : wform (48 :: 120 :: st (wdig a)) (st (wdig a)) :=
  ⟨rfl, st_ok (okD_tx fun _ _ => dig_lt _ _), st_nil _, fun _ h => st_head _ h⟩
theorem word_back (a : Nat) (w : World) : Calls Tryd.prog 10 #[.string (str (48 :: 120 :: st (wdig a)))] w fun e w' => e = .returned (.tuple #[wd a, .int .i64 0]) ∧ Below w.heap.size w w' := by
  have hl : (wdig a).length = 64 := tx_length _ _
  have h := hword_ok _ _ w (wdig_form a) (by have := st_length (wdig a) (by intro h; rw [h] at hl; cases hl); omega)
  have e : wd (nm (st (wdig a))) = wd a := by unfold wd; rw [nm_st, nm_wdig, wa_congr (Nat.mod_mod a M)]
  rwa [e] at h
theorem bytes_back (f : Nat → Nat) (n : Nat) (hn : n ≤ 1000000) (hf : ∀ i, i < n → f i < 256) (w : World) : Calls Tryd.prog 9 #[.string (str (48 :: 120 :: tx f n))] w (BytesOf n f 0 w) := by
  have hl := tx_length f n
  refine (hbytes_ok (tx f n) w (by omega) (okD_tx hf) (by omega)).mono ?_
  rintro e w' ⟨rfl, hb, hs⟩
  rw [show (tx f n).length / 2 = n by omega] at hs ⊢
  exact ⟨_, _, rfl, hs.congr fun i hi => (pv_tx hi (hf i hi)).symm, hb⟩
theorem texts_full (A : Option Addr) (n c a : Nat) (f : Nat → Nat) (w : World) (hm : n ≤ maxLen) (hs : Sl w A n f) :
    Calls Tryd.prog 3 #[.slice A n c, wd a] w fun e w' => e = .returned (.bool true) ∧ Below w.heap.size w w' := by
  by_cases h : 3000 < n
  · exact texts_big A n c a w h hm
  · exact texts_walk A n c a f (str (48 :: 120 :: tx f n)) (str (48 :: 120 :: st (wdig a))) w (by omega) (Lib.hid hs)
      (Lib.hid fun w hs => text_walk A n c f w (by omega) (Lib.hid hs)) (Lib.hid fun w => quantity_wd a w) (Lib.hid fun w => bytes_back f n (by omega) hs.small w)
      (Lib.hid fun w => word_back a w) (Lib.hid fun w hs => rtext_walk A n c f w (by omega) (Lib.hid hs)) (Lib.hid fun w => rquantity_walk a w)

theorem reads_big (s : ByteArray) (w : World) (hn : 3000 < s.size) (hm : s.size ≤ maxLen) :
    Calls Tryd.prog 4 #[.string s] w fun e w' => e = .returned (.bool true) ∧ Below w.heap.size w w' := by
  have hm' : s.size ≤ 9223372036854775807 := hm
  go_enter Tryd.func4, Tryd.ntmps4
  go_wp2_with fail
  refine (fixed_hex _).mono ?_
  rintro e w1 ⟨rfl, b1⟩
  go_wp2_with fail
  go_ret
  exact ⟨rfl, b1⟩
/-- What both readings of a quantity answer. -/
theorem words_same (l : List UInt8) (hl : l.length ≤ 3000) : ∃ (v : Nat) (e2 : Int),
    (∀ w : World, Calls Tryd.prog 10 #[.string (str l)] w fun e w' => e = .returned (.tuple #[wd v, .int .i64 e2]) ∧ Below w.heap.size w w') ∧
    (∀ w : World, Calls Tryd.prog 14 #[.string (str l)] w fun e w' => e = .returned (.tuple #[wd v, .int .i64 e2]) ∧ Below w.heap.size w w') := by
  by_cases h : ∃ d, wform l d
  · obtain ⟨d, hd⟩ := h
    have hld : d.length ≤ 3000 := by have := congrArg List.length hd.1; simp at this; omega
    by_cases h64 : 64 < d.length
    · exact ⟨0, 4, fun w => hword_long l d w (by omega) hd h64, fun w => rword_long l d w (by omega) hd h64⟩
    · exact ⟨nm d, 0, fun w => hword_ok l d w hd (by omega), fun w => rword_ok l d w hd (by omega)⟩
  · have h' : ∀ d, ¬ wform l d := fun d hd => h ⟨d, hd⟩
    exact ⟨0, 2, fun w => hword_no l w (by omega) h', fun w => rword_no l w (by omega) h'⟩
theorem reads_full (l : List UInt8) (w : World) (hm : l.length ≤ maxLen) :
    Calls Tryd.prog 4 #[.string (str l)] w fun e w' => e = .returned (.bool true) ∧ Below w.heap.size w w' := by
  by_cases h : 3000 < l.length
  · exact reads_big (str l) w (by rw [str_size]; exact h) (by rw [str_size]; exact hm)
  · have hs : (str l).size ≤ 3000 := by rw [str_size]; omega
    obtain ⟨v, e2, h3, h4⟩ := words_same l (by omega)
    by_cases hf : ∃ d, form l d
    · obtain ⟨d, hd⟩ := hf
      have hld : d.length ≤ 3000 := by have := congrArg List.length hd.1; simp at this; omega
      have h1 : ∀ w, Calls Tryd.prog 9 #[.string (str l)] w (BytesOf (d.length / 2) (pv d) 0 w) := fun w => by
        rw [hd.1]
        exact (hbytes_ok d w (by omega) hd.2.1 hd.2.2).mono fun _ _ ⟨a, b, c⟩ => ⟨_, _, a, c, b⟩
      have h2 : ∀ w, Calls Tryd.prog 13 #[.string (str l)] w (BytesOf (d.length / 2) (pv d) 0 w) := fun w => by
        rw [hd.1]
        exact (rbytes_ok d w (by omega) hd.2.1 hd.2.2).mono fun _ _ ⟨⟨A, c, a, b⟩, hb⟩ => ⟨A, c, a, b, hb⟩
      rcases Nat.lt_trichotomy (d.length / 2) 20 with hn | hn | hn
      · exact reads_short (str l) (d.length / 2) v e2 (pv d) w hs hn (Lib.hid h1) (Lib.hid h2) (Lib.hid h3) (Lib.hid h4) (Lib.hid fun w => haddr_short l d w hd hn)
      · exact reads_ok (str l) (d.length / 2) v e2 (pv d) w hs hn (Lib.hid fun i hi => pv_lt hd.2.1 (by omega)) (Lib.hid h1) (Lib.hid h2) (Lib.hid h3) (Lib.hid h4) (Lib.hid fun w => haddr_ok l d w hd hn)
      · exact reads_long (str l) (d.length / 2) v e2 (pv d) w hs hn (by omega) (Lib.hid h1) (Lib.hid h2) (Lib.hid h3) (Lib.hid h4) (Lib.hid fun w => haddr_long l d w (by omega) hd hn)
    · have hf' : ∀ d, ¬ form l d := fun d hd => hf ⟨d, hd⟩
      exact reads_no (str l) 0 v e2 (fun _ => 0) w hs
        (Lib.hid fun w => (hbytes_no l w (by omega) hf').mono fun _ w' ⟨a, b⟩ => ⟨none, 0, a, ⟨fun _ hi => by omega, fun hi => by omega⟩, by subst b; exact Below.refl _ _⟩)
        (Lib.hid fun w => (rbytes_no l w (by omega) hf').mono fun _ _ ⟨⟨A, c, a⟩, hb⟩ => ⟨A, c, a, ⟨fun _ hi => by omega, fun hi => by omega⟩, hb⟩)
        (Lib.hid h3) (Lib.hid h4) (Lib.hid fun w => haddr_no l w (by omega) hf')
end Go.Proofs.YtlplncfonphkeaaDoor
