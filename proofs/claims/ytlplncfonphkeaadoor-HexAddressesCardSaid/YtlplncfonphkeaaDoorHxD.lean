/- Which bytes a text says: package hex's Bytes. -/
import Derived.Test.YtlplncfonphkeaaDoorHxC
namespace Go.Proofs.YtlplncfonphkeaaDoor
open Go.RowKit SmWord
set_option maxRecDepth 100000

theorem hbytes_walk0 (s : ByteArray) (w : World) (H : Hid (∀ w, Calls Tryd.prog 22 #[.string s] w fun e w' => e = .returned (.tuple #[.string ⟨#[]⟩, .bool false]) ∧ w = w')) :
    Calls Tryd.prog 9 #[.string s] w fun e w' => e = .returned (.tuple #[.slice none 0 0, .int .i64 2]) ∧ w = w' := by
  go_enter Tryd.func9, Tryd.ntmps9
  go_wp2_with (go_at_call 22; refine (H.out _).mono ?_; rintro e w' ⟨rfl, rfl⟩)
  go_ret2
  exact ⟨rfl, rfl⟩
theorem hbytes_walk1 (S s : ByteArray) (w : World) (hn : s.size ≤ 140737488355328) (hm : s.size % 2 = 1)
    (H : Hid (∀ w, Calls Tryd.prog 22 #[.string S] w fun e w' => e = .returned (.tuple #[.string s, .bool true]) ∧ w = w')) :
    Calls Tryd.prog 9 #[.string S] w fun e w' => e = .returned (.tuple #[.slice none 0 0, .int .i64 2]) ∧ w = w' := by
  have e1 : (s.size : Int) % 2 = 1 := by omega
  clear hm
  go_enter Tryd.func9, Tryd.ntmps9
  go_wp2_with (go_at_call 22; refine (H.out _).mono ?_; rintro e w' ⟨rfl, rfl⟩)
  go_ret2
  exact ⟨rfl, rfl⟩
theorem hbytes_walk2 (S s : ByteArray) (w : World) (n : Nat) (f : Nat → Nat) (hn : s.size ≤ 140737488355328) (hm : s.size % 2 = 0)
    (H : Hid (∀ w, Calls Tryd.prog 22 #[.string S] w fun e w' => e = .returned (.tuple #[.string s, .bool true]) ∧ w = w'))
    (HP : Hid (∀ w : World, Calls Tryd.prog 23 #[.string s] w fun e w' => e = .returned (.slice (some ⟨w.heap.size, 0, none⟩) n n) ∧ Below w.heap.size w w' ∧ Sl w' (some ⟨w.heap.size, 0, none⟩) n f)) :
    Calls Tryd.prog 9 #[.string S] w fun e w' => e = .returned (.tuple #[.slice (some ⟨w.heap.size, 0, none⟩) n n, .int .i64 0]) ∧ Below w.heap.size w w' ∧ Sl w' (some ⟨w.heap.size, 0, none⟩) n f := by
  have e1 : (s.size : Int) % 2 = 0 := by omega
  clear hm
  go_enter Tryd.func9, Tryd.ntmps9
  go_wp2_with (first | (go_at_call 22; refine (H.out _).mono ?_; rintro e w' ⟨rfl, rfl⟩) | (go_at_call 23; refine (HP.out _).mono ?_; rintro e w' ⟨rfl, hb, hs⟩; have HB := Lib.hid hb; have HS := Lib.hid hs; clear hb hs))
  go_ret2
  exact ⟨rfl, HB.out, HS.out⟩

/-- 0x and pairs of digits. -/
def form (l d : List UInt8) : Prop := l = 48 :: 120 :: d ∧ okD d ∧ d.length % 2 = 0
theorem pre_of {l : List UInt8} (h : Lib.hasPrefix l [48, 120] = true) : ∃ d, l = 48 :: 120 :: d := by
  match l, h with
  | [], h => cases h
  | [a], h => simp [Lib.hasPrefix, List.isPrefixOf] at h
  | a :: b :: d, h =>
    simp [Lib.hasPrefix, List.isPrefixOf] at h
    exact ⟨d, by rw [← h.1, ← h.2]⟩
theorem hbytes_ok (d : List UInt8) (w : World) (hn : d.length ≤ 140737488355328) (h : okD d) (h2 : d.length % 2 = 0) :
    Calls Tryd.prog 9 #[.string (str (48 :: 120 :: d))] w fun e w' => e = .returned (.tuple #[.slice (some ⟨w.heap.size, 0, none⟩) (d.length / 2) (d.length / 2), .int .i64 0]) ∧ Below w.heap.size w w' ∧ Sl w' (some ⟨w.heap.size, 0, none⟩) (d.length / 2) (pv d) :=
  hbytes_walk2 _ (str d) w _ _ (by rw [str_size]; exact hn) (by rw [str_size]; exact h2) (Lib.hid fun w => digits_ok d w (by omega) h) (Lib.hid fun w => pairs_any d _ w hn rfl h)
theorem hbytes_no (l : List UInt8) (w : World) (hn : l.length ≤ 140737488355328) (h : ∀ d, ¬ form l d) :
    Calls Tryd.prog 9 #[.string (str l)] w fun e w' => e = .returned (.tuple #[.slice none 0 0, .int .i64 2]) ∧ w = w' := by
  by_cases hp : Lib.hasPrefix l [48, 120] = true
  · obtain ⟨d, rfl⟩ := pre_of hp
    have hl : d.length ≤ 140737488355328 := by simp at hn; omega
    by_cases h1 : okD d
    · have h2 : d.length % 2 = 1 := by
        rcases Nat.mod_two_eq_zero_or_one d.length with e | e
        · exact absurd ⟨rfl, h1, e⟩ (h d)
        · exact e
      exact hbytes_walk1 _ (str d) w (by rw [str_size]; exact hl) (by rw [str_size]; exact h2) (Lib.hid fun w => digits_ok d w (by omega) h1)
    · exact hbytes_walk0 _ w (Lib.hid fun w => digits_bad d w (by omega) h1)
  · exact hbytes_walk0 _ w (Lib.hid fun w => digits_no l w (by simpa using hp))
end Go.Proofs.YtlplncfonphkeaaDoor
