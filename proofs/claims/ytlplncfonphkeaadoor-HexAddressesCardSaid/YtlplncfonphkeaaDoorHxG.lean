/- How bytes are written: the document's Text. -/
import Derived.Test.YtlplncfonphkeaaDoorHxF
import Derived.Deep.QuietTactic
import Derived.Lib.SmallJoins
namespace Go.Proofs.YtlplncfonphkeaaDoor
open Go.RowKit SmWord
set_option maxRecDepth 100000

theorem str_append (a b : List UInt8) : str a ++ str b = str (a ++ b) := by
  apply ByteArray.ext
  simp [str]
theorem digit_quiet (n m : Nat) (w : World) (hn : n < 16) :
    Calls Tryd.prog 25 #[.int .i64 (n : Int)] (w.drewN m) fun e w' => e = .returned (.string (str [hx n])) ∧ ∃ q, w' = w.drewN q :=
  (digit_ref n _ hn).mono fun _ _ ⟨h1, h2⟩ => ⟨h1, m, h2.symm⟩
set_option maxHeartbeats 1000000 in
theorem rtext_walk (A : Option Addr) (n c : Nat) (f : Nat → Nat) (w : World) (hn : n ≤ 1000000) (hs : Hid (Sl w A n f)) :
    Calls Tryd.prog 11 #[.slice A n c] w fun e w' => e = .returned (.string (str (48 :: 120 :: tx f n))) ∧ Below w.heap.size w w' := by
  go_enter Tryd.func11, Tryd.ntmps11
  go_wp2_with fail
  go_loopw [3, 7] (fun s i wr => ∃ k : Nat, k ≤ n ∧ i = .int .i64 k ∧ s = .string (str (48 :: 120 :: tx f k)) ∧ Below w.heap.size w wr) (fun _ i _ => n - (intOf i).toNat)
  case atStart => exact ⟨0, Nat.zero_le _, rfl, rfl, Below.refl _ _⟩
  case round =>
    obtain ⟨k, hk, rfl, rfl, hb⟩ := hrel
    have HB := Lib.hid hb
    clear hb
    by_cases hlt : k < n
    · obtain ⟨b, off, rfl, hbl, hc⟩ := (hs.out.below HB.out).cells (by omega)
      have c1 := hc k hlt
      have hf := hs.out.small k hlt
      clear hc
      have HT := Lib.hid (show 48 :: 120 :: tx f (k + 1) = 48 :: 120 :: tx f k ++ ([hx (f k / 16)] ++ [hx (f k % 16)]) by simp [tx])
      have s0 : (str (48 :: 120 :: tx f k)).size ≤ 3000000 := by rw [str_size]; simp [tx_length]; omega
      generalize f k = x at *
      generalize 48 :: 120 :: tx f k = t at *
      have d1 := Lib.hid (fun m w => digit_quiet (x / 16) m w (by omega))
      have d2 := Lib.hid (fun m w => digit_quiet (x % 16) m w (by omega))
      have e1 : (x : Int) / 16 = ((x / 16 : Nat) : Int) := by omega
      have e2 : (x : Int) % 16 = ((x % 16 : Nat) : Int) := by omega
      generalize x / 16 = y at *
      generalize x % 16 = z at *
      have s1 : (str [hx y]).size = 1 := rfl
      have s2 : (str [hx z]).size = 1 := rfl
      have s3 : (str [hx y] ++ str [hx z]).size = 2 := by rw [str_append]; rfl
      generalize hy : str [hx y] = Y at *
      generalize hz : str [hx z] = Z at *
      have HY := Lib.hid hy
      have HZ := Lib.hid hz
      clear hy hz
      go_wp2_with fail
      go_quiet ((first | (go_at_call 25; exact d1.out _ _) | (go_at_call 25; exact d2.out _ _)))
      go_wp2_with fail
      refine ⟨⟨k + 1, by omega, by go_num, ?_, HB.out.trans (Joins.below_draws _ _ _)⟩, by simp [intOf]; omega⟩
      rw [HT.out, ← str_append, ← str_append, HY.out, HZ.out]
    · obtain rfl : k = n := by omega
      go_wp2_with fail
      go_ret
      exact ⟨rfl, HB.out⟩
end Go.Proofs.YtlplncfonphkeaaDoor
