/- The bytes of digits, two a byte (package hex's pairs). -/
import Derived.Test.YtlplncfonphkeaaDoorHxB
import Derived.Test.YtlplncfonphkeaaDoorFromW
import Derived.Deep.OwnRows
namespace Go.Proofs.YtlplncfonphkeaaDoor
open Go.RowKit SmWord
set_option maxRecDepth 100000

theorem zeros_arr (n : Nat) : Array.replicate n (Value.int .u8 0) = arr .u8 n (fun _ => 0) := by
  apply Array.ext
  · simp [arr_size]
  · intro i h1 h2
    simp [arr]
theorem or_digits : ∀ a, a < 16 → ∀ b, b < 16 → a * 16 ||| b = a * 16 + b := by decide
theorem or_nib (a b : Nat) (ha : a < 16) (hb : b < 16) : bits .or .u8 ((a : Int) * 16) (b : Int) = ((a * 16 + b : Nat) : Int) := by
  rw [show (a : Int) * 16 = ((a * 16 : Nat) : Int) by simp, u8_or_nat _ _ (by omega) (by omega), or_digits a ha b hb]
/-- What the bytes are, as far as they are read. -/
def pr (d : List UInt8) (k : Nat) (j : Nat) : Int := if j < k then ((pv d j : Nat) : Int) else 0
theorem pr_start (d : List UInt8) (n : Nat) : arr .u8 n (pr d 0) = Array.replicate n (Value.int .u8 0) := by
  rw [zeros_arr]; exact arr_congr fun i _ => by simp [pr]
theorem pr_step (d : List UInt8) {n k : Nat} (hk : k < n) : (arr .u8 n (pr d k)).setIfInBounds k (.int .u8 ((pv d k : Nat) : Int)) = arr .u8 n (pr d (k + 1)) := by
  rw [arr_set .u8 _ _ hk]
  exact arr_congr fun j _ => by
    unfold pr
    by_cases h : j = k
    · subst h; simp
    · rw [if_neg h]
      by_cases h1 : j < k
      · rw [if_pos h1, if_pos (by omega)]
      · rw [if_neg h1, if_neg (by omega)]
theorem Tryd.info8 : (Tryd.prog.info? 5).map (fun i => (i.zero, i.size, i.bytes)) = some (some (.int .u8 0), 1, 1) := by kernel_rfl
theorem Tryd.make_bytes (n : Nat) (hn : n ≤ 140737488355328) (w : World) :
    (Instr.makeSlice 22 (.int .i64 (n : Int)) (.int .i64 (n : Int))).run Tryd.prog w = .ok (.slice (some ⟨w.heap.size, 0, none⟩) n n) (w.alloc (.cells (arr .u8 n (fun _ => 0)) 5)) := by
  have e : madeCells #[Value.int .u8 0] n = arr .u8 n (fun _ => 0) := by
    apply Array.ext
    · simp [arr_size, size_madeCells]
    · intro i h1 h2
      simp [arr, madeCells, Nat.mod_one]
  rw [← e]
  exact _root_.Go.run_make_row' 22 5 (.int .u8 0) 1 Tryd.underlying22 Tryd.info8 rfl .i64 .i64 n (by omega) (by omega) w
set_option maxHeartbeats 1000000 in
theorem pairs_walk (s : ByteArray) (d : List UInt8) (n : Nat) (w : World) (hm : s.size ≤ 140737488355328) (hn : s.size / 2 = n) (hs : Hid (Str s d)) (hd : Hid (okD d)) :
    Calls Tryd.prog 23 #[.string s] w fun e w' => e = .returned (.slice (some ⟨w.heap.size, 0, none⟩) n n) ∧ Below w.heap.size w w' ∧ w'.heap[w.heap.size]? = some (.cells (arr .u8 n (pr d n)) 5) := by
  go_enter Tryd.func23, Tryd.ntmps23
  have hmk := Tryd.make_bytes n (by omega)
  have hq : (s.size : Int) / 2 = (n : Int) := by omega
  go_wp2_with fail
  have f0 : (w.alloc (.cells (arr .u8 n (fun _ => 0)) 5)).heap[w.heap.size]? = some (.cells (arr .u8 n (pr d 0)) 5) := by
    rw [pr_start, zeros_arr]; exact heap_alloc_new _ _
  have bW : Below w.heap.size w (w.alloc (.cells (arr .u8 n (fun _ => 0)) 5)) := (Below.refl _ _).alloc (Nat.le_refl _) _
  generalize w.alloc (.cells (arr .u8 n (fun _ => 0)) 5) = W at *
  clear hmk
  go_loopw [15] (fun i wr => ∃ k : Nat, k ≤ n ∧ i = .int .i64 k ∧ Below w.heap.size w wr ∧ wr.heap[w.heap.size]? = some (.cells (arr .u8 n (pr d k)) 5)) (fun i _ => n - (intOf i).toNat)
  case atStart => exact ⟨0, Nat.zero_le _, rfl, bW, f0⟩
  case round =>
    obtain ⟨k, hk, rfl, hb, hr⟩ := hrel
    clear f0 bW
    by_cases hlt : k < n
    · have i1 : 2 * k < s.size := by omega
      have i2 : 2 * k + 1 < s.size := by omega
      have h1 := okD_get hd.out (i := 2 * k) (by have := hs.out.size; omega)
      have h2 := okD_get hd.out (i := 2 * k + 1) (by have := hs.out.size; omega)
      have g1 := hs.out.get (2 * k) i1
      have g2 := hs.out.get (2 * k + 1) i2
      have HP := Lib.hid (show pv d k = vl (d.getD (2 * k) 0) * 16 + vl (d.getD (2 * k + 1) 0) from rfl)
      have c1 := UInt8.toNat_lt (d.getD (2 * k) 0)
      have c2 := UInt8.toNat_lt (d.getD (2 * k + 1) 0)
      have e1 : 2 * (k : Int) = ((2 * k : Nat) : Int) := by omega
      have e2 : ((2 * k : Nat) : Int) + 1 = ((2 * k + 1 : Nat) : Int) := by omega
      unfold vl at h1 h2 HP
      generalize (d.getD (2 * k) 0).toNat = x at *
      generalize (d.getD (2 * k + 1) 0).toNat = y at *
      have c3 := blk_cell hr (arr_get .u8 (pr d k) hlt)
      have c4 := blk_frozen (j := k) hr
      have HR := Lib.hid hr
      have HB := Lib.hid hb
      have HO := Lib.hid (or_nib (vc x) (vc y) h1 h2)
      clear hr hb
      generalize 2 * k + 1 = q at *
      generalize 2 * k = p at *
      have K1 := fun w => value_yes x w c1 h1
      have K2 := fun w => value_yes y w c2 h2
      go_wp2_with (first | (go_at_call 39; with_reducible refine (K1 _).mono ?_; rintro e w' ⟨rfl, rfl⟩) | (go_at_call 39; with_reducible refine (K2 _).mono ?_; rintro e w' ⟨rfl, rfl⟩))
      rw [HO.out, ← HP.out]
      refine ⟨⟨k + 1, by omega, by go_num, HB.out.setCell (Nat.le_refl _) _, ?_⟩, by simp [intOf]; omega⟩
      rw [← pr_step d hlt]
      exact blk_set HR.out _
    · obtain rfl : k = n := by omega
      have HB := Lib.hid hb
      have HR := Lib.hid hr
      clear hb hr
      go_wp2_with fail
      go_ret
      exact ⟨rfl, HB.out, HR.out⟩
theorem pr_sl {w : World} {d : List UInt8} {b n : Nat} (h : w.heap[b]? = some (.cells (arr .u8 n (pr d n)) 5)) (hd : okD d) (hn : 2 * n ≤ d.length) : Sl w (some ⟨b, 0, none⟩) n (pv d) :=
  ⟨fun i hi => pv_lt hd (by omega), fun _ => ⟨b, 0, rfl, (Array.getElem?_eq_some_iff.1 h).1, fun i hi => by
    rw [Nat.zero_add, blk_cell h (arr_get .u8 (pr d n) hi), pr, if_pos hi]⟩⟩
theorem pairs_any (d : List UInt8) (n : Nat) (w : World) (hm : d.length ≤ 140737488355328) (hn : d.length / 2 = n) (hd : okD d) :
    Calls Tryd.prog 23 #[.string (str d)] w fun e w' => e = .returned (.slice (some ⟨w.heap.size, 0, none⟩) n n) ∧ Below w.heap.size w w' ∧ Sl w' (some ⟨w.heap.size, 0, none⟩) n (pv d) := by
  refine (pairs_walk (str d) d n w (by rw [str_size]; exact hm) (by rw [str_size]; exact hn) (Lib.hid (Str.of d)) (Lib.hid hd)).mono ?_
  rintro e w' ⟨rfl, hb, hr⟩
  exact ⟨rfl, hb, pr_sl hr hd (by omega)⟩
end Go.Proofs.YtlplncfonphkeaaDoor
