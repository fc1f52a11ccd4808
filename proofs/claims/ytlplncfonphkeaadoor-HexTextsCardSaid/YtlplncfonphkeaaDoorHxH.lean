/- How a quantity is written: package hex's Quantity. -/
import Derived.Test.YtlplncfonphkeaaDoorHxG
import Derived.Test.YtlplncfonphkeaaDoorBytesW
namespace Go.Proofs.YtlplncfonphkeaaDoor
open Go.RowKit SmWord
set_option maxRecDepth 100000

/-- The 64 digits of a word. -/
def wdig (a : Nat) : List UInt8 := tx (fun i => dig a (31 - i)) 32
theorem trim_wd (l : List UInt8) (w : World) : Calls Tryd.prog 21 #[.string (str l), .string ⟨#[48]⟩] w fun e w' => e = .returned (.string (str (l.dropWhile (· == 48)))) ∧ w = w' := by
  refine (Tryd.strings_TrimLeft_one (str l) 48 (by decide) w).mono ?_
  rintro e w' ⟨rfl, rfl⟩
  exact ⟨rfl, rfl⟩
theorem ya_sl {w : World} {a b : Nat} (h : w.heap[b]? = some (.cells (ya a) 56)) : Sl w (some ⟨b, 0, none⟩) 32 (fun i => dig a (31 - i)) :=
  ⟨fun i _ => dig_lt a _, fun _ => ⟨b, 0, rfl, (Array.getElem?_eq_some_iff.1 h).1, fun i hi => by
    rw [Nat.zero_add]; exact blk_cell h (arr_get .u8 _ hi)⟩⟩
theorem str_cut {a b : UInt8} {l : List UInt8} {n : Nat} (h : l.length + 2 = n) : (str (a :: b :: l)).extract 2 n = str l := by
  apply ByteArray.ext
  apply Array.toList_inj.1
  simp [str, ← h]
set_option maxHeartbeats 1000000 in
theorem quantity_walk (a : Nat) (V R : ByteArray) (w : World) (KT : ∀ w, Calls Tryd.prog 21 #[.string (str (wdig a)), .string ⟨#[48]⟩] w fun e w' => e = .returned (.string V) ∧ w = w') (hV : V.size ≤ 64)
    (H1 : Hid (V.toList.isEmpty = true → ⟨#[48, 120]⟩ ++ ⟨#[48]⟩ = R)) (H2 : Hid (V.toList.isEmpty = false → ⟨#[48, 120]⟩ ++ V = R)) :
    Calls Tryd.prog 8 #[wd a] w fun e w' => e = .returned (.string R) ∧ Below w.heap.size w w' := by
  have hz := wa_size
  go_enter Tryd.func8, Tryd.ntmps8
  go_wp2_with fail
  have bW : Below w.heap.size w (w.alloc (.cells (wa a) 25)) := (Below.refl _ _).alloc (Nat.le_refl _) _
  generalize w.alloc (.cells (wa a) 25) = W at *
  refine (bytes_wd a _).mono ?_
  rintro e w1 ⟨rfl, b1⟩
  have bW := bW.trans (b1.mono bW.size)
  clear b1
  have f5 : ((w1.alloc (.cells zY 56)).setRow w1.heap.size (ya a)).heap[w1.heap.size]? = some (.cells (ya a) 56) := blk_row (heap_alloc_new _ _)
  have bW : Below w.heap.size w ((w1.alloc (.cells zY 56)).setRow w1.heap.size (ya a)) := below_setRow (bW.alloc bW.size _) bW.size _
  have HS := Lib.hid (ya_sl f5)
  have HB := Lib.hid bW
  clear bW f5
  go_wp2_with (first | (refine wpList_alloc_row rfl 56 rfl zY zY_run ?_) | (refine wpList_store_row rfl 56 _ _ rfl _ zY (ya a) rfl rfl (heap_alloc_new _ _) (infoArrY _) rfl (arr_one _ _ _) ?_))
  refine (text_walk _ 32 32 _ _ (by decide) HS).mono ?_
  rintro e w2 ⟨rfl, b2⟩
  have HB2 := Lib.hid (HB.out.trans (b2.mono HB.out.size))
  clear b2 HB HS
  have t1 : (str (48 :: 120 :: tx (fun i => dig a (31 - i)) 32)).size = 66 := by rw [str_size]; simp [tx_length]
  have t2 : (str (48 :: 120 :: tx (fun i => dig a (31 - i)) 32)).extract 2 66 = str (wdig a) := str_cut (by simp [tx_length])
  generalize str (48 :: 120 :: tx (fun i => dig a (31 - i)) 32) = T at *
  generalize str (wdig a) = U at *
  go_wp2_with (go_at_call 21; refine (KT _).mono ?_; rintro e w' ⟨rfl, rfl⟩)
  · have h : V.toList.isEmpty = true := by assumption
    go_ret
    exact ⟨by rw [← H1.out h]; rfl, HB2.out⟩
  · have h : V.toList.isEmpty = false := by assumption
    go_ret
    exact ⟨by rw [← H2.out h]; rfl, HB2.out⟩
theorem str_isEmpty (l : List UInt8) : (str l).toList.isEmpty = l.isEmpty := by
  simp [str]
theorem str_pre (l : List UInt8) : (⟨#[48, 120]⟩ : ByteArray) ++ str l = str (48 :: 120 :: l) := by
  apply ByteArray.ext
  simp [str]
theorem quantity_wd (a : Nat) (w : World) :
    Calls Tryd.prog 8 #[wd a] w fun e w' => e = .returned (.string (str (48 :: 120 :: st (wdig a)))) ∧ Below w.heap.size w w' := by
  refine quantity_walk a (str ((wdig a).dropWhile (· == 48))) _ w (fun w => trim_wd (wdig a) w) ?_ (Lib.hid fun h => ?_) (Lib.hid fun h => ?_)
  · rw [str_size]
    have := List.Sublist.length_le (List.dropWhile_sublist (l := wdig a) (· == 48))
    have h2 : (wdig a).length = 64 := tx_length _ _
    omega
  · rw [str_isEmpty] at h
    have h' : (wdig a).dropWhile (· == 48) = [] := by simpa using h
    unfold st; rw [if_pos h']; rfl
  · rw [str_isEmpty] at h
    have h' : ¬ (wdig a).dropWhile (· == 48) = [] := by simpa using h
    unfold st; rw [if_neg h']
    exact str_pre _
end Go.Proofs.YtlplncfonphkeaaDoor
