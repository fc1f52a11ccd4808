/- How a quantity is written: the document's Quantity. -/
import Derived.Test.YtlplncfonphkeaaDoorHxH
import Derived.Test.YtlplncfonphkeaaDoorHxE
namespace Go.Proofs.YtlplncfonphkeaaDoor
open Go.RowKit SmWord
set_option maxRecDepth 100000

theorem below_of {w w' : World} (h : Below w.heap.size w w') {b : Nat} {o : Obj} (hb : w.heap[b]? = some o) : w'.heap[b]? = some o := Ext.block ⟨w', h⟩ hb
theorem low_next (a k : Nat) : tx (fun j => dig a (k + 1 - 1 - j)) (k + 1) = ([hx (dig a k / 16)] ++ [hx (dig a k % 16)]) ++ tx (fun j => dig a (k - 1 - j)) k := by
  rw [tx_cons]
  have e : tx (fun i => (fun j => dig a (k + 1 - 1 - j)) (i + 1)) k = tx (fun j => dig a (k - 1 - j)) k := tx_congr fun i _ => by
    show dig a (k + 1 - 1 - (i + 1)) = dig a (k - 1 - i); rw [show k + 1 - 1 - (i + 1) = k - 1 - i by omega]
  rw [e]
  rfl
theorem list_shape {l : List UInt8} (h : l ≠ []) : (∃ x, l = [x]) ∨ ∃ x y t, l = x :: y :: t := by
  match l, h with
  | [x], _ => exact .inl ⟨x, rfl⟩
  | x :: y :: t, _ => exact .inr ⟨x, y, t, rfl⟩
/-- How long a string is. -/
def slen : Value → Nat
  | .string s => s.size
  | _ => 0
theorem str_tail (a : UInt8) (l : List UInt8) : (str (a :: l)).extract 1 (l.length + 1) = str l := by
  apply ByteArray.ext
  apply Array.toList_inj.1
  simp [str]
set_option maxHeartbeats 2000000 in
theorem rquantity_walk (a : Nat) (w : World) :
    Calls Tryd.prog 12 #[wd a] w fun e w' => e = .returned (.string (str (48 :: 120 :: st (wdig a)))) ∧ Below w.heap.size w w' := by
  have hz := wa_size
  go_enter Tryd.func12, Tryd.ntmps12
  go_wp2_with fail
  have bW : Below w.heap.size w (w.alloc (.cells (wa a) 25)) := (Below.refl _ _).alloc (Nat.le_refl _) _
  generalize w.alloc (.cells (wa a) 25) = W at *
  refine (of_ref a _).mono ?_
  rintro e w1 ⟨rfl, b1⟩
  have bW := bW.trans (b1.mono bW.size)
  clear b1
  have f5 : ((w1.alloc (.cells zD 65)).setRow w1.heap.size (da a)).heap[w1.heap.size]? = some (.cells (da a) 65) := blk_row (heap_alloc_new _ _)
  have bW : Below w.heap.size w ((w1.alloc (.cells zD 65)).setRow w1.heap.size (da a)) := below_setRow (bW.alloc bW.size _) bW.size _
  have HS := Lib.hid f5
  have HB := Lib.hid bW
  clear bW f5
  go_wp2_with (first | (refine wpList_alloc_row rfl 65 rfl zD zD_run ?_) | (refine wpList_store_row rfl 65 _ _ rfl _ zD (da a) rfl rfl (heap_alloc_new _ _) (infoArr _) rfl (arr_one _ _ _) ?_))
  generalize (w1.alloc (.cells zD 65)).setRow w1.heap.size (da a) = W2 at *
  generalize w1.heap.size = b at *
  have HW : ∃ W0 : World, W0.heap[b]? = some (.cells (da a) 65) ∧ Below w.heap.size w W0 := ⟨W2, HS.out, HB.out⟩
  clear HW
  go_loopw [4, 5] (fun s i wr => ∃ k : Nat, k ≤ 32 ∧ i = .int .i64 k ∧ s = .string (str (tx (fun j => dig a (k - 1 - j)) k)) ∧ Below w.heap.size w wr ∧ wr.heap[b]? = some (.cells (da a) 65)) (fun _ i _ => 32 - (intOf i).toNat)
  case atStart => exact ⟨0, Nat.zero_le _, rfl, rfl, HB.out, HS.out⟩
  case round =>
    obtain ⟨k, hk, rfl, rfl, hb, hd⟩ := hrel
    have HB := Lib.hid hb
    have HD := Lib.hid hd
    clear hb
    by_cases hlt : k < 32
    · have c1 := blk_cell hd (arr_get .i64 (fun i => ((dig a i : Nat) : Int)) hlt)
      have hf := dig_lt a k
      have HT := Lib.hid (low_next a k)
      have s0 : (str (tx (fun j => dig a (k - 1 - j)) k)).size ≤ 64 := by rw [str_size, tx_length]; omega
      clear hd
      generalize dig a k = x at *
      generalize tx (fun j => dig a (k - 1 - j)) k = t at *
      have d1 := Lib.hid (fun m w => digit_quiet (x / 16) m w (by omega))
      have d2 := Lib.hid (fun m w => digit_quiet (x % 16) m w (by omega))
      have e1 : (x : Int) / 16 = ((x / 16 : Nat) : Int) := by omega
      have e2 : (x : Int) % 16 = ((x % 16 : Nat) : Int) := by omega
      generalize x / 16 = y at *
      generalize x % 16 = z at *
      have s1 : (str [hx y]).size = 1 := rfl
      have s2 : (str [hx z]).size = 1 := rfl
      have s3 : (str [hx y] ++ str [hx z]).size = 2 := by rw [str_append]; rfl
      generalize hy : str [hx y] = Y at *
      generalize hz : str [hx z] = Z at *
      have HY := Lib.hid hy
      have HZ := Lib.hid hz
      clear hy hz
      go_wp2_with fail
      go_quiet ((first | (go_at_call 25; exact d1.out _ _) | (go_at_call 25; exact d2.out _ _)))
      go_wp2_with fail
      refine ⟨⟨k + 1, by omega, by go_num, ?_, HB.out.trans (Joins.below_draws _ _ _), HD.out⟩, by simp [intOf]; omega⟩
      rw [HT.out, ← str_append, ← str_append, HY.out, HZ.out]
    · obtain rfl : k = 32 := by omega
      have HT := Lib.hid (show tx (fun j => dig a (32 - 1 - j)) 32 = wdig a from rfl)
      rw [HT.out]
      clear hd hlt HS HT
      go_wp2_with fail
      have hw0 : (wdig a).length = 64 := tx_length _ _
      have hw1 : wdig a ≠ [] := by intro h; rw [h] at hw0; cases hw0
      go_loop [4] (fun s => ∃ l : List UInt8, l.length ≤ 64 ∧ l ≠ [] ∧ s = .string (str l) ∧ st l = st (wdig a)) (fun s => slen s)
      case atStart => exact ⟨_, Nat.le_of_eq hw0, hw1, rfl, rfl⟩
      case round =>
        obtain ⟨l, hl, hn, rfl, he⟩ := hrel
        clear hw0 hw1
        have HE := Lib.hid he
        clear he
        rcases list_shape hn with ⟨x, rfl⟩ | ⟨x, y, t, rfl⟩
        · have HX := Lib.hid (HE.out.symm.trans (st_one x))
          clear HE hn hl
          have h1 : (str [x]).size = 1 := rfl
          have HS := Lib.hid (str_pre [x])
          generalize str [x] = S at *
          go_wp2_with fail
          go_ret
          exact ⟨by rw [HX.out, ← HS.out]; rfl, HB.out⟩
        · have h1 : (str (x :: y :: t)).size = t.length + 2 := str_size _
          have hl' : t.length ≤ 62 := by simp at hl; omega
          clear hl hn
          have hg : ∀ h : 0 < (str (x :: y :: t)).size, (str (x :: y :: t))[0].toNat = x.toNat := fun _ => rfl
          have HC := Lib.hid (str_tail x (y :: t))
          have HP := Lib.hid (str_pre (x :: y :: t))
          generalize str (x :: y :: t) = S at *
          have p0 : 0 < S.size := by omega
          have h0 := hg p0
          clear hg
          by_cases hx : x.toNat = 48
          · obtain rfl := sign_of (d := 48) hx
            clear hx
            have h0' : S[0].toNat = 48 := h0
            have HN := Lib.hid (show st (y :: t) = st (wdig a) from (st_step _).symm.trans HE.out)
            clear h0 HE HP
            go_wp2_with fail
            have hc : S.extract 1 (t.length + 2) = str (y :: t) := HC.out
            rw [hc]
            refine ⟨⟨y :: t, by simp; omega, by simp, rfl, HN.out⟩, ?_⟩
            simp only [slen, str_size, h1, List.length_cons]
            omega
          · have HN := Lib.hid (show st (x :: y :: t) = x :: y :: t from st_other (fun h => hx (by rw [h]; rfl)))
            clear HC
            have hx' : ((x.toNat : Int) == 48) = false := by simpa using (fun h : (x.toNat : Int) = 48 => hx (by omega))
            clear hx
            generalize x.toNat = c at *
            go_wp2_with fail
            go_ret
            exact ⟨by rw [← HE.out, HN.out, ← HP.out]; rfl, HB.out⟩
end Go.Proofs.YtlplncfonphkeaaDoor
