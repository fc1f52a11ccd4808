/- The document's Owners: its walk. -/
import Derived.Test.YtokompkkbnbinaaDoorG7
import Derived.Test.YtokompkkbnbinaaDoorG6
import Derived.Deep.Onto
namespace Go.Proofs.YtokompkkbnbinaaDoor
open Go.RowKit SmWord
set_option maxRecDepth 100000
theorem told_da (x : Nat) (hx : x < 256) : (told x).da = nb x := by
  unfold nb
  by_cases h : 96 ≤ x ∧ x ≤ 127
  · rw [if_pos h, told_push h.1 (by omega)]
  · rw [if_neg h]
    by_cases a2 : 128 ≤ x ∧ x < 144
    · rw [told_dup a2.1 a2.2]
    by_cases a3 : 144 ≤ x ∧ x < 160
    · rw [told_swap a3.1 a3.2]
    by_cases a4 : 160 ≤ x ∧ x < 165
    · rw [told_log a4.1 a4.2]
    rw [told_row (by omega), opRow]
    split <;> rfl
set_option maxHeartbeats 1000000 in
theorem owners_walk (A : Option Addr) (n c : Nat) (f : Nat → Nat) (w : World) (hn : n ≤ 1000000) (hs : Sl w A n f) :
    Calls Tryd.prog 18 #[.slice A n c] w fun e w' => ∃ v, e = .returned v ∧ w'.ownsRow w.heap.size 3 1 v n (il (ol f n)) ∧ Below w.heap.size w w' := by
  have HS := Lib.hid hs
  clear hs
  go_enter Tryd.func18, Tryd.ntmps18
  go_wp2_with fail
  have o0 := own_emptyI w (Nat.le_refl w.heap.size)
  have bW : Below w.heap.size w (w.alloc (.cells #[] 3)) := (Below.refl _ _).alloc (Nat.le_refl _) _
  go_loopw [3, 4, 5, 12] (fun v l a i wr => ∃ k p q : Nat, k ≤ n ∧ i = .int .i64 (k : Int) ∧ l = .int .i64 (p : Int) ∧ a = .int .i64 (q : Int) ∧ Hid (lv f k = p) ∧ Hid (ow f k = q) ∧ p ≤ 32 ∧ Hid (wr.ownsRow w.heap.size 3 1 v k (il (ol f k))) ∧ Hid (Below w.heap.size w wr)) (fun _ _ _ i _ => n - (intOf i).toNat)
  case atStart => exact ⟨0, 0, 0, Nat.zero_le _, rfl, rfl, rfl, Lib.hid rfl, Lib.hid rfl, by omega, Lib.hid o0, Lib.hid bW⟩
  case round =>
    clear o0 bW
    obtain ⟨k, p, q, hk, rfl, rfl, rfl, HP, HQ, hp, HO, HB⟩ := hrel
    obtain ⟨_, A', c', rfl, hmc, hA', hcells⟩ := own_int HO.out
    clear hA' hcells
    have hbS := HB.out.size
    by_cases hlt : k < n
    · have hsw := HS.out.below HB.out
      obtain ⟨b, off, rfl, hbl, hc⟩ := hsw.cells (by omega)
      have c1 := hc k hlt
      have hf := hsw.small k hlt
      by_cases h0 : p = 0
      · have hl0 : lv f k = 0 := by rw [HP.out, h0]
        have hda := told_da (f k) hf
        have HL := Lib.hid (show lv f (k + 1) = nb (f k) by rw [lv, if_pos hl0])
        have HW := Lib.hid (show ow f (k + 1) = k by rw [ow, if_pos hl0])
        have HD := Lib.hid (show ol f (k + 1) = ol f k ++ [k] by rw [ol_succ, if_pos hl0])
        have hnb := nb_le (f k)
        have KI := Lib.hid fun w => rinfo_walk (f k) w hf
        have HO1 := Lib.hid (HO.out.alloc (.cells #[Value.int .i64 (k : Int)] 3))
        clear hsw hc hl0
        subst h0
        obtain ⟨x, hx⟩ : ∃ x, f k = x := ⟨_, rfl⟩
        have C2 := Lib.hid fun (w4 : World) (hb : Below w.heap.size w w4) => show w4.cell? ⟨b, off + k, none⟩ = some (.int .u8 (x : Int)) by
          obtain ⟨b', off', e, _, hc⟩ := (HS.out.below hb).cells (by omega)
          cases e
          rw [← hx]
          exact hc k hlt
        rw [hx] at KI HL hda hnb hf c1
        clear hx
        generalize nb x = y at *
        generalize told x = T at *
        generalize isI x = iv at *
        have HT := Lib.hid hda
        clear hda
        go_wp2_with (at_builtin; refine append_i rfl _ _ rfl w.heap.size _ k _ rfl HO1.out ⟨_, 0, none⟩ (k : Int) rfl ?c1 ?c2 ?c3 ?_)
        case c1 => exact own_cellI _ _
        case c2 => omega
        case c3 => simp; omega
        intro v' w4 hown' hgrow
        have hown2 : w4.ownsRow w.heap.size 3 1 v' (k + 1) (il (ol f (k + 1))) := by
          rw [HD.out, il_app]
          exact hown'
        have hr := fun g hg => (HO.out.lt g hg).1
        have bX : Below w.heap.size w w4 := (HB.out.alloc (o := .cells #[.int .i64 (k : Int)] 3) (by omega)).grown hgrow (by simp; omega) (fun g hg => by have := hr g hg; omega)
        have c2 := C2.out w4 bX
        have HO2 := Lib.hid hown2
        have HB2 := Lib.hid bX
        clear hown' hgrow hr bX hown2 HO HB HO1 C2
        go_wp2_with (first | (go_at_call 7; refine (KI.out _).mono ?_; rintro e w5 ⟨rfl, hb5⟩; have HO3 := Lib.hid (own_below HO2.out hb5); have HB3 := Lib.hid (HB2.out.trans (hb5.mono HB2.out.size)); have r0 := blk_row (c' := tC T) (heap_alloc_new w5 (.cells zO 24)); have d4 := blk_cell r0 (show (tC T)[4]? = some (.int .i64 (y : Int)) by rw [← HT.out]; rfl); simp only [zO] at d4; clear hb5 r0) | (refine wpList_store_row rfl 24 _ _ rfl _ zO (tC T) rfl rfl (heap_alloc_new _ _) Tryd.infoOp rfl (tC_one T) ?_))
        have hs3 := HB3.out.size
        have b6 : Below w5.heap.size w5 ((w5.alloc (.cells zO 24)).setRow w5.heap.size (tC T)) := below_setRow ((Below.refl _ _).alloc (Nat.le_refl _) _) (Nat.le_refl _) _
        exact ⟨⟨k + 1, y, k, by omega, by go_num, rfl, rfl, HL, HW, hnb, Lib.hid (own_below HO3.out b6), Lib.hid (HB3.out.trans (b6.mono hs3))⟩, by simp only [intOf]; omega⟩
      · have hl0 : lv f k ≠ 0 := by rw [HP.out]; exact h0
        have HL := Lib.hid (show lv f (k + 1) = p - 1 by rw [lv, if_neg hl0, HP.out])
        have HW := Lib.hid (show ow f (k + 1) = q by rw [ow, if_neg hl0, HQ.out])
        have HD := Lib.hid (show ol f (k + 1) = ol f k ++ [q] by rw [ol_succ, if_neg hl0, HQ.out])
        have HO1 := Lib.hid (HO.out.alloc (.cells #[Value.int .i64 (q : Int)] 3))
        clear hsw hc hl0 c1 hf
        go_wp2_with (at_builtin; refine append_i rfl _ _ rfl w.heap.size _ k _ rfl HO1.out ⟨_, 0, none⟩ (q : Int) rfl ?c1 ?c2 ?c3 ?_)
        case c1 => exact own_cellI _ _
        case c2 => omega
        case c3 => simp; omega
        intro v' w4 hown' hgrow
        have hown2 : w4.ownsRow w.heap.size 3 1 v' (k + 1) (il (ol f (k + 1))) := by
          rw [HD.out, il_app]
          exact hown'
        have hr := fun g hg => (HO.out.lt g hg).1
        have bX : Below w.heap.size w w4 := (HB.out.alloc (o := .cells #[.int .i64 (q : Int)] 3) (by omega)).grown hgrow (by simp; omega) (fun g hg => by have := hr g hg; omega)
        have HO2 := Lib.hid hown2
        have HB2 := Lib.hid bX
        clear hown' hgrow hr bX hown2 HO HB HO1
        go_wp2_with fail
        exact ⟨⟨k + 1, p - 1, q, by omega, by go_num, congrArg (Value.int .i64) (show ((p : Int) - 1) = ((p - 1 : Nat) : Int) by omega), rfl, HL, HW, by omega, HO2, HB2⟩, by simp only [intOf]; omega⟩
    · obtain rfl : k = n := by omega
      go_wp2_with fail
      go_ret
      exact ⟨_, rfl, HO.out, HB.out⟩
end Go.Proofs.YtokompkkbnbinaaDoor
/- The document's Dests: its walk. -/
namespace Go.Proofs.YtokompkkbnbinaaDoor
open Go.RowKit SmWord
set_option maxRecDepth 100000
set_option maxHeartbeats 1000000 in
theorem rdests_walk (A : Option Addr) (n c : Nat) (f : Nat → Nat) (w : World) (hn : n ≤ 1000000) (hs : Sl w A n f) :
    Calls Tryd.prog 10 #[.slice A n c] w fun e w' => ∃ v, e = .returned v ∧ w'.ownsRow w.heap.size 3 1 v (ds f n).length (il (ds f n)) ∧ Below w.heap.size w w' := by
  have HS := Lib.hid hs
  clear hs
  have KO := Lib.hid fun w' (hb : Below w.heap.size w w') => owners_walk A n c f w' hn (HS.out.below hb)
  go_enter Tryd.func10, Tryd.ntmps10
  go_wp2_with (go_at_call 18; refine (KO.out _ (Below.refl _ _)).mono ?_; rintro e w1 ⟨vo, rfl, ho, hb1⟩)
  clear KO
  obtain ⟨hol, Ao, co, rfl, hoc, hoA, hocell⟩ := own_int ho
  have HB1 := Lib.hid hb1
  have hs1 := hb1.size
  have o0 := own_emptyI w1 (base := w.heap.size) hs1
  have bW : Below w.heap.size w (w1.alloc (.cells #[] 3)) := hb1.alloc hs1 _
  have bW1 : Below w1.heap.size w1 (w1.alloc (.cells #[] 3)) := (Below.refl _ _).alloc (Nat.le_refl _) _
  go_loopw [4, 11] (fun v i wr => ∃ k m : Nat, k ≤ n ∧ i = .int .i64 (k : Int) ∧ Hid ((ds f k).length = m) ∧ m ≤ k ∧ Hid (wr.ownsRow w1.heap.size 3 1 v m (il (ds f k))) ∧ Hid (Below w.heap.size w wr) ∧ Hid (Below w1.heap.size w1 wr)) (fun _ i _ => n - (intOf i).toNat)
  case atStart => exact ⟨0, 0, Nat.zero_le _, rfl, Lib.hid rfl, Nat.le_refl _, Lib.hid (own_emptyI w1 (Nat.le_refl _)), Lib.hid bW, Lib.hid bW1⟩
  case round =>
    clear o0 bW bW1 hb1
    obtain ⟨k, m, hk, rfl, HM, hm, HO, HB, HW⟩ := hrel
    obtain ⟨_, A', c', rfl, hmc, hA', hcells⟩ := own_int HO.out
    clear hA' hcells
    have hs2 := HW.out.size
    by_cases hlt : k < n
    · obtain ⟨b, off, rfl, hbl, hc⟩ := (HS.out.below HB.out).cells (by omega)
      obtain ⟨bo, rfl, hbo1, hbo2, hco⟩ := hocell (by omega)
      have c1 := hc k hlt
      have c2 := (HW.out.cell (p := ⟨bo, k, none⟩) hbo2).trans (hco k hlt)
      have howl := ol_le (f := f) hlt
      have hown := ol_own (f := f) hlt
      have hf := (HS.out.small k hlt)
      have hD : ds f (k + 1) = if lv f k = 0 ∧ f k = 91 then ds f k ++ [k] else ds f k := by
        split
        · rename_i h; exact ds_yes h.1 h.2
        · rename_i h; exact ds_no h
      have HO1 := Lib.hid (HO.out.alloc (.cells #[Value.int .i64 (k : Int)] 3))
      by_cases hy : lv f k = 0 ∧ f k = 91
      · rw [hown.2 hy.1] at c2
        rw [hy.2] at c1
        rw [if_pos hy] at hD
        have HD := Lib.hid hD
        clear hc hco hown hocell hy hf howl hD
        go_wp2_with (at_builtin; refine append_i rfl _ _ rfl w1.heap.size _ m _ rfl HO1.out ⟨_, 0, none⟩ (k : Int) rfl ?c1 ?c2 ?c3 ?_)
        case c1 => exact own_cellI _ _
        case c2 => omega
        case c3 => simp; omega
        intro v' w4 hown' hgrow
        have hown2 : w4.ownsRow w1.heap.size 3 1 v' (m + 1) (il (ds f (k + 1))) := by
          rw [HD.out, il_app]
          exact hown'
        have hr := fun g hg => (HO.out.lt g hg).1
        have bX1 : Below w1.heap.size w1 w4 := (HW.out.alloc (o := .cells #[.int .i64 (k : Int)] 3) (by omega)).grown hgrow (by simp; omega) (fun g hg => by have := hr g hg; omega)
        have bX : Below w.heap.size w w4 := HB1.out.trans (bX1.mono hs1)
        have hm2 : Hid ((ds f (k + 1)).length = m + 1) := Lib.hid (by rw [HD.out, List.length_append, HM.out]; rfl)
        have HO2 := Lib.hid hown2
        have HB2 := Lib.hid bX
        have HW2 := Lib.hid bX1
        clear hown' hgrow hr bX bX1 hown2 HO HB HO1 HW
        go_wp2_with fail
        exact ⟨⟨k + 1, m + 1, by omega, by go_num, hm2, by omega, HO2, HB2, HW2⟩, by simp only [intOf]; omega⟩
      · rw [if_neg hy] at hD
        have HD := Lib.hid hD
        have HM2 : Hid ((ds f (k + 1)).length = m) := Lib.hid (by rw [HD.out]; exact HM.out)
        have HO2 : Hid (wr.ownsRow w1.heap.size 3 1 (.slice A' m c') m (il (ds f (k + 1)))) := Lib.hid (by rw [HD.out]; exact HO.out)
        clear hD HD hc hco hocell
        by_cases hl : lv f k = 0
        · rw [hown.2 hl] at c2
          have hne : (((f k : Nat) : Int) == 91) = false := by
            have : f k ≠ 91 := fun h => hy ⟨hl, h⟩
            simp; omega
          clear hown hy hl howl
          generalize f k = x at *
          go_wp2_with fail
          exact ⟨⟨k + 1, m, by omega, by go_num, HM2, by omega, HO2, HB, HW⟩, by simp only [intOf]; omega⟩
        · have hne : (ol f n).getD k 0 ≠ k := fun h => hl (hown.1 h)
          clear hown hy hl
          generalize (ol f n).getD k 0 = y at *
          have hne2 : (((y : Nat) : Int) == (k : Int)) = false := by simp; omega
          generalize f k = x at *
          go_wp2_with fail
          exact ⟨⟨k + 1, m, by omega, by go_num, HM2, by omega, HO2, HB, HW⟩, by simp only [intOf]; omega⟩
    · obtain rfl : k = n := by omega
      go_wp2_with fail
      go_ret
      exact ⟨_, rfl, by rw [HM.out]; exact HO.out.mono hs1, HB.out⟩
end Go.Proofs.YtokompkkbnbinaaDoor
