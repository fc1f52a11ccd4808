/- What the function digit of package wide does: a part of a quotient, and what is left; all older memory is as it was. -/
import Derived.Test.YtlobchkbkdjccaaGuess
import Derived.Test.YtlobchkbkdjccaaRefW
import Derived.Test.YtlobchkbkdjccaaLast
import Derived.Deep.CutBlock
import Derived.Deep.DeepCutAuto
namespace Go.Proofs.Ytlobchkbkdjccaa
open Go.RowKit SmWord
set_option maxRecDepth 100000

theorem blk_new {w : World} {n : Nat} (o : Obj) (h : n = w.heap.size) : (w.alloc o).heap[n]? = some o := by subst h; exact heap_alloc_new _ _
theorem store_new0 (w : World) (m : Nat) : (storeCells ⟨w.heap.size, 0, none⟩ (wa m).toList 0).run Try.prog (w.alloc (.cells (wa 0) 24)) = .ok () (w.alloc (.cells (wa m) 24)) := store_new w m
theorem cmp_lt (m n : Nat) (h : m % M < n % M) (w : World) : Calls Try.prog 38 #[wd m, wd n] w fun e w' => e = .returned (.int .i64 (-1)) ∧ Below w.heap.size w w' := by
  have := compare_wd m n w
  unfold cmpN at this
  rw [if_pos h] at this
  exact this
theorem cmp_ge (m n : Nat) (h : ¬ m % M < n % M) : ∃ z : Int, 0 ≤ z ∧ ∀ w : World, Calls Try.prog 38 #[wd m, wd n] w fun e w' => e = .returned (.int .i64 z) ∧ Below w.heap.size w w' := by
  refine ⟨cmpN (m % M) (n % M), ?_, fun w => compare_wd m n w⟩
  unfold cmpN
  rw [if_neg h]
  split <;> omega
theorem word_cells {w : World} {b m : Nat} {t : TypeId} (hb : w.heap[b]? = some (.cells (wa m) t)) :
    w.cell? ⟨b, 0, none⟩ = some (.int .u64 ((l0 m : Nat) : Int)) ∧ w.cell? ⟨b, 1, none⟩ = some (.int .u64 ((l1 m : Nat) : Int)) ∧
    w.cell? ⟨b, 2, none⟩ = some (.int .u64 ((l2 m : Nat) : Int)) ∧ w.cell? ⟨b, 3, none⟩ = some (.int .u64 ((l3 m : Nat) : Int)) :=
  ⟨blk_cell hb rfl, blk_cell hb rfl, blk_cell hb rfl, blk_cell hb rfl⟩
theorem z4_wa : #[Value.int .u64 0, .int .u64 0, .int .u64 0, .int .u64 0] = wa 0 := rfl

set_option maxHeartbeats 2000000 in
theorem digit_walk (R m L P D g ov u0 u1 q r d0 : Nat) (x : Int) (c : Int) (w : World)
   (Hg : Hid (∀ w : World, Calls Try.prog 58 #[wd R, wd m] w fun e w' => e = .returned (.int .u64 (g : Int)) ∧ Below w.heap.size w w'))
   (Ha : Hid (∀ w : World, Calls Try.prog 59 #[wd 0, wd m, .int .u64 (g : Int)] w fun e w' => e = .returned (.tuple #[wd P, .int .u64 (ov : Int)]) ∧ Below w.heap.size w w'))
   (fl : Hid (((((wa 0).setIfInBounds 0 (Value.int .u64 x)).setIfInBounds 1 (.int .u64 ((l0 R : Nat) : Int))).setIfInBounds 2 (.int .u64 ((l1 R : Nat) : Int))).setIfInBounds 3 (.int .u64 ((l2 R : Nat) : Int)) = wa L))
   (Hc : Hid (∀ w : World, Calls Try.prog 38 #[wd L, wd P] w fun e w' => e = .returned (.int .i64 c) ∧ Below w.heap.size w w'))
   (Hs : Hid (∀ w : World, Calls Try.prog 37 #[wd L, wd P] w fun e w' => e = .returned (wd D) ∧ Below w.heap.size w w'))
   (hu0 : Hid (IntKind.u64.wrap (((l3 R : Nat) : Int) - (ov : Int)) = (u0 : Int)))
   (hu1 : Hid (c < 0 → IntKind.u64.wrap ((u0 : Int) - 1) = (u1 : Int))) (hu1' : Hid (0 ≤ c → u0 = u1))
   (hg0 : Hid (g = q + d0)) (hgB : g < B) (hd0 : d0 ≤ 2) (hov : Hid (Over r m d0 u1 D)) (hrm : Hid (r < m)) (hrM : Hid (r < M)) (hmM : Hid (m < M)) :
    Calls Try.prog 55 #[wd R, .int .u64 x, wd m] w fun e w' => e = .returned (.tuple #[.int .u64 (q : Int), wd r]) ∧ Below w.heap.size w w' := by
  have hz := z4_wa
  have hs := store_new0
  have hsz := wa_size
  go_enter Try.func55, Try.ntmps55
  go_upto_region 1 with fail
  have f3 : (((w.alloc (.cells (wa R) 24)).alloc (.cells (wa m) 24)).alloc (.cells (wa 0) 24)).heap[w.heap.size]? = some (.cells (wa R) 24) := blk_alloc (blk_alloc (blk_new _ rfl))
  have f5 : (((w.alloc (.cells (wa R) 24)).alloc (.cells (wa m) 24)).alloc (.cells (wa 0) 24)).heap[w.heap.size + 1]? = some (.cells (wa m) 24) := blk_alloc (blk_new _ (by simp))
  have f7 : (((w.alloc (.cells (wa R) 24)).alloc (.cells (wa m) 24)).alloc (.cells (wa 0) 24)).heap[w.heap.size + 1 + 1]? = some (.cells (wa 0) 24) := blk_new _ (by simp)
  have bW : Below w.heap.size w (((w.alloc (.cells (wa R) 24)).alloc (.cells (wa m) 24)).alloc (.cells (wa 0) 24)) := ((((Below.refl _ _).alloc (Nat.le_refl _) _).alloc (by simp <;> omega) _).alloc (by simp <;> omega) _)
  have sW : w.heap.size + 3 ≤ (((w.alloc (.cells (wa R) 24)).alloc (.cells (wa m) 24)).alloc (.cells (wa 0) 24)).heap.size := by simp
  generalize (((w.alloc (.cells (wa R) 24)).alloc (.cells (wa m) 24)).alloc (.cells (wa 0) 24)) = W at *
  go_wp2_with (refine wpList_load_row rfl 24 _ rfl _ rfl 24 _ (0, 0) _ (by assumption) Try.underlying24 rfl Try.infoWa ?_)
  refine (Hg.out _).mono ?_
  rintro e w1 ⟨rfl, b1⟩
  replace f3 := Below.stays b1 f3
  replace f5 := Below.stays b1 f5
  replace f7 := Below.stays b1 f7
  replace bW := bW.trans (b1.mono bW.size)
  replace sW := Nat.le_trans sW b1.size
  clear b1
  go_wp2_with (refine wpList_load_row rfl 24 _ rfl _ rfl 24 _ (0, 0) _ (by assumption) Try.underlying24 rfl Try.infoWa ?_)
  refine (Ha.out _).mono ?_
  rintro e w2 ⟨rfl, b1⟩
  replace f3 := Below.stays b1 f3
  replace f5 := Below.stays b1 f5
  replace f7 := Below.stays b1 f7
  replace bW := bW.trans (b1.mono bW.size)
  replace sW := Nat.le_trans sW b1.size
  clear b1
  go_upto_region 3 with fail
  replace f3 := blk_alloc (o' := .cells (wa P) 24) f3
  replace f5 := blk_alloc (o' := .cells (wa P) 24) f5
  replace f7 := blk_alloc (o' := .cells (wa P) 24) f7
  have f9 : (w2.alloc (.cells (wa P) 24)).heap[w2.heap.size]? = some (.cells (wa P) 24) := heap_alloc_new _ _
  replace bW : Below w.heap.size w (w2.alloc (.cells (wa P) 24)) := bW.alloc (by omega) _
  have sb9 : w2.heap.size + 1 ≤ (w2.alloc (.cells (wa P) 24)).heap.size := by simp
  generalize (w2.alloc (.cells (wa P) 24)) = w3 at *
  generalize w2.heap.size = b9 at *
  have lb9 := sW
  replace sW := Nat.le_trans (Nat.le_succ_of_le sW) sb9
  have c0 := blk_cell (j := 0) f3 (show (wa R)[0]? = some (.int .u64 ((l0 R : Nat) : Int)) from rfl)
  have c1 := blk_cell (j := 1) f3 (show (wa R)[1]? = some (.int .u64 ((l1 R : Nat) : Int)) from rfl)
  have c2 := blk_cell (j := 2) f3 (show (wa R)[2]? = some (.int .u64 ((l2 R : Nat) : Int)) from rfl)
  have fo := fl.out
  go_upto_region 4 with fail
  clear c0 c1 c2 fo hz
  replace f3 := blk_alloc (o' := .cells (wa L) 24) f3
  replace f5 := blk_alloc (o' := .cells (wa L) 24) f5
  replace f7 := blk_alloc (o' := .cells (wa L) 24) f7
  replace f9 := blk_alloc (o' := .cells (wa L) 24) f9
  have f11 : (w3.alloc (.cells (wa L) 24)).heap[w3.heap.size]? = some (.cells (wa L) 24) := heap_alloc_new _ _
  replace bW : Below w.heap.size w (w3.alloc (.cells (wa L) 24)) := bW.alloc (by omega) _
  have sb11 : w3.heap.size + 1 ≤ (w3.alloc (.cells (wa L) 24)).heap.size := by simp
  generalize (w3.alloc (.cells (wa L) 24)) = w4 at *
  generalize w3.heap.size = b11 at *
  have lb11 := sW
  replace sW := Nat.le_trans (Nat.le_succ_of_le sW) sb11
  have c3 := blk_cell (j := 3) f3 (show (wa R)[3]? = some (.int .u64 ((l3 R : Nat) : Int)) from rfl)
  have hu := hu0.out
  go_upto_region 5 with fail
  clear c3 hu
  go_wp2_with (refine wpList_load_row rfl 24 _ rfl _ rfl 24 _ (0, 0) _ (by assumption) Try.underlying24 rfl Try.infoWa ?_)
  refine (Hc.out _).mono ?_
  rintro e w5 ⟨rfl, b1⟩
  replace f3 := Below.stays b1 f3
  replace f5 := Below.stays b1 f5
  replace f7 := Below.stays b1 f7
  replace f9 := Below.stays b1 f9
  replace f11 := Below.stays b1 f11
  replace bW := bW.trans (b1.mono bW.size)
  replace sW := Nat.le_trans sW b1.size
  clear b1
  go_upto_if 38 with fail
  go_cut [12] (fun s12 wx => s12 = .int .u64 (u1 : Int) ∧ w5 = wx)
  case first =>
    by_cases hc : c < 0
    · have hu := hu1.out hc
      go_wp2_with fail
      go_meet
      exact ⟨rfl, rfl⟩
    · obtain rfl := hu1'.out (by omega)
      go_wp2_with fail
      go_meet
      exact ⟨rfl, rfl⟩
  case rest =>
    obtain ⟨rfl, rfl⟩ := hcut
    clear hs hsz
    go_wp2_with (refine wpList_load_row rfl 24 _ rfl _ rfl 24 _ (0, 0) _ (by assumption) Try.underlying24 rfl Try.infoWa ?_)
    refine (Hs.out _).mono ?_
    rintro e w6 ⟨rfl, b1⟩
    replace f3 := Below.stays b1 f3
    replace f5 := Below.stays b1 f5
    replace f7 := Below.stays b1 f7
    replace f9 := Below.stays b1 f9
    replace f11 := Below.stays b1 f11
    replace bW := bW.trans (b1.mono bW.size)
    replace sW := Nat.le_trans sW b1.size
    clear b1
    go_upto_block 0 with (refine wpList_store_row rfl 24 _ _ rfl _ _ (wa D) rfl rfl f11 Try.infoWa rfl wa_one ?_)
    simp only [Act.put]
    replace f3 := blk_row_other (b := b11) (c' := wa D) f3 (by omega)
    replace f5 := blk_row_other (b := b11) (c' := wa D) f5 (by omega)
    replace f7 := blk_row_other (b := b11) (c' := wa D) f7 (by omega)
    replace f9 := blk_row_other (b := b11) (c' := wa D) f9 (by omega)
    replace f11 := blk_row (c' := wa D) f11
    replace bW : Below w.heap.size w (w6.setRow (b11) (wa D)) := below_setRow bW (by omega) _
    replace sW := Nat.le_trans sW (Nat.le_of_eq (setRow_size w6 (b11) (wa D)).symm)
    generalize (w6.setRow (b11) (wa D)) = w7 at *
    go_wp2_with fail
    go_loopw [8, 12] (fun s8 s12 wr => ∃ d u l : Nat, s8 = .int .u64 ((q + d : Nat) : Int) ∧ s12 = .int .u64 (u : Int) ∧ d ≤ 2 ∧ q + d ≤ g ∧ u < B ∧ Hid (Over r m d u l) ∧ wr.heap[b11]? = some (.cells (wa l) 24) ∧ wr.heap[w.heap.size + 1]? = some (.cells (wa m) 24) ∧ wr.heap[w.heap.size + 1 + 1]? = some (.cells (wa 0) 24) ∧ Below w.heap.size w wr) (fun s8 _ _ => (intOf s8).toNat)
    case atStart => exact ⟨d0, u1, D, by rw [hg0.out], rfl, hd0, by rw [hg0.out]; exact Nat.le_refl _, hov.out.2.1, hov, f11, f5, f7, bW⟩
    case round =>
      clear f11 f5 f7 bW f3 f9 sW hov
      obtain ⟨d, u, l, rfl, rfl, hd, hqd, hub, ho, f11, f5, f7, bW⟩ := hrel
      simp only [B] at hub hgB
      by_cases hdz : d = 0
      · obtain ⟨hu0, hl⟩ := over_zero hrM.out (hdz ▸ ho.out)
        subst hu0 hdz
        have HL := Lib.hid hl
        clear hl
        obtain rfl : l = r := HL.out
        go_wp2_with fail
        refine region_last (aQ := ?aQ) 3 (by kernel_rfl) (by kernel_rfl) (fun w1 => ?hq) (fun w' hb => ?hh)
        case hq =>
          simp only [List.take_succ_cons, List.take_zero]
          repeat (first | (go_big_quiet_want; refine quiet_load_row 24 _ rfl _ (wa l) rfl (fun w2 hw2 => by obtain ⟨g, rfl⟩ := hw2; exact g.block (w1.block f11)) Try.underlying24 Try.infoWa ?_; simp only [Act.put, List.setIfInBounds_toArray, List.set_cons_succ, List.set_cons_zero]; go_big_quiet_on) | go_big_quiet_step (fail))
          refine wpQuiet_nil ?_
          rfl
        case hh =>
          replace f7 := Ext.block ⟨w', hb⟩ f7
          replace bW := bW.trans (hb.mono bW.size)
          simp only [List.drop_succ_cons, List.drop_zero]
          refine wpList_store_row rfl 24 _ _ rfl _ _ (wa l) rfl rfl f7 Try.infoWa rfl wa_one ?_
          refine wpList_nil ?_
          go_wp2_with fail
          have c0 := word_cells (blk_row (c' := wa l) f7)
          refine bodyPost_ret (v := .tuple #[.int .u64 (q : Int), wd l]) (by simp [results, Try.results55, go_sem, c0, fold_wa]) rfl ⟨rfl, below_setRow bW (by omega) _⟩
      · obtain ⟨d', rfl⟩ : ∃ d', d = d' + 1 := ⟨d - 1, by omega⟩
        have hup := over_pos hrm.out hmM.out hd hdz ho.out
        have hst := over_step hmM.out ho.out
        have cu : (((u : Nat) : Int) != 0) = true := by rw [bne_iff_ne]; omega
        have HO := Lib.hid hst
        clear hst hdz ho hup
        go_wp2_with (refine wpList_load_row rfl 24 _ rfl _ rfl 24 _ (0, 0) _ (by assumption) Try.underlying24 rfl Try.infoWa ?_)
        refine (add_wd l m _).mono ?_
        rintro e w8 ⟨rfl, b1⟩
        replace f11 := Below.stays b1 f11
        replace f5 := Below.stays b1 f5
        replace f7 := Below.stays b1 f7
        replace bW := bW.trans (b1.mono bW.size)
        clear b1
        go_upto_region 11 with (refine wpList_store_row rfl 24 _ _ rfl _ _ (wa (l + m)) rfl rfl f11 Try.infoWa rfl wa_one ?_)
        simp only [Act.put]
        replace f5 := blk_row_other (b := b11) (c' := wa (l + m)) f5 (by omega)
        replace f7 := blk_row_other (b := b11) (c' := wa (l + m)) f7 (by omega)
        replace f11 := blk_row (c' := wa (l + m)) f11
        replace bW : Below w.heap.size w (w8.setRow b11 (wa (l + m))) := below_setRow bW (by omega) _
        generalize w8.setRow b11 (wa (l + m)) = w9 at *
        go_wp2_with (refine wpList_load_row rfl 24 _ rfl _ rfl 24 _ (0, 0) _ (by assumption) Try.underlying24 rfl Try.infoWa ?_)
        by_cases hcar : (l + m) % M < m % M
        · refine (cmp_lt (l + m) m hcar _).mono ?_
          rintro e w8 ⟨rfl, b1⟩
          go_wp2_with fail
          refine ⟨⟨d', (u + 1) % B, (l + m) % M, congrArg (Value.int .u64) (by omega), congrArg (Value.int .u64) (by rw [IntKind.wrap_u64]; simp only [B]; omega), by omega, by omega, by simp only [B]; omega, ?_, ?_, Below.stays b1 f5, Below.stays b1 f7, bW.trans (b1.mono bW.size)⟩, by simp only [intOf]; omega⟩
          · have := HO.out
            rw [if_pos (by rw [Nat.mod_eq_of_lt hmM.out] at hcar; exact hcar)] at this
            exact Lib.hid this
          · rw [wa_congr (show (l + m) % M % M = (l + m) % M from Nat.mod_mod _ _)]
            exact Below.stays b1 f11
        · obtain ⟨z, hz0, Hz⟩ := cmp_ge (l + m) m hcar
          have HZ := Lib.hid Hz
          clear Hz
          refine (HZ.out _).mono ?_
          rintro e w8 ⟨rfl, b1⟩
          go_wp2_with fail
          refine ⟨⟨d', u, (l + m) % M, congrArg (Value.int .u64) (by omega), congrArg (Value.int .u64) (rfl), by omega, by omega, by simp only [B]; omega, ?_, ?_, Below.stays b1 f5, Below.stays b1 f7, bW.trans (b1.mono bW.size)⟩, by simp only [intOf]; omega⟩
          · have := HO.out
            rw [if_neg (by rw [Nat.mod_eq_of_lt hmM.out] at hcar; exact hcar), Nat.add_zero, Nat.mod_eq_of_lt (by simp only [B]; exact hub)] at this
            exact Lib.hid this
          · rw [wa_congr (show (l + m) % M % M = (l + m) % M from Nat.mod_mod _ _)]
            exact Below.stays b1 f11
end Go.Proofs.Ytlobchkbkdjccaa
