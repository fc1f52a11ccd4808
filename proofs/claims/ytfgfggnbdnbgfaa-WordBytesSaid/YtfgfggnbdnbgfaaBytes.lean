/- The statement WordBytes: for every input it returns true, and leaves all older memory as it was. -/
import Derived.Test.YtfgfggnbdnbgfaaRing
import Derived.Test.YtfgfggnbdnbgfaaBytesW
import Derived.Test.YtfgfggnbdnbgfaaFromW
import Derived.Test.YtfgfggnbdnbgfaaFrame
import Derived.Carry
import Derived.OpenShut
import Derived.Deep.DeepCutAuto
namespace Go.Proofs.Ytfgfggnbdnbgfaa
open Go.ChangeShapes Go.WideShapes Go.ChangeAt Go.RowKit SmWord
set_option maxRecDepth 100000

theorem Try.guardY : Try.prog.eqGuardType Try.prog.depth 41 = false := by kernel_rfl
theorem Try.cells5 : Try.prog.cellsOf 5 = 1 := by kernel_rfl
theorem equal_ya (m : Nat) (w : World) : (Op.equalIn 10000 41 (.agg (ya m)) (.agg (ya m))).run Try.prog w = .ok true w := by
  obtain ⟨r, hr, hiff⟩ := equal_ints (k := .u8) Try.underlying41 Try.underlying5 Try.cells5 (ya m) (ya m) (arr_size _ _ _) (arr_size _ _ _) (fun i hi => ⟨_, _, arr_get .u8 _ hi, arr_get .u8 _ hi⟩) w
  rw [hr, hiff.2 rfl]
theorem from_whole (a b : Nat) (w : World) (hb : w.heap[b]? = some (.cells (ya a) 41)) :
    Calls Try.prog 30 #[.slice (some ⟨b, 0, none⟩) 32 32] w fun e w' => e = .returned (wd a) ∧ Below w.heap.size w w' := by
  have hs : Sl w (some ⟨b, 0, none⟩) 32 (fun i => dig a (31 - i)) := ⟨fun i _ => dig_lt a _, fun _ => ⟨b, 0, rfl, (Array.getElem?_eq_some_iff.1 hb).1, fun i hi => by
    rw [Nat.zero_add]; exact blk_cell hb (arr_get .u8 _ hi)⟩⟩
  have h := from_wd (some ⟨b, 0, none⟩) 32 32 32 _ w (by decide) (by decide) hs
  have e : val (gd (fun i => dig a (31 - i)) 32) 32 = a % M := by
    rw [M_256, ← val_dig]
    exact val_congr fun i hi => by show dig a (31 - (32 - 1 - i)) = dig a i; rw [show 31 - (32 - 1 - i) = i by omega]
  rw [e] at h
  have e2 : wd (a % M) = wd a := by unfold wd; rw [wa_congr (Nat.mod_mod a M)]
  rw [e2] at h
  exact h

set_option maxHeartbeats 1000000 in
theorem bytes_long (a n c : Nat) (A : Option Addr) (w : World) (hn : 1000 < n) (hm : n ≤ maxLen) :
    Calls Try.prog 8 #[wd a, .slice A n c] w fun e w' => e = .returned (.bool true) ∧ Below w.heap.size w w' := by
  have hz := wa_size
  have hm' : n ≤ 9223372036854775807 := hm
  go_enter Try.func8, Try.ntmps8
  go_wp2_with fail
  refine (fixed_walk _).mono ?_
  rintro e w1 ⟨rfl, b1⟩
  go_wp2_with fail
  go_ret
  have bW : Below w.heap.size w (w.alloc (.cells (wa a) 24)) := (Below.refl _ _).alloc (Nat.le_refl _) _
  exact ⟨rfl, bW.trans (b1.mono bW.size)⟩

set_option maxHeartbeats 4000000 in
theorem bytes_short (a n c X : Nat) (A : Option Addr) (f : Nat → Nat) (w : World) (hn : n ≤ 1000) (hs : Sl w A n f)
    (H1 : Hid (∀ w : World, Sl w A n f → Calls Try.prog 30 #[.slice A n c] w fun e w' => e = .returned (wd X) ∧ Below w.heap.size w w'))
    (H2 : Hid (∀ w : World, Sl w A n f → Calls Try.prog 31 #[.slice A n c] w fun e w' => e = .returned (.agg (da X)) ∧ Below w.heap.size w w')) :
    Calls Try.prog 8 #[wd a, .slice A n c] w fun e w' => e = .returned (.bool true) ∧ Below w.heap.size w w' := by
  have hz := wa_size
  go_enter Try.func8, Try.ntmps8
  go_wp2_with fail
  have f1 : (w.alloc (.cells (wa a) 24)).heap[w.heap.size]? = some (.cells (wa a) 24) := heap_alloc_new _ _
  have bW : Below w.heap.size w (w.alloc (.cells (wa a) 24)) := (Below.refl _ _).alloc (Nat.le_refl _) _
  generalize w.alloc (.cells (wa a) 24) = W at *
  refine (bytes_wd a _).mono ?_
  rintro e w1 ⟨rfl, b1⟩
  have f1 := Below.stays b1 f1
  have bW := bW.trans (b1.mono bW.size)
  clear b1
  have hne1 : w.heap.size ≠ w1.heap.size := by have := (Array.getElem?_eq_some_iff.1 f1).1; omega
  go_upto_region 4 with (first | (refine wpList_alloc_row rfl 41 rfl zY zY_run ?_) | (refine wpList_store_row rfl 41 _ _ rfl _ zY (ya a) rfl rfl (heap_alloc_new _ _) (infoArrY _) rfl (arr_one _ _ _) ?_))
  have f5 : ((w1.alloc (.cells zY 41)).setRow w1.heap.size (ya a)).heap[w1.heap.size]? = some (.cells (ya a) 41) := blk_row (heap_alloc_new _ _)
  have f1 : ((w1.alloc (.cells zY 41)).setRow w1.heap.size (ya a)).heap[w.heap.size]? = some (.cells (wa a) 24) := blk_row_other (blk_alloc f1) hne1
  have bW : Below w.heap.size w ((w1.alloc (.cells zY 41)).setRow w1.heap.size (ya a)) := below_setRow (bW.alloc bW.size _) bW.size _
  clear hne1
  generalize (w1.alloc (.cells zY 41)).setRow w1.heap.size (ya a) = W3 at *
  have fo := fold_wa
  have eg := Try.guardW
  have egY := Try.guardY
  have g1 := fun g : Ext W3 => g.word f1
  have H1 := Lib.hid fun g : Ext W3 => H1.out g.on (hs.below (bW.trans (g.below.mono bW.size)))
  have H2 := Lib.hid fun g : Ext W3 => H2.out g.on (hs.below (bW.trans (g.below.mono bW.size)))
  have H3 := Lib.hid fun g : Ext W3 => from_whole a w1.heap.size g.on (g.block f5)
  have e1 := fun w => equal_ya a w
  have e2 := fun w => equal_yes (m := a) (n := a) rfl w
  have e3 := fun w => equal_yes (m := X) (n := X) rfl w
  try simp only [Act.put, List.setIfInBounds_toArray, List.set_cons_succ, List.set_cons_zero]
  refine region_ext (by kernel_rfl) (by kernel_rfl) ?_
  repeat (first | (go_big_quiet_want; refine quiet_load_row 41 _ rfl w1.heap.size (ya a) rfl (fun w2 hw2 => by obtain ⟨g, rfl⟩ := hw2; exact g.block f5) Try.underlying41 (infoArrY _) ?_; simp only [Act.put, List.setIfInBounds_toArray, List.set_cons_succ, List.set_cons_zero]; go_big_quiet_on) | go_big_quiet_step (first | (go_at_call 12; exact calls_ext (fixed_walk _)) | (go_at_call 11; with_reducible exact calls_ext (of_ref _ _)) | (go_at_call 15; with_reducible exact calls_ext (word_ref _ _)) | (go_at_call 29; with_reducible exact calls_ext (bytes_ref _ _)) | (go_at_call 30; first | with_reducible exact calls_ext (H1.out _) | with_reducible exact calls_ext (H3.out _)) | (go_at_call 31; with_reducible exact calls_ext (H2.out _))))
  refine wpQuiet_nil ?_
  rintro _ ⟨g, rfl⟩
  go_wp2
  go_ret
  exact ⟨rfl, bW.trans (g.below.mono bW.size)⟩

theorem bytes_full (a n c : Nat) (A : Option Addr) (f : Nat → Nat) (w : World) (hm : n ≤ maxLen) (hs : Sl w A n f) :
    Calls Try.prog 8 #[wd a, .slice A n c] w fun e w' => e = .returned (.bool true) ∧ Below w.heap.size w w' := by
  by_cases h : 1000 < n
  · exact bytes_long a n c A w h hm
  · exact bytes_short a n c (val (gd f n) (min n 32)) A f w (by omega) hs (fun w hs => from_wd A n c (min n 32) f w hm (by omega) hs) (fun w hs => from_ref A n c (min n 32) f w hm rfl hs)

theorem Try.laidOutY : laidOutB Try.prog = true := by kernel_rfl
theorem open_sl {H : Type} {enc : TypeId × Value → H} {W : World} {base : Nat} {v : Value} {d : DataW H} {p : List MemPlace}
    (hv : Value.okWide Try.prog W .any base 40 v) (h : DataW.Trod enc Try.prog W 0 (fun _ => true) true 40 v d p) : ∃ (A : Option Addr) (n c : Nat) (f : Nat → Nat), v = .slice A n c ∧ n ≤ maxLen ∧ Sl W A n f := by
  obtain ⟨a1, len, cap, rfl⟩ := okWide_slice Try.underlying40 hv
  obtain ⟨fuel, hf⟩ := h
  rcases open_ints Try.underlying40 Try.underlying5 Try.cells5 hf with ⟨hcs, hx⟩ | ⟨a, len', cap', zs, hcs, _, hl, hm, hz, hx, hcell, hwz⟩
  · simp [Value.cells] at hcs
    obtain ⟨rfl, rfl, rfl⟩ := hcs
    exact ⟨none, 0, 0, fun _ => 0, rfl, Nat.zero_le _, fun _ _ => by decide, fun h => absurd h (by omega)⟩
  · simp [Value.cells] at hcs
    obtain ⟨rfl, rfl, rfl⟩ := hcs
    simp only [if_true] at hz
    refine ⟨some a, len, cap, fun i => (zs.getD i 0).toNat, rfl, Nat.le_trans hl hm, fun i _ => ?_, fun hn => ?_⟩
    · have := range_u8 hwz i
      rw [List.getD_eq_getElem?_getD]
      omega
    · obtain ⟨b, off, spot⟩ := a
      have hspot : spot = none := by simpa [Addr.add] using World.cell?_spot (hcell 0 (by omega))
      subst hspot
      have h0 := hcell 0 (by omega)
      refine ⟨b, off, rfl, by simpa [Addr.add] using World.block_lt_of_cell? W _ h0, fun i hi => ?_⟩
      have hi' := hcell i (by omega)
      rw [Addr.add_lit] at hi'
      have := range_u8 hwz i
      rw [← List.getD_eq_getElem?_getD] at this
      rw [hi', Int.toNat_of_nonneg this.1]

set_option maxRecDepth 100000 in
theorem bytes_lifted (os : Os) (started : os.Started) (H : Type) (enc : TypeId × Value → H) :
    ReturnsInHanded {} Try.checked os 8 .any (Rows.wordBytesSpec.pre6 enc Try.prog Try.f8 Rows.wordBytesRow.domain false) (Rows.wordBytesSpec.post enc Try.prog Try.f8 false true false false) := by
  refine returnsInHanded_of_change (C := Try.checked) Try.own started (by kernel_rfl) Try.func8
    (ChangeSpec.witness6 (enc := enc) (C := Try.checked) false ⟨#[], #[w0000, .slice none 0 0], []⟩ 8 (by kernel_rfl) (by kernel_rfl) (by kernel_rfl) (by kernel_rfl)) ?_
  intro W base args ds gs before hval0 hW hcnd _
  have hval : ∀ (j : Nat) t v, Try.f8.params[j]? = some t → args[j]? = some v → Value.okWide Try.prog W .any base t v := hval0
  have hW' := hW
  obtain ⟨p, q, hA0, hV, rfl, hfz, hnd⟩ := hW
  have hA : DataW.TrodAll enc Try.prog W 0 (fun _ => true) true Try.f8.params.toList args.toList ds p := hA0
  rw [Try.params8] at hA hval
  obtain ⟨v0, v1, d0, d1, p0, p1, rfl, rfl, rfl, h0, h1⟩ := trodAll_two hA
  obtain ⟨rfl, rfl⟩ := trodVars_none hV
  obtain ⟨a, rfl, rfl, rfl⟩ := open_word (hval 0 24 v0 rfl rfl) h0
  obtain ⟨A, n, c, f, rfl, hm, hs⟩ := open_sl (hval 1 40 v1 rfl rfl) h1
  clear hA0 hval0
  simp only [List.append_nil, List.nil_append] at hW'
  have hlt : ∀ x ∈ p1, x.block < W.heap.size := fun x hx => by simpa using hW'.lt x hx
  refine (bytes_full a n c A f W hm hs).mono fun e W' ⟨he, bel⟩ => ?_
  subst he
  exact ⟨_, rfl, _, _, _, [], _, [], hW', trodAll_mk1 (shut_bool Try.underlying4 _), trodAll_mk2 (shut_word a _ _) (Below.trod Try.laidOutY (by kernel_rfl) (of_decide_eq_true (by kernel_rfl)) h1 bel hlt), rfl, bel.frame _, fun h => by cases h⟩

theorem bytes_holds : Rows.WordBytesSaid :=
  OpenClaim.holds_of_wide 8 Try.f8 rfl rfl rfl rfl rfl rfl rfl ⟨rfl, rfl, rfl, rfl, rfl⟩ rfl rfl rfl rfl rfl (by kernel_rfl) Try.func8 (by kernel_rfl)
    (of_decide_eq_true (by kernel_rfl)) (by unfold Func.isWrapper; first | (rw [if_pos (by decide +kernel)]; kernel_rfl) | (rw [if_neg (by decide +kernel)]; exact ⟨rfl, rfl⟩))
    (fun os started H enc _ => bytes_lifted os started H enc)
end Go.Proofs.Ytfgfggnbdnbgfaa
