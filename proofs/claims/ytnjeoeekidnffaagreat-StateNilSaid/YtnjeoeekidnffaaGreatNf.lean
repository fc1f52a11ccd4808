/- Stage 14: newAccount: an account as the world has it. -/
import Derived.Test.YtnjeoeekidnffaaGreatNe
import Derived.Deep.RegionHeld3
import Derived.Laws.BytesArg
namespace Go.Proofs.YtnjeoeekidnffaaGreat
open Go.RowKit SmWord Go.Maps
set_option maxRecDepth 100000

/-- What rising answers of slots that are right already: just these. -/
def RisIs (so : List (Nat × Nat)) : Prop := ∀ (q : Value) (w : World), RowZ (hp w) q so.length 8 (so.flatMap scs) → Calls Tryz.prog 111 #[q] w fun e w' => e = .returned q ∧ Below w.heap.size w w'
theorem ris_nil : RisIs [] := fun q w h => by
  obtain ⟨A, c, rfl, _⟩ := h.val
  exact rising_none A c w
/-- The text that bytes make. -/
def strC (co : List Nat) : ByteArray := strOfNums (co.map fun (c : Nat) => (c : Int))
theorem conv_z {w : World} {v : Value} {co : List Nat} (h : RowZ (hp w) v co.length 1 (co.map u8v)) : (convert 45 9 v).run Tryz.prog w = .ok (.string (strC co)) w := by
  obtain ⟨A, c, rfl, hn, hc, hA, hcells⟩ := h.val
  cases A with
  | none =>
    have h0 := (hA rfl).1
    have : co = [] := List.eq_nil_of_length_eq_zero h0
    subst this
    rw [run_convert_bytes_nil w _ _ Tryz.underlying45 Tryz.underlying5 _ _ _ Tryz.underlying9]
    simp [strC, strOfNums, ByteArray.empty, ByteArray.emptyWithCapacity]
    rfl
  | some a =>
    by_cases h0 : 0 < co.length
    · obtain ⟨b, off, e, hr⟩ := hcells h0
      cases e
      refine run_convert_bytes_arg w _ _ Tryz.underlying45 Tryz.underlying5 b off _ c _ (by simp) (fun i hi => ?_) _ Tryz.underlying9
      refine hr.cell ?_
      simp [u8v, hi, List.getD]
    · have : co = [] := List.eq_nil_of_length_eq_zero (by omega)
      subst this
      show (convert 45 9 (.slice (some a) 0 c)).run Tryz.prog w = _
      rw [run_convert_bytes_string w _ _ _ _ _ _ Tryz.underlying45 Tryz.underlying5 Tryz.underlying9, run_bytesToString w a 0 c [] (by simp [loadCells, loadCellsFrom])]
      simp [strC, strOfNums, ByteArray.empty, ByteArray.emptyWithCapacity]
      rfl
theorem infoAcct : (Tryz.prog.info? 120).map (·.size) = some 37 := by kernel_rfl
/-- The cells of a state's account. -/
def acct (x : AV) (no ba : Nat) (S : ByteArray) (sp : Nat) (wr : Bool) (wm : Nat) (ds : Bool) : List Value :=
  acs x ++ (.int .u64 (no : Int) :: (wa ba).toList ++ [.string S, .pointer (some ⟨sp, 0, none⟩), .bool wr, .map (some wm), .bool ds])
theorem acct_len (x : AV) (no ba : Nat) (S : ByteArray) (sp : Nat) (wr : Bool) (wm : Nat) (ds : Bool) : (acct x no ba S sp wr wm ds).length = 37 := by
  unfold acct
  simp [acs_len, wa_size]
theorem list27 {α : Type} {l : Array α} (h : l.size = 27) : ∃ x0 x1 x2 x3 x4 x5 x6 x7 x8 x9 x10 x11 x12 x13 x14 x15 x16 x17 x18 x19 x20 x21 x22 x23 x24 x25 x26, l = #[x0, x1, x2, x3, x4, x5, x6, x7, x8, x9, x10, x11, x12, x13, x14, x15, x16, x17, x18, x19, x20, x21, x22, x23, x24, x25, x26] := by
  obtain ⟨l⟩ := l
  simp at h
  obtain _ | ⟨x0, l⟩ := l; · simp at h
  obtain _ | ⟨x1, l⟩ := l; · simp at h
  obtain _ | ⟨x2, l⟩ := l; · simp at h
  obtain _ | ⟨x3, l⟩ := l; · simp at h
  obtain _ | ⟨x4, l⟩ := l; · simp at h
  obtain _ | ⟨x5, l⟩ := l; · simp at h
  obtain _ | ⟨x6, l⟩ := l; · simp at h
  obtain _ | ⟨x7, l⟩ := l; · simp at h
  obtain _ | ⟨x8, l⟩ := l; · simp at h
  obtain _ | ⟨x9, l⟩ := l; · simp at h
  obtain _ | ⟨x10, l⟩ := l; · simp at h
  obtain _ | ⟨x11, l⟩ := l; · simp at h
  obtain _ | ⟨x12, l⟩ := l; · simp at h
  obtain _ | ⟨x13, l⟩ := l; · simp at h
  obtain _ | ⟨x14, l⟩ := l; · simp at h
  obtain _ | ⟨x15, l⟩ := l; · simp at h
  obtain _ | ⟨x16, l⟩ := l; · simp at h
  obtain _ | ⟨x17, l⟩ := l; · simp at h
  obtain _ | ⟨x18, l⟩ := l; · simp at h
  obtain _ | ⟨x19, l⟩ := l; · simp at h
  obtain _ | ⟨x20, l⟩ := l; · simp at h
  obtain _ | ⟨x21, l⟩ := l; · simp at h
  obtain _ | ⟨x22, l⟩ := l; · simp at h
  obtain _ | ⟨x23, l⟩ := l; · simp at h
  obtain _ | ⟨x24, l⟩ := l; · simp at h
  obtain _ | ⟨x25, l⟩ := l; · simp at h
  obtain _ | ⟨x26, l⟩ := l; · simp at h
  obtain rfl : l = [] := by simpa using h
  exact ⟨_, _, _, _, _, _, _, _, _, _, _, _, _, _, _, _, _, _, _, _, _, _, _, _, _, _, _, rfl⟩
theorem run_build37 (x0 x1 x2 x3 x4 x5 x6 x7 x8 x9 x10 x11 x12 x13 x14 x15 x16 x17 x18 x19 x20 x21 x22 x23 x24 x25 x26 b0 b1 b2 b3 : Value) (n : Int) (S : ByteArray) (p : Option Addr) (m : Option Nat) (w : World) : (Instr.build 120 #[(0, .agg #[x0, x1, x2, x3, x4, x5, x6, x7, x8, x9, x10, x11, x12, x13, x14, x15, x16, x17, x18, x19, x20, x21, x22, x23, x24, x25, x26]), (1, .int .u64 n), (2, .agg #[b0, b1, b2, b3]), (3, .string S), (4, .pointer p), (6, .map m)]).run Tryz.prog w = .ok (.agg #[x0, x1, x2, x3, x4, x5, x6, x7, x8, x9, x10, x11, x12, x13, x14, x15, x16, x17, x18, x19, x20, x21, x22, x23, x24, x25, x26, .int .u64 n, b0, b1, b2, b3, .string S, .pointer p, .bool false, .map m, .bool false]) w := by kernel_rfl
theorem build_acct (x : AV) (no ba : Nat) (S : ByteArray) (sp wm : Nat) (w : World) : (Instr.build 120 #[(0, .agg (acs x).toArray), (1, .int .u64 (no : Int)), (2, .agg (wa ba)), (3, .string S), (4, .pointer (some ⟨sp, 0, none⟩)), (6, .map (some wm))]).run Tryz.prog w = .ok (.agg (acct x no ba S sp false wm false).toArray) w := by
  have h27 : (acs x).toArray.size = 27 := by simp [acs_len]
  have e2 : (acct x no ba S sp false wm false).toArray = (acs x).toArray ++ #[.int .u64 (no : Int)] ++ wa ba ++ #[.string S, .pointer (some ⟨sp, 0, none⟩), .bool false, .map (some wm), .bool false] := by
    unfold acct
    simp
  rw [e2]
  obtain ⟨x0, x1, x2, x3, x4, x5, x6, x7, x8, x9, x10, x11, x12, x13, x14, x15, x16, x17, x18, x19, x20, x21, x22, x23, x24, x25, x26, e⟩ := list27 h27
  rw [e]
  exact run_build37 _ _ _ _ _ _ _ _ _ _ _ _ _ _ _ _ _ _ _ _ _ _ _ _ _ _ _ _ _ _ _ _ _ _ _ w
theorem run_makeS (w : World) : (Instr.makeMap 118 none).run Tryz.prog w = .ok (.map (some w.heap.size)) (w.alloc (.map #[] 0)) := by
  simp [Instr.makeMap, Result.andThen]
theorem newSto2 (qa : Option Addr) (n c : Nat) (w : World) :
    Calls Tryz.prog 84 #[.slice qa n c] w fun e w' => e = .returned (.pointer (some ⟨w.heap.size + 1, 0, none⟩)) ∧ (w'.heap[w.heap.size + 1]? = some (.cells #[.slice qa n c, .map (some w.heap.size)] 164) ∧ mapIsW w' w.heap.size 0 (fun _ => none)) ∧ Below w.heap.size w w' := by
  obtain ⟨W1, hW1⟩ : ∃ W1, w.alloc (.map #[] 0) = W1 := ⟨_, rfl⟩
  obtain ⟨W2, hW2⟩ : ∃ W2, W1.alloc (.cells #[.slice qa n c, .map (some w.heap.size)] 164) = W2 := ⟨_, rfl⟩
  have s1 : W1.heap.size = w.heap.size + 1 := hW1 ▸ by simp
  have b1 : Below w.heap.size w W1 := hW1 ▸ (Below.refl _ _).alloc (Nat.le_refl _) _
  have b2 : Below W1.heap.size W1 W2 := hW2 ▸ (Below.refl _ _).alloc (Nat.le_refl _) _
  have m1 : mapIsW W1 w.heap.size 0 (fun _ => none) := hW1 ▸ mapIs_madeW w
  have f2 : W2.heap[w.heap.size + 1]? = some (.cells #[.slice qa n c, .map (some w.heap.size)] 164) := by rw [← s1]; exact hW2 ▸ heap_alloc_new _ _
  have bb := b1.trans (b2.mono b1.size)
  have m2 : mapIsW W2 w.heap.size 0 (fun _ => none) := m1.same (b2.block _ (by omega))
  have HF := Lib.hid f2
  have HM := Lib.hid m2
  have HB := Lib.hid bb
  clear b1 b2 m1 f2 bb m2
  have hmk := run_makeW w
  go_enter Tryz.func84, Tryz.ntmps84
  go_wp2_with fail
  go_ret
  exact ⟨rfl, ⟨HF.out, HM.out⟩, HB.out⟩
set_option maxHeartbeats 4000000 in
theorem newAcc_walk (x : AV) (w : World) (h : AccZ (hp w) x) (HR : Hid (RisIs x.a.so)) :
    Calls Tryz.prog 95 #[aval x] w fun e w' => ∃ (ap sp sm wm c : Nat) (p : Value) (qa : Option Addr) (Zn : Hp), e = .returned (.pointer (some ⟨ap, 0, none⟩)) ∧
      w'.heap[ap]? = some (.cells (acct ⟨x.a, p, .slice qa x.a.so.length c⟩ x.a.no x.a.ba (strC x.a.co) sp false wm false).toArray 120) ∧ AccZ Zn ⟨x.a, p, .slice qa x.a.so.length c⟩ ∧ Sub Zn (fr w.heap.size w') ∧
      w'.heap[sp]? = some (.cells #[.slice qa x.a.so.length c, .map (some sm)] 164) ∧ mapIsW w' sm 0 (fun _ => none) ∧ mapIsW w' wm 0 (fun _ => none) ∧
      (w.heap.size ≤ ap ∧ w.heap.size ≤ sp ∧ w.heap.size ≤ sm ∧ w.heap.size ≤ wm) ∧ sm ≠ wm ∧ (Zn ap = none ∧ Zn sp = none ∧ Zn sm = none ∧ Zn wm = none) ∧ Below w.heap.size w w' := by
  have hs : ∀ x, (acs x).toArray.size = 27 := fun x => by simp [acs_len]
  have bW : Below w.heap.size w (w.alloc (.cells (acs x).toArray 69)) := (Below.refl _ _).alloc (Nat.le_refl _) _
  have F0 := Lib.hid (heap_alloc_new w (.cells (acs x).toArray 69))
  obtain ⟨W, hW⟩ : ∃ W, w.alloc (.cells (acs x).toArray 69) = W := ⟨_, rfl⟩
  rw [hW] at bW F0
  have sW : W.heap.size = w.heap.size + 1 := by rw [← hW]; simp
  have HB := Lib.hid bW
  have KC := Lib.hid (copied_walk x W (h.sub (hp_below bW)))
  have r0 := (rng_block F0.out).at
  clear bW h
  unfold aval at KC ⊢
  go_enter Tryz.func95, Tryz.ntmps95
  go_upto_region 1 with fail
  clear hW
  go_upto_region 2 with (first
    | (refine wpList_load_mid rfl 69 _ rfl w.heap.size 0 rfl (acs x) _ r0 Tryz.underlying69 rfl (infoAcs _) ?_)
    | (go_at_call 39; refine KC.out.mono ?_; rintro e w1 ⟨p, q, rfl, ha, b1⟩; have HA := Lib.hid ha; have one := ha.ones; have HB1 := Lib.hid (HB.out.trans (b1.mono HB.out.size)); have F01 := Lib.hid (stay b1 F0.out); clear ha b1)
    | (refine wpList_store_row rfl 69 _ _ rfl w.heap.size _ (acs ⟨x.a, p, q⟩).toArray rfl rfl F01.out (by simpa using infoAcs _) (by simp [acs_len]) one ?_))
  clear KC r0 F0 one
  have F2 := Lib.hid (blk_row F01.out (c' := (acs ⟨x.a, p, q⟩).toArray))
  have HB2 := Lib.hid (below_setRow HB1.out (Nat.le_refl _) (acs ⟨x.a, p, q⟩).toArray)
  have HZ2 : Hid (AccZ (fr W.heap.size (w1.setRow w.heap.size (acs ⟨x.a, p, q⟩).toArray)) ⟨x.a, p, q⟩) := Lib.hid (HA.out.sub fun b o ho => by
    unfold fr at ho ⊢
    split at ho
    · rw [if_pos (by omega), setRow_other _ _ _ _ (by omega)]
      exact ho
    · cases ho)
  clear HA F01 HB1
  obtain ⟨w2, h2⟩ : ∃ w2, w1.setRow w.heap.size (acs ⟨x.a, p, q⟩).toArray = w2 := ⟨_, rfl⟩
  rw [h2] at F2 HB2 HZ2 ⊢
  clear h2
  have hq3 : RowZ (fr W.heap.size w2) q x.a.so.length 8 (x.a.so.flatMap scs) := HZ2.out.sto
  obtain ⟨Q1, Q2, hqe, -, -, -, -⟩ := hq3.val
  clear hq3
  subst hqe
  obtain ⟨-, -, c25, c26, -⟩ := boxcells F2.out
  have KR := Lib.hid (HR.out (.slice Q1 x.a.so.length Q2) w2 (HZ2.out.sto.sub (fr_sub _ _)))
  go_upto_region 3 with (go_at_call 111; refine KR.out.mono ?_; rintro e w3 ⟨rfl, b3⟩; have F3 := Lib.hid (stay b3 F2.out); have fz := blk_frozen (j := 26) F3.out; have c26' := (boxcells F3.out).2.2.2.1; have HB3 := Lib.hid (HB2.out.trans (b3.mono HB2.out.size)); have HZ3 := Lib.hid (HZ2.out.sub (fr_below b3)); clear b3)
  clear KR c25 c26
  have F4 : Hid ((w3.setCell ⟨w.heap.size, 26, none⟩ (.slice Q1 x.a.so.length Q2)).heap[w.heap.size]? = some (.cells (acs ⟨x.a, p, .slice Q1 x.a.so.length Q2⟩).toArray 69)) := Lib.hid (by
    have := blk_set F3.out (j := 26) (.slice Q1 x.a.so.length Q2)
    rwa [show (acs ⟨x.a, p, .slice Q1 x.a.so.length Q2⟩).toArray.setIfInBounds 26 (.slice Q1 x.a.so.length Q2) = (acs ⟨x.a, p, .slice Q1 x.a.so.length Q2⟩).toArray from by
      have e := acs_set ⟨x.a, p, .slice Q1 x.a.so.length Q2⟩ p (.slice Q1 x.a.so.length Q2)
      have e25 : (acs ⟨x.a, p, .slice Q1 x.a.so.length Q2⟩).toArray.setIfInBounds 25 p = (acs ⟨x.a, p, .slice Q1 x.a.so.length Q2⟩).toArray := by
        have := acs_p ⟨x.a, p, .slice Q1 x.a.so.length Q2⟩
        apply Array.ext_getElem?
        intro k
        rw [Array.getElem?_setIfInBounds]
        split
        · rename_i h
          subst h
          simp [acs_len]
          exact (List.getElem?_eq_some_iff.1 this).2.symm
        · rfl
      rwa [e25] at e] at this)
  have HB4 := Lib.hid (HB3.out.setCell (p := ⟨w.heap.size, 26, none⟩) (Nat.le_refl _) (.slice Q1 x.a.so.length Q2))
  have HZ4 : Hid (AccZ (fr W.heap.size (w3.setCell ⟨w.heap.size, 26, none⟩ (.slice Q1 x.a.so.length Q2))) ⟨x.a, p, .slice Q1 x.a.so.length Q2⟩) := Lib.hid (HZ3.out.sub fun b o ho => by
    unfold fr at ho ⊢
    split at ho
    · rw [if_pos (by omega), Below.heap_setCell _ _ _ _ (by show b ≠ w.heap.size; omega)]
      exact ho
    · cases ho)
  clear F3 HB3 HZ3 HZ2 HB2 F2 HB
  obtain ⟨w4, h4⟩ : ∃ w4, w3.setCell ⟨w.heap.size, 26, none⟩ (.slice Q1 x.a.so.length Q2) = w4 := ⟨_, rfl⟩
  rw [h4] at F4 HB4 HZ4 ⊢
  clear h4
  have KS : ∀ w', Below w4.heap.size w4 w' → w'.rangeAt w.heap.size 0 (acs ⟨x.a, p, .slice Q1 x.a.so.length Q2⟩) ∧ w'.cell? ⟨w.heap.size, 20, none⟩ = some (.int .u64 (x.a.no : Int)) ∧ w'.rangeAt w.heap.size 21 (wa x.a.ba).toList ∧ w'.cell? ⟨w.heap.size, 25, none⟩ = some p ∧ w'.cell? ⟨w.heap.size, 26, none⟩ = some (.slice Q1 x.a.so.length Q2) ∧ (convert 45 9 p).run Tryz.prog w' = .ok (.string (strC x.a.co)) w' := fun w' hb => by
    have f := stay hb F4.out
    obtain ⟨g1, g2, g3, g4, -⟩ := boxcells f
    exact ⟨(rng_block f).at, g1, g2, g3, g4, conv_z ((HZ4.out.cod.sub (fr_sub _ _)).sub (hp_below hb))⟩
  have HKS := Lib.hid KS
  have KN := fun w' => newSto2 Q1 x.a.so.length Q2 w'
  have HKN := Lib.hid KN
  have hmk := run_makeS
  have C20 := Lib.hid fun w' hb => (HKS.out w' hb).2.1
  have C25 := Lib.hid fun w' hb => (HKS.out w' hb).2.2.2.1
  have C26 := Lib.hid fun w' hb => (HKS.out w' hb).2.2.2.2.1
  have CV := Lib.hid fun w' hb => (HKS.out w' hb).2.2.2.2.2
  have R0 := Lib.hid fun w' hb => (HKS.out w' hb).1
  have R21 := Lib.hid fun w' hb => (HKS.out w' hb).2.2.1
  have D0 : Hid (Below w4.heap.size w4 w4.drew) := Lib.hid (Below.refl _ _).drew
  have hs37 : ∀ sp wm, (acct ⟨x.a, p, .slice Q1 x.a.so.length Q2⟩ x.a.no x.a.ba (strC x.a.co) sp false wm false).toArray.size = 37 := fun sp wm => by simp [acct_len]
  clear HKS
  refine wp_region_held_drew (S := (fun w' => Below w4.heap.size w4 w')) (by kernel_rfl) D0.out (fun hHeld => ?_)
  refine wpAnyH_take (i := 0) (oi := ⟨_, _, _, _, _, _⟩) rfl (by kernel_rfl) (by kernel_rfl) (by kernel_rfl) (fun _ _ _ h => h) (yieldsIf_load_mid (by rfl) 69 _ rfl w.heap.size 0 rfl (acs ⟨x.a, p, .slice Q1 x.a.so.length Q2⟩) _ (R0.out) Tryz.underlying69 rfl (infoAcs _)) (by assumption) ?_
  try simp only [Act.put, List.setIfInBounds_toArray, List.set_cons_zero, List.set_cons_succ]
  refine wpAnyH_take (i := 1) (oi := ⟨_, _, _, _, _, _⟩) (v := ?_) rfl (by kernel_rfl) (by kernel_rfl) (by kernel_rfl) (fun _ _ _ h => h) (Or.inl ⟨by rfl, ?_⟩) (by assumption) ?_
  rotate_left
  · (intro w hSw; first | (go_simp; done) | (go_simp; with_reducible rfl))
  try simp only [Act.put, List.setIfInBounds_toArray, List.set_cons_zero, List.set_cons_succ]
  refine wpAnyH_take (i := 2) (oi := ⟨_, _, _, _, _, _⟩) (v := ?_) rfl (by kernel_rfl) (by kernel_rfl) (by kernel_rfl) (fun _ _ _ h => h) (Or.inl ⟨by rfl, ?_⟩) (by assumption) ?_
  rotate_left
  · (intro w hSw; have hc := C20.out w hSw; first | (go_simp; done) | (go_simp; with_reducible rfl))
  try simp only [Act.put, List.setIfInBounds_toArray, List.set_cons_zero, List.set_cons_succ]
  refine wpAnyH_take (i := 3) (oi := ⟨_, _, _, _, _, _⟩) (v := ?_) rfl (by kernel_rfl) (by kernel_rfl) (by kernel_rfl) (fun _ _ _ h => h) (Or.inl ⟨by rfl, ?_⟩) (by assumption) ?_
  rotate_left
  · (intro w hSw; first | (go_simp; done) | (go_simp; with_reducible rfl))
  try simp only [Act.put, List.setIfInBounds_toArray, List.set_cons_zero, List.set_cons_succ]
  refine wpAnyH_take (i := 4) (oi := ⟨_, _, _, _, _, _⟩) rfl (by kernel_rfl) (by kernel_rfl) (by kernel_rfl) (fun _ _ _ h => h) (yieldsIf_load_mid (by rfl) 44 _ rfl w.heap.size 21 rfl (wa x.a.ba).toList _ (R21.out) Tryz.underlying44 rfl (infoW4 _)) (by assumption) ?_
  try simp only [Act.put, List.setIfInBounds_toArray, List.set_cons_zero, List.set_cons_succ, Array.toArray_toList]
  refine wpAnyH_take (i := 5) (oi := ⟨_, _, _, _, _, _⟩) (v := ?_) rfl (by kernel_rfl) (by kernel_rfl) (by kernel_rfl) (fun _ _ _ h => h) (Or.inl ⟨by rfl, ?_⟩) (by assumption) ?_
  rotate_left
  · (intro w hSw; first | (go_simp; done) | (go_simp; with_reducible rfl))
  try simp only [Act.put, List.setIfInBounds_toArray, List.set_cons_zero, List.set_cons_succ]
  refine wpAnyH_take (i := 6) (oi := ⟨_, _, _, _, _, _⟩) (v := ?_) rfl (by kernel_rfl) (by kernel_rfl) (by kernel_rfl) (fun _ _ _ h => h) (Or.inl ⟨by rfl, ?_⟩) (by assumption) ?_
  rotate_left
  · (intro w hSw; have hc := C25.out w hSw; first | (go_simp; done) | (go_simp; with_reducible rfl))
  try simp only [Act.put, List.setIfInBounds_toArray, List.set_cons_zero, List.set_cons_succ]
  refine wpAnyH_take (i := 7) (oi := ⟨_, _, _, _, _, _⟩) (v := ?_) rfl (by kernel_rfl) (by kernel_rfl) (by kernel_rfl) (fun _ _ _ h => h) (Or.inl ⟨by rfl, ?_⟩) (by assumption) ?_
  rotate_left
  · (intro w hSw; have hc := CV.out w hSw; first | (go_simp; done) | (go_simp; with_reducible rfl))
  try simp only [Act.put, List.setIfInBounds_toArray, List.set_cons_zero, List.set_cons_succ]
  refine wpAnyH_take (i := 8) (oi := ⟨_, _, _, _, _, _⟩) (v := ?_) rfl (by kernel_rfl) (by kernel_rfl) (by kernel_rfl) (fun _ _ _ h => h) (Or.inl ⟨by rfl, ?_⟩) (by assumption) ?_
  rotate_left
  · (intro w hSw; first | (go_simp; done) | (go_simp; with_reducible rfl))
  try simp only [Act.put, List.setIfInBounds_toArray, List.set_cons_zero, List.set_cons_succ]
  refine wpAnyH_take (i := 9) (oi := ⟨_, _, _, _, _, _⟩) (v := ?_) rfl (by kernel_rfl) (by kernel_rfl) (by kernel_rfl) (fun _ _ _ h => h) (Or.inl ⟨by rfl, ?_⟩) (by assumption) ?_
  rotate_left
  · (intro w hSw; have hc := C26.out w hSw; first | (go_simp; done) | (go_simp; with_reducible rfl))
  try simp only [Act.put, List.setIfInBounds_toArray, List.set_cons_zero, List.set_cons_succ]
  refine wpAnyH_ready (rs := [10, 11]) (by kernel_rfl) (by simp) ?_
  refine AllReadyH.cons (o := ⟨_, _, _, _, _, _⟩) rfl (fun K hK => ?_) (AllReadyH.cons (o := ⟨_, _, _, _, _, _⟩) rfl (fun K hK => ?_) AllReadyH.nil)
  · go_simp
    go_wp2_with (go_at_call 84; refine (HKN.out _).mono ?_; rintro e w5 ⟨rfl, hst, b5⟩)
    have HST := Lib.hid hst
    have HB5 := Lib.hid (D0.out.trans (b5.mono D0.out.size))
    have hlt : w4.drew.heap.size + 1 < w5.heap.size := (Array.getElem?_eq_some_iff.1 hst.1).1
    have HLT := Lib.hid hlt
    clear hst b5 hlt
    refine hK.out _ _ HB5.out (fun hHeld => ?_)
    clear hK K
    try simp only [Act.put, List.setIfInBounds_toArray, List.set_cons_zero, List.set_cons_succ]
    refine wpAnyH_ready (rs := [11]) (by kernel_rfl) (by simp) ?_
    refine AllReadyH.cons (o := ⟨_, _, _, _, _, _⟩) rfl (fun K hK => ?_) AllReadyH.nil
    go_simp
    have HB6 := Lib.hid (HB5.out.alloc HB5.out.size (.map #[] 0))
    refine hK.out _ _ HB6.out (fun hHeld => ?_)
    clear hK K
    try simp only [Act.put, List.setIfInBounds_toArray, List.set_cons_zero, List.set_cons_succ]
    have hbd := fun w => build_acct ⟨x.a, p, .slice Q1 x.a.so.length Q2⟩ x.a.no x.a.ba (strC x.a.co) (w4.heap.size + 1) w5.heap.size w
    refine wpAnyH_take (i := 12) (oi := ⟨_, _, _, _, _, _⟩) (v := ?_) rfl (by kernel_rfl) (by kernel_rfl) (by kernel_rfl) (fun _ _ _ h => h) (Or.inl ⟨by rfl, ?_⟩) (by assumption) ?_
    rotate_left
    · (intro w hSw; have hc := (fun w (_ : Below w4.heap.size w4 w) => hbd w) w hSw; (simp [execOp, Act.eval, hc, Result.andThen]; rfl))
    try simp only [Act.put, List.setIfInBounds_toArray, List.set_cons_zero, List.set_cons_succ]
    have hsz := hs37 (w4.heap.size + 1) w5.heap.size
    refine wpAnyH_ready (rs := [13]) (by kernel_rfl) (by simp) ?_
    refine AllReadyH.cons (o := ⟨_, _, _, _, _, _⟩) rfl (fun K hK => ?_) AllReadyH.nil
    go_simp
    refine hK.out _ _ (HB6.out.alloc HB6.out.size _) (fun hHeld => ?_)
    clear hK K
    try simp only [Act.put, List.setIfInBounds_toArray, List.set_cons_zero, List.set_cons_succ]
    refine wpAnyH_take (i := 14) (oi := ⟨_, _, _, _, _, _⟩) (v := ?_) rfl (by kernel_rfl) (by kernel_rfl) (by kernel_rfl) (fun _ _ _ h => h) (Or.inl ⟨by rfl, ?_⟩) (by assumption) ?_
    rotate_left
    · (intro w hSw; first | (go_simp; done) | (go_simp; with_reducible rfl))
    try simp only [Act.put, List.setIfInBounds_toArray, List.set_cons_zero, List.set_cons_succ]
    refine wpAnyH_done (by kernel_rfl) ?_ _
    clear hHeld hmk
    go_wp2_with fail
    go_ret
    have b7 : Below w5.heap.size w5 ((w5.alloc (.map #[] 0)).alloc (.cells (acct ⟨x.a, p, .slice Q1 x.a.so.length Q2⟩ x.a.no x.a.ba (strC x.a.co) (w4.heap.size + 1) false w5.heap.size false).toArray 120)) := ((Below.refl _ _).alloc (Nat.le_refl _) _).alloc (by simp) _
    have b8 := HB5.out.trans (b7.mono HB5.out.size)
    have z4 := HB4.out.size
    have z5 := HB5.out.size
    have hlt := HLT.out
    simp only [World.size_drew] at hlt
    have zn : ∀ b, w4.heap.size ≤ b → fr W.heap.size w4 b = none := fun b hb => by
      unfold fr
      split
      · exact Array.getElem?_eq_none hb
      · rfl
    have hst := HST.out
    simp only [World.size_drew] at hst
    refine ⟨w5.heap.size + 1, w4.heap.size + 1, w4.heap.size, w5.heap.size, Q2, p, Q1, fr W.heap.size w4, by simp, ?_, HZ4.out, ?_, stay b7 hst.1, ?_, ?_, ⟨by omega, by omega, by omega, by omega⟩, by omega, ⟨zn _ (by omega), zn _ (by omega), zn _ (by omega), zn _ (by omega)⟩, HB4.out.trans (b8.mono z4)⟩
    · have := heap_alloc_new (w5.alloc (.map #[] 0)) (.cells (acct ⟨x.a, p, .slice Q1 x.a.so.length Q2⟩ x.a.no x.a.ba (strC x.a.co) (w4.heap.size + 1) false w5.heap.size false).toArray 120)
      simpa using this
    · exact (fr_below b8).trans (fr_mono (by omega) _)
    · exact hst.2.same (b7.block _ (by omega))
    · exact (mapIs_madeW w5).same (((Below.refl _ _).alloc (Nat.le_refl _) _).block _ (by simp))
  · go_simp
    have D1 : Hid (Below w4.heap.size w4 (w4.drew.alloc (.map #[] 0))) := Lib.hid (D0.out.alloc D0.out.size _)
    have HM1 := Lib.hid (mapIs_madeW w4.drew)
    have s1 : (w4.drew.alloc (.map #[] 0)).heap.size = w4.heap.size + 1 := by simp
    refine hK.out _ _ D1.out (fun hHeld => ?_)
    clear hK K
    obtain ⟨w5, h5⟩ : ∃ w5, (w4.alloc (.map #[] 0)).drew = w5 := ⟨_, rfl⟩
    rw [show w4.drew.alloc (.map #[] 0) = (w4.alloc (.map #[] 0)).drew from rfl, h5] at D1 HM1 s1
    rw [h5] at hHeld ⊢
    clear h5
    try simp only [Act.put, List.setIfInBounds_toArray, List.set_cons_zero, List.set_cons_succ]
    refine wpAnyH_ready (rs := [10]) (by kernel_rfl) (by simp) ?_
    refine AllReadyH.cons (o := ⟨_, _, _, _, _, _⟩) rfl (fun K hK => ?_) AllReadyH.nil
    go_simp
    go_wp2_with (go_at_call 84; refine (HKN.out _).mono ?_; rintro e w6 ⟨rfl, hst, b6⟩)
    have HST := Lib.hid hst
    have HB6 := Lib.hid (D1.out.trans (b6.mono D1.out.size))
    have HM2 := Lib.hid (HM1.out.same (b6.block _ (by simp only [World.size_drew]; omega)))
    have hlt : w5.heap.size + 1 < w6.heap.size := (Array.getElem?_eq_some_iff.1 hst.1).1
    clear hst b6
    refine hK.out _ _ HB6.out (fun hHeld => ?_)
    clear hK K
    try simp only [Act.put, List.setIfInBounds_toArray, List.set_cons_zero, List.set_cons_succ]
    have hbd := fun w => build_acct ⟨x.a, p, .slice Q1 x.a.so.length Q2⟩ x.a.no x.a.ba (strC x.a.co) (w4.heap.size + 1 + 1) w4.heap.size w
    refine wpAnyH_take (i := 12) (oi := ⟨_, _, _, _, _, _⟩) (v := ?_) rfl (by kernel_rfl) (by kernel_rfl) (by kernel_rfl) (fun _ _ _ h => h) (Or.inl ⟨by rfl, ?_⟩) (by assumption) ?_
    rotate_left
    · (intro w hSw; have hc := (fun w (_ : Below w4.heap.size w4 w) => hbd w) w hSw; (simp [execOp, Act.eval, hc, Result.andThen]; rfl))
    try simp only [Act.put, List.setIfInBounds_toArray, List.set_cons_zero, List.set_cons_succ]
    have hsz := hs37 (w4.heap.size + 1 + 1) w4.heap.size
    refine wpAnyH_ready (rs := [13]) (by kernel_rfl) (by simp) ?_
    refine AllReadyH.cons (o := ⟨_, _, _, _, _, _⟩) rfl (fun K hK => ?_) AllReadyH.nil
    go_simp
    refine hK.out _ _ (HB6.out.alloc HB6.out.size _) (fun hHeld => ?_)
    clear hK K
    try simp only [Act.put, List.setIfInBounds_toArray, List.set_cons_zero, List.set_cons_succ]
    refine wpAnyH_take (i := 14) (oi := ⟨_, _, _, _, _, _⟩) (v := ?_) rfl (by kernel_rfl) (by kernel_rfl) (by kernel_rfl) (fun _ _ _ h => h) (Or.inl ⟨by rfl, ?_⟩) (by assumption) ?_
    rotate_left
    · (intro w hSw; first | (go_simp; done) | (go_simp; with_reducible rfl))
    try simp only [Act.put, List.setIfInBounds_toArray, List.set_cons_zero, List.set_cons_succ]
    refine wpAnyH_done (by kernel_rfl) ?_ _
    clear hHeld hmk
    go_wp2_with fail
    go_ret
    have b7 : Below w6.heap.size w6 (w6.alloc (.cells (acct ⟨x.a, p, .slice Q1 x.a.so.length Q2⟩ x.a.no x.a.ba (strC x.a.co) (w4.heap.size + 1 + 1) false w4.heap.size false).toArray 120)) := (Below.refl _ _).alloc (Nat.le_refl _) _
    have b8 := HB6.out.trans (b7.mono HB6.out.size)
    have z4 := HB4.out.size
    have z6 := HB6.out.size
    have hst := HST.out
    rw [s1] at hst hlt
    have zn : ∀ b, w4.heap.size ≤ b → fr W.heap.size w4 b = none := fun b hb => by
      unfold fr
      split
      · exact Array.getElem?_eq_none hb
      · rfl
    refine ⟨w6.heap.size, w4.heap.size + 1 + 1, w4.heap.size + 1, w4.heap.size, Q2, p, Q1, fr W.heap.size w4, by simp, heap_alloc_new _ _, HZ4.out, (fr_below b8).trans (fr_mono (by omega) _), stay b7 hst.1, hst.2.same (b7.block _ (by omega)), ?_, ⟨by omega, by omega, by omega, by omega⟩, by omega, ⟨zn _ (by omega), zn _ (by omega), zn _ (by omega), zn _ (by omega)⟩, HB4.out.trans (b8.mono z4)⟩
    exact HM2.out.same (b7.block _ (by simp only [World.size_drew]; omega))
end Go.Proofs.YtnjeoeekidnffaaGreat
/- Stage 14: a state in memory. -/
namespace Go.Proofs.YtnjeoeekidnffaaGreat
open Go.RowKit SmWord Go.Maps
set_option maxRecDepth 100000

/-- What an account has stored: what it had at first (where, how many), what isn't as at first, in which map. -/
structure Sto where
  qa : Option Addr
  c : Nat
  so : List (Nat × Nat)
  g : Nat → Option Nat
  n : Nat
  m : Nat
/-- What a state has of an address. -/
structure Ent where
  x : AV
  no : Nat
  ba : Nat
  S : ByteArray
  sp : Nat
  wr : Bool
  wm : Nat
  wn : Nat
  wf : Nat → Bool
  ds : Bool
/-- What a block of a state's is. -/
inductive Role where
  | stb | amap | acc (A : Nat) | sto | now (p : Nat) | warm (A : Nat) | lgs | und
/-- Of which there is one block alone. -/
def Role.uni : Role → Bool
  | .sto => false
  | .lgs => false
  | .und => false
  | _ => true
/-- A state. -/
structure Gs where
  sb : Nat
  am : Nat
  na : Nat
  wv : Value
  mi : Nat
  ms : Bool
  rf : Int
  lv : Value
  uv : Value
  ab : Nat → Option Nat
  en : Nat → Ent
  st : Nat → Option Sto
  own : Nat → Option Role
/-- A state's cells. -/
def stC (G : Gs) : List Value := G.wv :: .map (some G.am) :: (aN G.mi).toList ++ [.bool G.ms, .int .i64 G.rf, G.lv, G.uv]
theorem stC_len (G : Gs) : (stC G).length = 26 := by
  unfold stC
  simp [aN_size]
/-- An account's cells. -/
def entC (e : Ent) : List Value := acct e.x e.no e.ba e.S e.sp e.wr e.wm e.ds
theorem entC_len (e : Ent) : (entC e).length = 37 := acct_len _ _ _ _ _ _ _ _
def wset (f : Nat → Bool) (K : Nat) : Option Value := if f K then some (.agg #[]) else none
/-- What a block holds. -/
def holds (w : World) (G : Gs) (b : Nat) : Role → Prop
  | .stb => w.heap[b]? = some (.cells (stC G).toArray 88)
  | .amap => mapIs w b G.na (fun A => (G.ab A).map fun p => .pointer (some ⟨p, 0, none⟩))
  | .acc A => w.heap[b]? = some (.cells (entC (G.en A)).toArray 120)
  | .sto => ∃ s, G.st b = some s ∧ w.heap[b]? = some (.cells #[.slice s.qa s.so.length s.c, .map (some s.m)] 164)
  | .now p => ∃ s, G.st p = some s ∧ mapIsW w b s.n (fun k => (s.g k).map wd)
  | .warm A => mapIsW w b (G.en A).wn (wset (G.en A).wf)
  | .lgs => b < w.heap.size
  | .und => b < w.heap.size
theorem mapIsW.sameB {w w' : World} {b n : Nat} {f : Nat → Option Value} (h : mapIsW w b n f) (hb : w'.heap[b]? = w.heap[b]?) : mapIsW w' b n f := h.same hb
theorem map_blkW {w : World} {b n : Nat} {f : Nat → Option Value} (h : mapIsW w b n f) : ∃ es c, w.heap[b]? = some (.map es c) := by
  obtain ⟨D, ⟨es, clock, e1, _⟩, _⟩ := h
  exact ⟨es, clock, e1⟩
theorem map_blkA {w : World} {b n : Nat} {f : Nat → Option Value} (h : mapIs w b n f) : ∃ es c, w.heap[b]? = some (.map es c) := by
  obtain ⟨D, ⟨es, clock, e1, _⟩, _⟩ := h
  exact ⟨es, clock, e1⟩
theorem holds.lt {w : World} {G : Gs} {b : Nat} {r : Role} (h : holds w G b r) : b < w.heap.size := by
  cases r with
  | stb => exact (Array.getElem?_eq_some_iff.1 h).1
  | amap => obtain ⟨es, c, e⟩ := map_blkA h; exact (Array.getElem?_eq_some_iff.1 e).1
  | acc A => exact (Array.getElem?_eq_some_iff.1 h).1
  | sto => obtain ⟨s, _, e⟩ := h; exact (Array.getElem?_eq_some_iff.1 e).1
  | now p => obtain ⟨s, _, e⟩ := h; obtain ⟨es, c, e⟩ := map_blkW e; exact (Array.getElem?_eq_some_iff.1 e).1
  | warm A => obtain ⟨es, c, e⟩ := map_blkW h; exact (Array.getElem?_eq_some_iff.1 e).1
  | lgs => exact h
  | und => exact h
theorem holds.same {w w' : World} {G : Gs} {b : Nat} {r : Role} (h : holds w G b r) (hb : w'.heap[b]? = w.heap[b]?) : holds w' G b r := by
  have hlt := h.lt
  have hlt' : b < w'.heap.size := by
    have : w.heap[b]? = some (w.heap[b]'hlt) := by simp [hlt]
    rw [this] at hb
    exact (Array.getElem?_eq_some_iff.1 hb).1
  cases r with
  | stb => exact hb.trans h
  | amap => exact mapIs.same h hb
  | acc A => exact hb.trans h
  | sto => obtain ⟨s, h1, e⟩ := h; exact ⟨s, h1, hb.trans e⟩
  | now p => obtain ⟨s, h1, e⟩ := h; exact ⟨s, h1, e.same hb⟩
  | warm A => exact mapIsW.same h hb
  | lgs => exact hlt'
  | und => exact hlt'
/-- What is so of an account in a state. -/
structure EntOk (Z : Hp) (G : Gs) (A : Nat) (e : Ent) : Prop where
  z : AccZ Z e.x
  ad : e.x.a.ad = A
  no : e.no < B
  ba : e.ba < M
  sp : (G.st e.sp).isSome = true
  wm : G.own e.wm = some (.warm A)
/-- And of what it has stored. -/
structure StoOk (Z : Hp) (s : Sto) : Prop where
  sl : s.so.length ≤ 1000000
  sM : ∀ k ∈ s.so, k.1 < M ∧ k.2 < M
  right : rightS s.so = true
  gM : ∀ k v, s.g k = some v → v < M
  at' : 0 < s.so.length → ∃ b off, s.qa = some ⟨b, off, none⟩ ∧ ∀ i k, s.so[i]? = some k → rng Z b (off + i * 8) (scs k)
/-- A state in memory: Z never changes, its own blocks do. -/
structure Core (Z : Hp) (base : Nat) (w : World) (G : Gs) : Prop where
  sub : Sub Z (hp w)
  zs : ∀ b r, G.own b = some r → Z b = none
  ge : ∀ b r, G.own b = some r → base ≤ b
  hold : ∀ b r, G.own b = some r → holds w G b r
  osb : G.own G.sb = some .stb
  oam : G.own G.am = some .amap
  mi : G.mi < 2 ^ 160
  uniq : ∀ b b' r, G.own b = some r → G.own b' = some r → r.uni = true → b = b'
  accs : ∀ b A, G.own b = some (.acc A) → G.ab A = some b
  warms : ∀ b A, G.own b = some (.warm A) → (G.ab A).isSome = true
  acc : ∀ A b, G.ab A = some b → A < 2 ^ 160 ∧ G.own b = some (.acc A) ∧ EntOk Z G A (G.en A)
  sto : ∀ p s, G.st p = some s → G.own p = some .sto ∧ G.own s.m = some (.now p) ∧ StoOk Z s
section
variable {Z : Hp} {base : Nat} {w : World} {G : Gs}
theorem Core.lt (h : Core Z base w G) {b : Nat} {r : Role} (hb : G.own b = some r) : b < w.heap.size := (h.hold b r hb).lt
theorem Core.ne (_h : Core Z base w G) {b b' : Nat} {r r' : Role} (hb : G.own b = some r) (hb' : G.own b' = some r') (hr : r ≠ r') : b ≠ b' := fun e => by
  rw [e, hb'] at hb
  injection hb with e2
  exact hr e2.symm
/-- Only one's own blocks matter. -/
theorem Core.frame {w' : World} (h : Core Z base w G) (hz : Sub Z (hp w')) (hb : ∀ b r, G.own b = some r → w'.heap[b]? = w.heap[b]?) : Core Z base w' G :=
  { h with
    sub := hz
    hold := fun b r hr => (h.hold b r hr).same (hb b r hr) }
theorem Core.below {w' : World} (h : Core Z base w G) (hb : Below w.heap.size w w') : Core Z base w' G :=
  h.frame (h.sub.trans (hp_below hb)) fun b _ hr => hb.block b (h.lt hr)
/-- More that never changes. -/
theorem Core.more {Z' : Hp} (h : Core Z base w G) (hz : Sub Z Z') (hs : Sub Z' (hp w)) (hn : ∀ b r, G.own b = some r → Z' b = none) : Core Z' base w G :=
  { h with
    sub := hs
    zs := hn
    acc := fun A b hb => by
      obtain ⟨h1, h2, h3⟩ := h.acc A b hb
      exact ⟨h1, h2, { h3 with z := h3.z.sub hz }⟩
    sto := fun p s hs => by
      obtain ⟨h1, h2, h3⟩ := h.sto p s hs
      refine ⟨h1, h2, { h3 with at' := fun hn => ?_ }⟩
      obtain ⟨b, off, e, hi⟩ := h3.at' hn
      exact ⟨b, off, e, fun i k hk => (hi i k hk).sub hz⟩ }
theorem Core.stc (h : Core Z base w G) : w.heap[G.sb]? = some (.cells (stC G).toArray 88) := h.hold _ _ h.osb
theorem Core.amp (h : Core Z base w G) : mapIs w G.am G.na (fun A => (G.ab A).map fun p => .pointer (some ⟨p, 0, none⟩)) := h.hold _ _ h.oam
theorem Core.acb (h : Core Z base w G) {A b : Nat} (hb : G.ab A = some b) : w.heap[b]? = some (.cells (entC (G.en A)).toArray 120) := h.hold _ _ (h.acc A b hb).2.1
theorem Core.stoAt (h : Core Z base w G) {p : Nat} {s : Sto} (hs : G.st p = some s) : StoAt w p s.so s.g s.n s.m := by
  obtain ⟨h1, h2, h3⟩ := h.sto p s hs
  obtain ⟨s1, e1, f1⟩ := h.hold _ _ h1
  rw [hs] at e1
  injection e1 with e1
  subst e1
  obtain ⟨s2, e2, f2⟩ := h.hold _ _ h2
  rw [hs] at e2
  injection e2 with e2
  subst e2
  exact ⟨⟨s.qa, s.c, f1, fun hn => by
    obtain ⟨b, off, e, hi⟩ := h3.at' hn
    exact ⟨b, off, e, fun i k hk => (hi i k hk).sub h.sub⟩⟩, h3.sl, h3.sM, h3.right, f2, h3.gM⟩
end
/-- The cells of a state. -/
theorem stc_cells {w : World} {G : Gs} (h : w.heap[G.sb]? = some (.cells (stC G).toArray 88)) :
    w.cell? ⟨G.sb, 0, none⟩ = some G.wv ∧ w.cell? ⟨G.sb, 1, none⟩ = some (.map (some G.am)) ∧ w.rangeAt G.sb 2 (aN G.mi).toList ∧ w.cell? ⟨G.sb, 22, none⟩ = some (.bool G.ms) ∧ w.cell? ⟨G.sb, 23, none⟩ = some (.int .i64 G.rf) ∧ w.cell? ⟨G.sb, 24, none⟩ = some G.lv ∧ w.cell? ⟨G.sb, 25, none⟩ = some G.uv := by
  have h1 := (rng_block h).at
  have hN : (aN G.mi).toList.length = 20 := by simp [aN_size]
  have g : ∀ j v, (stC G)[j]? = some v → w.cell? ⟨G.sb, j, none⟩ = some v := fun j v hv => by
    have := h1 j v hv
    rwa [Nat.zero_add] at this
  refine ⟨g 0 _ rfl, g 1 _ rfl, fun j v hv => ?_, g 22 _ ?_, g 23 _ ?_, g 24 _ ?_, g 25 _ ?_⟩
  · rw [show 2 + j = j + 2 by omega]
    refine g (j + 2) v ?_
    unfold stC
    simp only [List.cons_append, List.getElem?_cons_succ]
    rw [List.getElem?_append_left (List.getElem?_eq_some_iff.1 hv).1]
    exact hv
  all_goals
    unfold stC
    simp only [List.cons_append, List.getElem?_cons_succ]
    rw [List.getElem?_append_right (by omega), hN]
    rfl
/-- The cells of an account. -/
theorem ent_cells {w : World} {b : Nat} {e : Ent} {T : TypeId} (h : w.heap[b]? = some (.cells (entC e).toArray T)) :
    w.rangeAt b 0 (acs e.x) ∧ w.cell? ⟨b, 27, none⟩ = some (.int .u64 (e.no : Int)) ∧ w.rangeAt b 28 (wa e.ba).toList ∧ w.cell? ⟨b, 32, none⟩ = some (.string e.S) ∧ w.cell? ⟨b, 33, none⟩ = some (.pointer (some ⟨e.sp, 0, none⟩)) ∧ w.cell? ⟨b, 34, none⟩ = some (.bool e.wr) ∧ w.cell? ⟨b, 35, none⟩ = some (.map (some e.wm)) ∧ w.cell? ⟨b, 36, none⟩ = some (.bool e.ds) := by
  have h1 := (rng_block h).at
  have g : ∀ j v, (entC e)[j]? = some v → w.cell? ⟨b, j, none⟩ = some v := fun j v hv => by
    have := h1 j v hv
    rwa [Nat.zero_add] at this
  have hl := acs_len e.x
  have hw : (wa e.ba).toList.length = 4 := by simp [wa_size]
  have k : ∀ j v, (.int .u64 (e.no : Int) :: (wa e.ba).toList ++ [.string e.S, .pointer (some ⟨e.sp, 0, none⟩), .bool e.wr, .map (some e.wm), .bool e.ds] : List Value)[j]? = some v → (entC e)[27 + j]? = some v := fun j v hv => by
    unfold entC acct
    rw [List.getElem?_append_right (by omega), hl, show 27 + j - 27 = j by omega]
    exact hv
  have k5 : ∀ j v, ([.string e.S, .pointer (some ⟨e.sp, 0, none⟩), .bool e.wr, .map (some e.wm), .bool e.ds] : List Value)[j]? = some v → (entC e)[32 + j]? = some v := fun j v hv => by
    have := k (5 + j) v (by
      simp only [List.cons_append, show 5 + j = (4 + j) + 1 by omega, List.getElem?_cons_succ]
      rw [List.getElem?_append_right (by omega), hw, show 4 + j - 4 = j by omega]
      exact hv)
    rwa [show 27 + (5 + j) = 32 + j by omega] at this
  refine ⟨fun j v hv => ?_, g 27 _ (k 0 _ rfl), fun j v hv => ?_, g 32 _ (k5 0 _ rfl), g 33 _ (k5 1 _ rfl), g 34 _ (k5 2 _ rfl), g 35 _ (k5 3 _ rfl), g 36 _ (k5 4 _ rfl)⟩
  · rw [Nat.zero_add]
    refine g j v ?_
    unfold entC acct
    rw [List.getElem?_append_left (List.getElem?_eq_some_iff.1 hv).1]
    exact hv
  · rw [show 28 + j = 27 + (1 + j) by omega]
    refine g _ v (k (1 + j) v ?_)
    simp only [List.cons_append, show 1 + j = j + 1 by omega, List.getElem?_cons_succ]
    rw [List.getElem?_append_left (List.getElem?_eq_some_iff.1 hv).1]
    exact hv
end Go.Proofs.YtnjeoeekidnffaaGreat
