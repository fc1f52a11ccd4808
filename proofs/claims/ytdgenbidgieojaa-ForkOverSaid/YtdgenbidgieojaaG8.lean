/- StorePlays, its parts: the document's Less. -/
import Derived.Test.YtdgenbidgieojaaG4
import Derived.Test.YtdgenbidgieojaaG6
import Derived.Test.YtdgenbidgieojaaG7
namespace Go.Proofs.Ytdgenbidgieojaa
open Go.RowKit SmWord
set_option maxRecDepth 100000

set_option maxHeartbeats 1000000 in
theorem less08_walk (A C : Nat) (w : World) :
    Calls Try.prog 45 #[.agg (aN A), .agg (aN C)] w fun e w' => e = .returned (.bool (decide (lx (ab A) (ab C) 20 0 = -1))) ∧ Below w.heap.size w w' := by
  have f0 : ((w.alloc (.cells (aN A) 32)).alloc (.cells (aN C) 32)).heap[w.heap.size]? = some (.cells (aN A) 32) := blk_alloc (heap_alloc_new _ _)
  have f1 : ((w.alloc (.cells (aN A) 32)).alloc (.cells (aN C) 32)).heap[w.heap.size + 1]? = some (.cells (aN C) 32) := heap_alloc2_new _ _ _
  have bW : Below w.heap.size w ((w.alloc (.cells (aN A) 32)).alloc (.cells (aN C) 32)) := ((Below.refl _ _).alloc (Nat.le_refl _) _).alloc (by simp) _
  go_enter Try.func45, Try.ntmps45
  go_wp2_with fail
  generalize ((w.alloc (.cells (aN A) 32)).alloc (.cells (aN C) 32)) = W at *
  go_loopw [5] (fun i wr => ∃ k : Nat, k ≤ 20 ∧ i = .int .i64 k ∧ Hid (lx (ab A) (ab C) 20 0 = lx (ab A) (ab C) (20 - k) k) ∧ Below w.heap.size w wr ∧ wr.heap[w.heap.size]? = some (.cells (aN A) 32) ∧ wr.heap[w.heap.size + 1]? = some (.cells (aN C) 32)) (fun i _ => 20 - (intOf i).toNat)
  case atStart => exact ⟨0, Nat.zero_le _, rfl, Lib.hid rfl, bW, f0, f1⟩
  case round =>
    obtain ⟨k, hk, rfl, HL, hb, ha, hr⟩ := hrel
    clear f0 f1 bW
    by_cases hlt : k < 20
    · have c0 := blk_cell ha (arr_get .u8 (fun i => ((ab A i : Nat) : Int)) hlt)
      have c1 := blk_cell hr (arr_get .u8 (fun i => ((ab C i : Nat) : Int)) hlt)
      have HA := Lib.hid ha
      have HR := Lib.hid hr
      have HB := Lib.hid hb
      have hl : lx (ab A) (ab C) (20 - k) k = if ab A k < ab C k then -1 else if ab C k < ab A k then 1 else lx (ab A) (ab C) (20 - (k + 1)) (k + 1) := by
        rw [show 20 - k = (20 - (k + 1)) + 1 by omega, lx]
      clear ha hr hb
      have cell : ∀ (g : Ext wr) {b o : Nat} {v : Value}, wr.cell? ⟨b, o, none⟩ = some v → g.on.cell? ⟨b, o, none⟩ = some v := fun g b o v h => (g.below.cell (p := ⟨b, o, none⟩) (by simpa using World.block_lt_of_cell? wr _ h)).trans h
      by_cases e : ab A k = ab C k
      · have HL2 := Lib.hid (HL.out.trans (hl.trans (by rw [e, if_neg (Nat.lt_irrefl _), if_neg (Nat.lt_irrefl _)])))
        clear hl HL
        rw [e] at c0
        have t1 := fun g => cell g c0
        have t2 := fun g => cell g c1
        clear cell c0 c1
        go_wp2_with fail
        refine region_ext (by kernel_rfl) (by kernel_rfl) ?_
        repeat (go_big_quiet_step (fail))
        refine wpQuiet_nil ?_
        rintro w' ⟨gg, rfl⟩
        have HA2 := Lib.hid (gg.block HA.out)
        have HR2 := Lib.hid (gg.block HR.out)
        have HB2 := Lib.hid (HB.out.trans (gg.below.mono HB.out.size))
        clear HA HR HB t1 t2
        go_wp2_with fail
        exact ⟨⟨k + 1, by omega, by go_num, HL2, HB2.out, HA2.out, HR2.out⟩, by simp [intOf]; omega⟩
      · have HL2 := Lib.hid (HL.out.trans hl)
        have hne : ((ab A k : Int) != (ab C k : Int)) = true := by simp; omega
        have hdec : decide (ab A k < ab C k) = decide (lx (ab A) (ab C) 20 0 = -1) := by
          rw [HL2.out]
          by_cases h1 : ab A k < ab C k
          · rw [if_pos h1]; simp; omega
          · rw [if_neg h1, if_pos (by omega)]; simp; omega
        have HD := Lib.hid hdec
        clear hl HL HL2 hdec
        have t1 := fun g => cell g c0
        have t2 := fun g => cell g c1
        clear cell c0 c1
        go_wp2_with fail
        refine region_ext (by kernel_rfl) (by kernel_rfl) ?_
        repeat (go_big_quiet_step (fail))
        refine wpQuiet_nil ?_
        rintro w' ⟨gg, rfl⟩
        have c0 := t1 gg
        have c1 := t2 gg
        have HB2 := Lib.hid (HB.out.trans (gg.below.mono HB.out.size))
        clear t1 t2 HA HR HB
        generalize gg.on = wg at *
        clear gg
        go_wp2_with fail
        refine region_ext (by kernel_rfl) (by kernel_rfl) ?_
        have cell : ∀ (g : Ext wg) {b o : Nat} {v : Value}, wg.cell? ⟨b, o, none⟩ = some v → g.on.cell? ⟨b, o, none⟩ = some v := fun g b o v h => (g.below.cell (p := ⟨b, o, none⟩) (by simpa using World.block_lt_of_cell? wg _ h)).trans h
        have t1 := fun g => cell g c0
        have t2 := fun g => cell g c1
        clear cell c0 c1
        repeat (go_big_quiet_step (fail))
        refine wpQuiet_nil ?_
        rintro w' ⟨gh, rfl⟩
        have HB3 := Lib.hid (HB2.out.trans (gh.below.mono HB2.out.size))
        clear t1 t2 HB2
        go_wp2_with fail
        go_ret
        exact ⟨by rw [← HD.out]; rfl, HB3.out⟩
    · obtain rfl : k = 20 := by omega
      have hdec : decide (lx (ab A) (ab C) 20 0 = -1) = false := by rw [HL.out]; rfl
      have HD := Lib.hid hdec
      have HB := Lib.hid hb
      clear hdec HL ha hr hb
      go_wp2_with fail
      go_ret
      exact ⟨by rw [HD.out]; rfl, HB.out⟩
theorem less_ad {A C : Nat} (hA : A < 2 ^ 160) (hC : C < 2 ^ 160) : (decide (lx (ab A) (ab C) 20 0 = -1)) = decide (A < C) := by
  have h := lx_ab A C 20 (Nat.le_refl _)
  rw [Nat.sub_self, Nat.mod_eq_of_lt (by simpa using hA), Nat.mod_eq_of_lt (by simpa using hC)] at h
  rw [h]
  unfold cmpN
  by_cases h1 : A < C
  · simp [h1]
  · by_cases h2 : C < A <;> simp [h1, h2]
end Go.Proofs.Ytdgenbidgieojaa
/- StorePlays, its parts: the document's Find. -/
namespace Go.Proofs.Ytdgenbidgieojaa
open Go.RowKit SmWord
set_option maxRecDepth 100000

theorem eq_ad (A C : Nat) (hA : A < 2 ^ 160) (hC : C < 2 ^ 160) (w : World) : (Op.equalIn 10000 32 (.agg (aN A)) (.agg (aN C))).run Try.prog w = .ok (decide (A = C)) w := by
  obtain ⟨r, hr, hiff⟩ := equal_at 9998 (k := .u8) Try.underlying32 Try.underlying5 cells8 (aN A) (aN C) (aN_size A) (aN_size C) (fun i hi =>
    ⟨_, _, arr_get .u8 (n := 20) (fun i => ((ab A i : Nat) : Int)) hi, arr_get .u8 (n := 20) (fun i => ((ab C i : Nat) : Int)) hi⟩) w
  rw [hr]
  by_cases e : A = C
  · subst e
    rw [hiff.2 rfl]
    simp
  · cases r
    · simp [e]
    · exact absurd (aN_inj hA hC (hiff.1 rfl)) e
theorem acs_rng {Z : Hp} {b o : Nat} {x : AV} (h : rng Z b o (acs x)) : rng Z b o (aN x.a.ad).toList := by
  have := h.part 0 (aN x.a.ad).toList (acs_ad x)
  rwa [Nat.add_zero] at this
theorem look_at {l : List AV} {k A : Nat} {x : AV} (ho : ∀ x ∈ l.take k, x.a.ad ≠ A) (hx : l[k]? = some x) (hA : x.a.ad = A) : lookA (l.map AV.a) A = some x.a := by
  have hl : l = l.take k ++ x :: l.drop (k + 1) := by
    have h1 := List.take_append_drop k l
    have hk : k < l.length := (List.getElem?_eq_some_iff.1 hx).1
    have h2 : l.drop k = x :: l.drop (k + 1) := by
      rw [List.drop_eq_getElem_cons hk]
      congr 1
      exact (List.getElem?_eq_some_iff.1 hx).2
    rw [h2] at h1
    exact h1.symm
  rw [hl]
  unfold lookA
  rw [List.map_append, List.find?_append]
  have : (List.map AV.a (l.take k)).find? (fun y => y.ad == A) = none := by
    rw [List.find?_eq_none]
    intro y hy
    obtain ⟨z, hz, rfl⟩ := List.mem_map.1 hy
    simp [ho z hz]
  rw [this]
  simp [hA]
theorem look_none {l : List AV} {A : Nat} (ho : ∀ x ∈ l, x.a.ad ≠ A) : lookA (l.map AV.a) A = none :=
  lookA_none_of fun y hy => by
    obtain ⟨z, hz, rfl⟩ := List.mem_map.1 hy
    exact ho z hz
/-- What the document's Find finds. -/
def findO (l : List AV) (A : Nat) : Option AV := l.find? fun x => x.a.ad == A
def findV (l : List AV) (A : Nat) : AV := (findO l A).getD noneAV
theorem findO_at {l : List AV} {k A : Nat} {x : AV} (ho : ∀ x ∈ l.take k, x.a.ad ≠ A) (hx : l[k]? = some x) (hA : x.a.ad = A) : findO l A = some x := by
  have hl : l = l.take k ++ x :: l.drop (k + 1) := by
    have h1 := List.take_append_drop k l
    have hk : k < l.length := (List.getElem?_eq_some_iff.1 hx).1
    have h2 : l.drop k = x :: l.drop (k + 1) := by
      rw [List.drop_eq_getElem_cons hk]
      congr 1
      exact (List.getElem?_eq_some_iff.1 hx).2
    rw [h2] at h1
    exact h1.symm
  rw [hl]
  unfold findO
  rw [List.find?_append]
  have : (l.take k).find? (fun y => y.a.ad == A) = none := by
    rw [List.find?_eq_none]
    intro y hy
    simp [ho y hy]
  rw [this]
  simp [hA]
theorem findO_none {l : List AV} {A : Nat} (ho : ∀ x ∈ l, x.a.ad ≠ A) : findO l A = none := by
  unfold findO
  rw [List.find?_eq_none]
  intro y hy
  simp [ho y hy]
theorem findO_look (l : List AV) (A : Nat) : lookA (l.map AV.a) A = (findO l A).map AV.a := by
  unfold lookA findO
  rw [List.find?_map]
  rfl
theorem findV_a (l : List AV) (A : Nat) : (findV l A).a = (lookA (l.map AV.a) A).getD noneAV.a := by
  rw [findO_look]
  unfold findV
  cases findO l A <;> rfl
theorem findO_has (l : List AV) (A : Nat) : (findO l A).isSome = (lookA (l.map AV.a) A).isSome := by rw [findO_look]; cases findO l A <;> rfl
theorem findV_z {Z : Hp} {v : Value} {l : List AV} (h : AccsZ Z v l) (A : Nat) : AccZ Z (findV l A) := by
  unfold findV
  cases hf : findO l A with
  | none => exact noneZ Z
  | some x => exact h.each x (List.mem_of_find?_eq_some hf)
set_option maxHeartbeats 2000000 in
theorem rfind_walk (v : Value) (l : List AV) (A : Nat) (w : World) (h : AccsZ (hp w) v l) (hl : l.length ≤ 1000000) (hA : A < 2 ^ 160) :
    Calls Try.prog 17 #[v, .agg (aN A)] w fun e w' => e = .returned (.tuple #[aval (findV l A), .bool (findO l A).isSome]) ∧ Below w.heap.size w w' := by
  obtain ⟨P, c, rfl, hn, hc, hP, hcells⟩ := h.row.one (fun x _ => acs_len x)
  have HX := Lib.hid h.each
  have HAd := Lib.hid hA
  clear hA
  generalize hN : l.length = n at *
  have HN := Lib.hid hN
  have HC : Hid (0 < n → ∃ b off, P = some ⟨b, off, none⟩ ∧ ∀ i x, l[i]? = some x → rng (hp w) b (off + i * 27) (acs x)) := Lib.hid fun hn => by
    obtain ⟨b, off, e, _, hi⟩ := hcells hn
    exact ⟨b, off, e, hi⟩
  clear hcells h hN
  have hs := aN_size A
  have hnn : (acs noneAV).toArray.size = 27 := by simp [acs_len]
  obtain ⟨W, hW, f0, f1, bW, sW⟩ := fboxes w A
  have HB := Lib.hid bW
  have F0 := Lib.hid f0
  have F1 := Lib.hid f1
  clear f0 f1 bW
  go_enter Try.func17, Try.ntmps17
  go_upto_region 1 with (refine wpList_alloc_row rfl 39 rfl _ zeroAcc ?_)
  clear hW
  go_wp2_with fail
  go_loopw [9] (fun i wr => ∃ k : Nat, k ≤ n ∧ i = .int .i64 k ∧ Hid (∀ x ∈ l.take k, x.a.ad ≠ A) ∧ Hid (Below W.heap.size W wr)) (fun i _ => n - (intOf i).toNat)
  case atStart => exact ⟨0, Nat.zero_le _, rfl, Lib.hid (fun x hx => by simp at hx), Lib.hid (Below.refl _ _)⟩
  case round =>
    obtain ⟨k, hk, rfl, HO, HW⟩ := hrel
    have bwr : Below w.heap.size w wr := HB.out.trans (HW.out.mono HB.out.size)
    have BW := Lib.hid bwr
    by_cases hlt : k < n
    · obtain ⟨b, off, rfl, hi⟩ := HC.out (by omega)
      obtain ⟨x, hx⟩ : ∃ x, l[k]? = some x := ⟨l[k]'(by rw [HN.out]; exact hlt), by simp⟩
      have HXx := Lib.hid (HX.out x (List.mem_of_getElem? hx))
      have HRg := Lib.hid (hi k _ hx)
      have HXg := Lib.hid hx
      have r0 := fun g : Ext wr => (acs_rng (HRg.out.sub (hp_below (bwr.trans (g.below.mono bwr.size))))).at
      have r1 := fun g : Ext wr => adblk (g.block (stay HW.out F0.out))
      have eq := eq_ad x.a.ad A HXx.out.ad HAd.out
      clear hi hx bwr
      go_upto_region 4 with fail
      refine region_ext (by kernel_rfl) (by kernel_rfl) ?_
      repeat (first
        | (go_big_quiet_want; refine quiet_load_mid 32 _ rfl b (off + k * 27) (aN x.a.ad).toList rfl (fun w2 hw2 => by obtain ⟨g1, rfl⟩ := hw2; exact r0 g1) Try.underlying32 rfl (infoAd _) ?_; simp only [Act.put, List.setIfInBounds_toArray, List.set_cons_succ, List.set_cons_zero, Array.toArray_toList]; go_big_quiet_on)
        | (go_big_quiet_want; refine quiet_load_mid 32 _ rfl w.heap.size 0 (aN A).toList rfl (fun w2 hw2 => by obtain ⟨g1, rfl⟩ := hw2; exact r1 g1) Try.underlying32 rfl (infoAd _) ?_; simp only [Act.put, List.setIfInBounds_toArray, List.set_cons_succ, List.set_cons_zero, Array.toArray_toList]; go_big_quiet_on)
        | go_big_quiet_step (fail))
      refine wpQuiet_nil ?_
      rintro w' ⟨gg, rfl⟩
      have HG := Lib.hid gg.below
      have HWg := Lib.hid (HW.out.trans (gg.below.mono HW.out.size))
      have HBg := Lib.hid (BW.out.trans (gg.below.mono BW.out.size))
      have F1g := Lib.hid (stay (HW.out.trans (gg.below.mono HW.out.size)) F1.out)
      have r2 := (HRg.out.sub (hp_below HBg.out)).at
      clear r0 r1 eq HG
      generalize gg.on = wg at *
      have one := HXx.out.ones
      by_cases e : x.a.ad = A
      · rw [decide_eq_true e]
        have HE := Lib.hid e
        clear e
        go_wp2_with (first
          | (refine wpList_load_mid rfl 39 _ rfl b _ rfl (acs x) _ r2 Try.underlying39 rfl (infoAcs _) ?_)
          | (refine wpList_store_row rfl 39 _ _ rfl (w.heap.size + 1) _ (acs x).toArray rfl rfl F1g.out (by simpa using infoAcs _) (by simp [acs_len]) one ?_))
        refine bodyPost_ret (v := .tuple #[.agg (acs x).toArray, .bool true]) (results_cs rfl _ _ _ 39 _ (0, 0) _ (.bool true) rfl (blk_row F1g.out) Try.underlying39 rfl (by simpa using infoAcs _) rfl) rfl ?_
        have hb := below_setRow HBg.out (show w.heap.size ≤ w.heap.size + 1 by omega) (acs x).toArray
        exact ⟨by unfold findV; rw [findO_at HO.out HXg.out HE.out]; rfl, hb⟩
      · rw [decide_eq_false e]
        have HE := Lib.hid e
        clear e
        go_wp2_with fail
        exact ⟨⟨k + 1, by omega, by go_num, Lib.hid (fun y hy => by
          rw [List.take_add_one, HXg.out] at hy
          rcases List.mem_append.1 hy with hy | hy
          · exact HO.out y hy
          · simp at hy
            subst hy
            exact HE.out), HWg⟩, by simp [intOf]; omega⟩
    · obtain rfl : k = n := by omega
      have F1g := Lib.hid (stay HW.out F1.out)
      go_wp2_with (first
        | (refine wpList_store_row rfl 39 _ _ rfl (w.heap.size + 1) _ (acs noneAV).toArray rfl rfl F1g.out (by simpa using infoAcs _) rfl (noneZ (fun _ => none)).ones ?_))
      have hln : findO l A = none := findO_none (fun x hx => HO.out x (by rw [List.take_of_length_le (by rw [HN.out]; exact Nat.le_refl _)]; exact hx))
      refine bodyPost_ret (v := .tuple #[.agg (acs noneAV).toArray, .bool false]) (results_cs rfl _ _ _ 39 _ (0, 0) _ (.bool false) rfl (blk_row F1g.out) Try.underlying39 rfl (by simpa using infoAcs _) rfl) rfl ?_
      exact ⟨by unfold findV; rw [hln]; rfl, below_setRow BW.out (by omega) _⟩
end Go.Proofs.Ytdgenbidgieojaa
/- StorePlays, its parts: putting an account into its place, step by step, plainly. -/
namespace Go.Proofs.Ytdgenbidgieojaa
open SmWord

/-- One step of the document's Put: what is written so far, and whether x is in it. -/
def pstep (x : AV) (st : List AV × Bool) (y : AV) : List AV × Bool :=
  let st1 := if !st.2 && decide (x.a.ad < y.a.ad) then (st.1 ++ [x], true) else st
  if y.a.ad = x.a.ad then (st1.1 ++ [x], true) else (st1.1 ++ [y], st1.2)
def pfold (x : AV) (l : List AV) : List AV × Bool := l.foldl (pstep x) ([], false)
def pdone (x : AV) (st : List AV × Bool) : List AV := if st.2 then st.1 else st.1 ++ [x]
/-- Into its place. -/
def putV (x : AV) : List AV → List AV
  | [] => [x]
  | y :: l => if x.a.ad < y.a.ad then x :: y :: l else if y.a.ad = x.a.ad then x :: l else y :: putV x l
theorem putV_map (x : AV) : ∀ l : List AV, (putV x l).map AV.a = putA x.a (l.map AV.a)
  | [] => rfl
  | y :: l => by
    unfold putV
    rw [List.map_cons]
    unfold putA
    split
    · rfl
    · split
      · rfl
      · rw [List.map_cons, putV_map x l]
theorem pfold_snoc (x : AV) (l : List AV) (y : AV) : pfold x (l ++ [y]) = pstep x (pfold x l) y := by
  unfold pfold
  rw [List.foldl_append]
  rfl
/-- Behind x's place all is copied. -/
theorem pfold_after (x : AV) : ∀ (l : List AV) (out : List AV), (∀ y ∈ l, x.a.ad < y.a.ad) → l.foldl (pstep x) (out, true) = (out ++ l, true)
  | [], out, _ => by simp
  | y :: l, out, h => by
    have hy := h y (by simp)
    rw [List.foldl_cons]
    have : pstep x (out, true) y = (out ++ [y], true) := by
      have hne : ¬ y.a.ad = x.a.ad := by omega
      simp [pstep, hne]
    rw [this, pfold_after x l (out ++ [y]) (fun z hz => h z (by simp [hz]))]
    simp
theorem pfold_put (x : AV) : ∀ (l out : List AV), Srt (l.map AV.a) → pdone x (l.foldl (pstep x) (out, false)) = out ++ putV x l
  | [], out, _ => by simp [pdone, putV]
  | y :: l, out, h => by
    rw [List.map_cons] at h
    obtain ⟨h1, h2⟩ := List.pairwise_cons.1 h
    have hl : ∀ z ∈ l, y.a.ad < z.a.ad := fun z hz => h1 _ (List.mem_map_of_mem hz)
    rw [List.foldl_cons]
    unfold putV
    by_cases e1 : x.a.ad < y.a.ad
    · have : pstep x (out, false) y = (out ++ [x] ++ [y], true) := by
        unfold pstep
        simp [e1]
        omega
      rw [this, pfold_after x l _ (fun z hz => by have := hl z hz; omega), if_pos e1]
      simp [pdone]
    · rw [if_neg e1]
      by_cases e2 : y.a.ad = x.a.ad
      · have : pstep x (out, false) y = (out ++ [x], true) := by
          unfold pstep
          simp [e2]
        rw [this, pfold_after x l _ (fun z hz => by have := hl z hz; omega), if_pos e2]
        simp [pdone]
      · have : pstep x (out, false) y = (out ++ [y], false) := by
          unfold pstep
          simp [e1, e2]
        rw [this, if_neg e2, pfold_put x l (out ++ [y]) h2]
        simp
end Go.Proofs.Ytdgenbidgieojaa
/- A row of one account. -/
namespace Go.Proofs.Ytdgenbidgieojaa
open Go.RowKit SmWord
set_option maxRecDepth 100000

theorem infoA27 : (Try.prog.info? 39).map (fun i => (i.zero, i.size, i.bytes)) = some (some (.agg (acs noneAV).toArray), 27, 112) := by kernel_rfl
theorem rowOne {w : World} {x : AV} {b : Nat} (h : w.heap[b]? = some (.cells (acs x).toArray 39)) : RowZ (hp w) (.slice (some ⟨b, 0, none⟩) 1 1) 1 27 (acs x) :=
  ⟨by simp [acs_len], some ⟨b, 0, none⟩, 1, rfl, Nat.le_refl _, by simp [maxLen], fun h => by simp at h, fun _ => ⟨b, 0, rfl, by simpa using rng_block h⟩⟩
theorem own_empty (w : World) (base : Nat) (hb : base ≤ w.heap.size) : (w.alloc (.cells #[] 39)).ownsRow base 39 27 (.slice (some ⟨w.heap.size, 0, none⟩) 0 0) 0 [] :=
  ⟨rfl, .inr ⟨w.heap.size, 0, #[], rfl, hb, heap_alloc_new _ _, Nat.le_refl _, by simp [maxLen], rfl, rfl⟩⟩
end Go.Proofs.Ytdgenbidgieojaa
/- StorePlays, its parts: the document's Put, walked. -/
namespace Go.Proofs.Ytdgenbidgieojaa
open Go.RowKit SmWord
set_option maxRecDepth 100000

theorem own_base {w : World} {b1 b2 : Nat} {e : TypeId} {k n : Nat} {v : Value} {xs : List Value} (h : w.ownsRow b1 e k v n xs) (hb : b2 ≤ b1) : w.ownsRow b2 e k v n xs := by
  refine ⟨h.1, ?_⟩
  rcases h.2 with h' | ⟨g, cap, cur, e1, h1, h2⟩
  · exact .inl h'
  · exact .inr ⟨g, cap, cur, e1, Nat.le_trans hb h1, h2⟩
theorem pfold_len (x : AV) : ∀ (l : List AV), (pfold x l).1.length ≤ 2 * l.length := by
  intro l
  have : ∀ (l : List AV) (st : List AV × Bool), (l.foldl (pstep x) st).1.length ≤ st.1.length + 2 * l.length := by
    intro l
    induction l with
    | nil => intro st; simp
    | cons y l ih =>
      intro st
      rw [List.foldl_cons]
      refine Nat.le_trans (ih _) ?_
      have : (pstep x st y).1.length ≤ st.1.length + 2 := by
        unfold pstep
        by_cases h1 : (!st.2 && decide (x.a.ad < y.a.ad)) = true <;> by_cases h2 : y.a.ad = x.a.ad <;> simp only [h1, h2, if_true, if_false, List.length_append, List.length_singleton] <;> simp <;> omega
      simp
      omega
  simpa [pfold] using this l ([], false)
set_option maxHeartbeats 4000000 in
theorem rput_walk (v : Value) (l : List AV) (x : AV) (w : World) (h : AccsZ (hp w) v l) (hx : AccZ (hp w) x) (hl : l.length ≤ 1000000) :
    Calls Try.prog 32 #[v, aval x] w fun e w' => ∃ val, e = .returned val ∧ w'.ownsRow w.heap.size 39 27 val (pdone x (pfold x l)).length ((pdone x (pfold x l)).flatMap acs) ∧ Below w.heap.size w w' := by
  unfold aval
  have hs : (acs x).toArray.size = 27 := by simp [acs_len]
  have f27 := fold27 x
  obtain ⟨P, c, rfl, hn, hc, hP, hcells⟩ := h.row.one (fun x _ => acs_len x)
  have HX := Lib.hid h.each
  have HXx := Lib.hid hx
  have OneX := Lib.hid (oneA x hx.cod.oneCell hx.sto.oneCell)
  generalize hN : l.length = n at *
  have HN := Lib.hid hN
  have HC : Hid (0 < n → ∃ b off, P = some ⟨b, off, none⟩ ∧ ∀ i x, l[i]? = some x → rng (hp w) b (off + i * 27) (acs x)) := Lib.hid fun hn => by
    obtain ⟨b, off, e, _, hi⟩ := hcells hn
    exact ⟨b, off, e, hi⟩
  clear hcells h hN hx
  obtain ⟨f0, bW⟩ := boxA w x
  obtain ⟨W, hW⟩ : ∃ W, w.alloc (.cells (acs x).toArray 39) = W := ⟨_, rfl⟩
  rw [hW] at f0 bW
  have sW : W.heap.size = w.heap.size + 1 := by rw [← hW]; simp
  obtain ⟨V, hV⟩ : ∃ V, W.alloc (.cells #[] 39) = V := ⟨_, rfl⟩
  have HO0 : Hid (V.ownsRow W.heap.size 39 27 (.slice (some ⟨w.heap.size + 1, 0, none⟩) 0 0) 0 []) := Lib.hid (sW ▸ hV ▸ own_empty W W.heap.size (Nat.le_refl _))
  have HV0 : Hid (Below W.heap.size W V) := Lib.hid (hV ▸ (Below.refl _ _).alloc (Nat.le_refl _) _)
  have HB := Lib.hid bW
  have F0 := Lib.hid f0
  clear f0 bW
  go_enter Try.func32, Try.ntmps32
  go_upto_region 3 with fail
  clear hW hV
  go_wp2_with fail
  go_loopw [5, 6, 11] (fun u d i wr => ∃ k : Nat, k ≤ n ∧ i = .int .i64 k ∧ d = .bool (pfold x (l.take k)).2 ∧ Hid (wr.ownsRow W.heap.size 39 27 u (pfold x (l.take k)).1.length ((pfold x (l.take k)).1.flatMap acs)) ∧ Hid (Below W.heap.size W wr)) (fun _ _ i _ => n - (intOf i).toNat)
  case atStart => exact ⟨0, Nat.zero_le _, rfl, rfl, HO0, HV0⟩
  case round =>
    obtain ⟨k, hk, rfl, rfl, HO, HW⟩ := hrel
    obtain ⟨A1, c1, e1⟩ := own_sl HO.out
    subst e1
    have BW : Hid (Below w.heap.size w wr) := Lib.hid (HB.out.trans (HW.out.mono HB.out.size))
    by_cases hlt : k < n
    · obtain ⟨b, off, rfl, hi⟩ := HC.out (by omega)
      obtain ⟨y, hy⟩ : ∃ y, l[k]? = some y := ⟨l[k]'(by rw [HN.out]; exact hlt), by simp⟩
      have HYy := Lib.hid (HX.out y (List.mem_of_getElem? hy))
      have OneY := Lib.hid (oneA y HYy.out.cod.oneCell HYy.out.sto.oneCell)
      have HRg := Lib.hid (hi k _ hy)
      have HYg := Lib.hid hy
      have y27 := fold27 y
      have sy27 : (acs y).toArray.size = 27 := by simp [acs_len]
      have HStep : Hid (pfold x (l.take (k + 1)) = pstep x (pfold x (l.take k)) y) := Lib.hid (by rw [List.take_add_one, hy]; exact pfold_snoc x _ y)
      have hlen : (pfold x (l.take k)).1.length ≤ 2000000 := by have := pfold_len x (l.take k); simp at this; omega
      generalize pfold x (l.take k) = st at *
      obtain ⟨so, sd⟩ := st
      simp only at hlen HO ⊢
      have r0 := fun g : Ext wr => (acs_rng (HRg.out.sub (hp_below (BW.out.trans (g.below.mono BW.out.size))))).at
      have r1 := fun g : Ext wr => (acs_rng (rng_block (cs := acs x) (g.block (stay HW.out F0.out)))).at
      have KL := Lib.hid fun g : Ext wr => less08_walk x.a.ad y.a.ad g.on
      rw [less_ad HXx.out.ad HYy.out.ad] at KL
      have hzr := HW.out.size
      clear hi hy
      go_upto_region 6 with fail
      cases sd
      · by_cases e1 : x.a.ad < y.a.ad
        · have e2 : ¬ y.a.ad = x.a.ad := by omega
          rw [decide_eq_true e1] at KL
          have E2 := Lib.hid e2
          clear e2
          refine region_ext (by kernel_rfl) (by kernel_rfl) ?_
          repeat (first
              | (go_big_quiet_want; refine quiet_load_mid 32 _ rfl b (off + k * 27) (aN y.a.ad).toList rfl (fun w2 hw2 => by obtain ⟨g1, rfl⟩ := hw2; exact r0 g1) Try.underlying32 rfl (infoAd _) ?_; simp only [Act.put, List.setIfInBounds_toArray, List.set_cons_succ, List.set_cons_zero, Array.toArray_toList]; go_big_quiet_on)
              | (go_big_quiet_want; refine quiet_load_mid 32 _ rfl w.heap.size 0 (aN x.a.ad).toList rfl (fun w2 hw2 => by obtain ⟨g1, rfl⟩ := hw2; exact r1 g1) Try.underlying32 rfl (infoAd _) ?_; simp only [Act.put, List.setIfInBounds_toArray, List.set_cons_succ, List.set_cons_zero, Array.toArray_toList]; go_big_quiet_on)
              | go_big_quiet_step (first | (go_at_call 45; with_reducible exact calls_ext (KL.out _))))
          refine wpQuiet_nil ?_
          rintro w' ⟨gg, rfl⟩
          have bb6 := gg.below
          have HW6 := Lib.hid (HW.out.trans (bb6.mono HW.out.size))
          have HO6 := Lib.hid (own_same HO.out (fun b hb => bb6.block b (HO.out.lt b hb).2))
          clear r0 r1 KL bb6
          generalize gg.on = w6 at *
          have hk1 := hk
          have rl7 := (rng_block (cs := acs x) (stay HW6.out F0.out)).at
          have ba7 : Below w6.heap.size w6 (w6.alloc (.cells (acs x).toArray 39)) := (Below.refl _ _).alloc (Nat.le_refl _) _
          have HA7 := Lib.hid (own_same HO6.out (fun b hb => ba7.block b (HO6.out.lt b hb).2))
          have HQ7 := Lib.hid (rowOne (heap_alloc_new w6 (.cells (acs x).toArray 39)))
          have HC7 := Lib.hid (HW6.out.trans (ba7.mono HW6.out.size))
          have hz7 := HW6.out.size
          clear ba7
          go_upto_region 9 with (first
            | (refine wpList_load_mid rfl 39 _ rfl w.heap.size 0 rfl (acs x) _ rl7 Try.underlying39 rfl (infoAcs _) ?_)
            | (refine append_row rfl _ _ 25 rfl 39 (.agg (acs noneAV).toArray) 27 112 Try.underlying25 infoA27 (by simp [Value.cells, acs_len]) (by decide) (by decide) W.heap.size _ so.length (so.flatMap acs) rfl HA7.out (.slice (some ⟨w6.heap.size, 0, none⟩) 1 1) 1 (acs x) rfl HQ7.out OneX.out (by omega) (by simp; omega) ?_
               intro v7 w7 ho7 hg7 hl7
               have HO7 := Lib.hid ho7
               have HW7 : Hid (Below W.heap.size W w7) := Lib.hid (HC7.out.grown hg7 (by simp; omega) (fun k hk => (HA7.out.lt k hk).1))
               obtain ⟨A7, c7, rfl⟩ := own_sl ho7
               clear ho7 hg7 hl7 rl7))
          have BW7 : Hid (Below w.heap.size w w7) := Lib.hid (HB.out.trans (HW7.out.mono HB.out.size))
          have r0 := fun g : Ext w7 => (acs_rng (HRg.out.sub (hp_below (BW7.out.trans (g.below.mono BW7.out.size))))).at
          have r1 := fun g : Ext w7 => (acs_rng (rng_block (cs := acs x) (g.block (stay HW7.out F0.out)))).at
          have eq := eq_ad y.a.ad x.a.ad HYy.out.ad HXx.out.ad
          have KL := True.intro
          rw [decide_eq_false E2.out] at eq
          refine region_ext (by kernel_rfl) (by kernel_rfl) ?_
          repeat (first
              | (go_big_quiet_want; refine quiet_load_mid 32 _ rfl b (off + k * 27) (aN y.a.ad).toList rfl (fun w2 hw2 => by obtain ⟨g1, rfl⟩ := hw2; exact r0 g1) Try.underlying32 rfl (infoAd _) ?_; simp only [Act.put, List.setIfInBounds_toArray, List.set_cons_succ, List.set_cons_zero, Array.toArray_toList]; go_big_quiet_on)
              | (go_big_quiet_want; refine quiet_load_mid 32 _ rfl w.heap.size 0 (aN x.a.ad).toList rfl (fun w2 hw2 => by obtain ⟨g1, rfl⟩ := hw2; exact r1 g1) Try.underlying32 rfl (infoAd _) ?_; simp only [Act.put, List.setIfInBounds_toArray, List.set_cons_succ, List.set_cons_zero, Array.toArray_toList]; go_big_quiet_on)
              | go_big_quiet_step (fail))
          refine wpQuiet_nil ?_
          rintro w' ⟨gg, rfl⟩
          have bb9 := gg.below
          have HW9 := Lib.hid (HW7.out.trans (bb9.mono HW7.out.size))
          have HO9 := Lib.hid (own_same HO7.out (fun b hb => bb9.block b (HO7.out.lt b hb).2))
          clear r0 r1 KL bb9
          generalize gg.on = w9 at *
          clear eq
          have rl10 := (HRg.out.sub (hp_below (HB.out.trans (HW9.out.mono HB.out.size)))).at
          have ba10 : Below w9.heap.size w9 (w9.alloc (.cells (acs y).toArray 39)) := (Below.refl _ _).alloc (Nat.le_refl _) _
          have HA10 := Lib.hid (own_same HO9.out (fun b hb => ba10.block b (HO9.out.lt b hb).2))
          have HQ10 := Lib.hid (rowOne (heap_alloc_new w9 (.cells (acs y).toArray 39)))
          have HC10 := Lib.hid (HW9.out.trans (ba10.mono HW9.out.size))
          have hz10 := HW9.out.size
          clear ba10
          go_wp2_with (first
            | (refine wpList_load_mid rfl 39 _ rfl b _ rfl (acs y) _ rl10 Try.underlying39 rfl (infoAcs _) ?_)
            | (refine append_row rfl _ _ 25 rfl 39 (.agg (acs noneAV).toArray) 27 112 Try.underlying25 infoA27 (by simp [Value.cells, acs_len]) (by decide) (by decide) W.heap.size _ (so.length + 1) (so.flatMap acs ++ acs x) rfl HA10.out (.slice (some ⟨w9.heap.size, 0, none⟩) 1 1) 1 (acs y) rfl HQ10.out OneY.out (by omega) (by simp; omega) ?_
               intro v10 w10 ho10 hg10 hl10
               have HO10 := Lib.hid ho10
               have HW10 : Hid (Below W.heap.size W w10) := Lib.hid (HC10.out.grown hg10 (by simp; omega) (fun k hk => (HA10.out.lt k hk).1))
               obtain ⟨A10, c10, rfl⟩ := own_sl ho10
               clear ho10 hg10 hl10 rl10))
          have e2 := E2.out
          exact ⟨⟨k + 1, by omega, by go_num, by rw [HStep.out]; simp [pstep, *], Lib.hid (by rw [HStep.out]; simpa [pstep, *] using HO10.out), HW10⟩, by simp [intOf]; omega⟩
        · rw [decide_eq_false e1] at KL
          by_cases e2 : y.a.ad = x.a.ad
          · skip
            have E2 := Lib.hid e2
            clear e2
            refine region_ext (by kernel_rfl) (by kernel_rfl) ?_
            repeat (first
                | (go_big_quiet_want; refine quiet_load_mid 32 _ rfl b (off + k * 27) (aN y.a.ad).toList rfl (fun w2 hw2 => by obtain ⟨g1, rfl⟩ := hw2; exact r0 g1) Try.underlying32 rfl (infoAd _) ?_; simp only [Act.put, List.setIfInBounds_toArray, List.set_cons_succ, List.set_cons_zero, Array.toArray_toList]; go_big_quiet_on)
                | (go_big_quiet_want; refine quiet_load_mid 32 _ rfl w.heap.size 0 (aN x.a.ad).toList rfl (fun w2 hw2 => by obtain ⟨g1, rfl⟩ := hw2; exact r1 g1) Try.underlying32 rfl (infoAd _) ?_; simp only [Act.put, List.setIfInBounds_toArray, List.set_cons_succ, List.set_cons_zero, Array.toArray_toList]; go_big_quiet_on)
                | go_big_quiet_step (first | (go_at_call 45; with_reducible exact calls_ext (KL.out _))))
            refine wpQuiet_nil ?_
            rintro w' ⟨gg, rfl⟩
            have bb6 := gg.below
            have HW6 := Lib.hid (HW.out.trans (bb6.mono HW.out.size))
            have HO6 := Lib.hid (own_same HO.out (fun b hb => bb6.block b (HO.out.lt b hb).2))
            clear r0 r1 KL bb6
            generalize gg.on = w6 at *
            have hk1 := hk
            go_upto_region 9 with fail
            have BW6 : Hid (Below w.heap.size w w6) := Lib.hid (HB.out.trans (HW6.out.mono HB.out.size))
            have r0 := fun g : Ext w6 => (acs_rng (HRg.out.sub (hp_below (BW6.out.trans (g.below.mono BW6.out.size))))).at
            have r1 := fun g : Ext w6 => (acs_rng (rng_block (cs := acs x) (g.block (stay HW6.out F0.out)))).at
            have eq := eq_ad y.a.ad x.a.ad HYy.out.ad HXx.out.ad
            have KL := True.intro
            rw [decide_eq_true E2.out] at eq
            refine region_ext (by kernel_rfl) (by kernel_rfl) ?_
            repeat (first
                | (go_big_quiet_want; refine quiet_load_mid 32 _ rfl b (off + k * 27) (aN y.a.ad).toList rfl (fun w2 hw2 => by obtain ⟨g1, rfl⟩ := hw2; exact r0 g1) Try.underlying32 rfl (infoAd _) ?_; simp only [Act.put, List.setIfInBounds_toArray, List.set_cons_succ, List.set_cons_zero, Array.toArray_toList]; go_big_quiet_on)
                | (go_big_quiet_want; refine quiet_load_mid 32 _ rfl w.heap.size 0 (aN x.a.ad).toList rfl (fun w2 hw2 => by obtain ⟨g1, rfl⟩ := hw2; exact r1 g1) Try.underlying32 rfl (infoAd _) ?_; simp only [Act.put, List.setIfInBounds_toArray, List.set_cons_succ, List.set_cons_zero, Array.toArray_toList]; go_big_quiet_on)
                | go_big_quiet_step (fail))
            refine wpQuiet_nil ?_
            rintro w' ⟨gg, rfl⟩
            have bb9 := gg.below
            have HW9 := Lib.hid (HW6.out.trans (bb9.mono HW6.out.size))
            have HO9 := Lib.hid (own_same HO6.out (fun b hb => bb9.block b (HO6.out.lt b hb).2))
            clear r0 r1 KL bb9
            generalize gg.on = w9 at *
            clear eq
            have rl10 := (rng_block (cs := acs x) (stay HW9.out F0.out)).at
            have ba10 : Below w9.heap.size w9 (w9.alloc (.cells (acs x).toArray 39)) := (Below.refl _ _).alloc (Nat.le_refl _) _
            have HA10 := Lib.hid (own_same HO9.out (fun b hb => ba10.block b (HO9.out.lt b hb).2))
            have HQ10 := Lib.hid (rowOne (heap_alloc_new w9 (.cells (acs x).toArray 39)))
            have HC10 := Lib.hid (HW9.out.trans (ba10.mono HW9.out.size))
            have hz10 := HW9.out.size
            clear ba10
            go_wp2_with (first
              | (refine wpList_load_mid rfl 39 _ rfl w.heap.size 0 rfl (acs x) _ rl10 Try.underlying39 rfl (infoAcs _) ?_)
              | (refine append_row rfl _ _ 25 rfl 39 (.agg (acs noneAV).toArray) 27 112 Try.underlying25 infoA27 (by simp [Value.cells, acs_len]) (by decide) (by decide) W.heap.size _ so.length (so.flatMap acs) rfl HA10.out (.slice (some ⟨w9.heap.size, 0, none⟩) 1 1) 1 (acs x) rfl HQ10.out OneX.out (by omega) (by simp; omega) ?_
                 intro v10 w10 ho10 hg10 hl10
                 have HO10 := Lib.hid ho10
                 have HW10 : Hid (Below W.heap.size W w10) := Lib.hid (HC10.out.grown hg10 (by simp; omega) (fun k hk => (HA10.out.lt k hk).1))
                 obtain ⟨A10, c10, rfl⟩ := own_sl ho10
                 clear ho10 hg10 hl10 rl10))
            have e2 := E2.out
            exact ⟨⟨k + 1, by omega, by go_num, by rw [HStep.out]; simp [pstep, *], Lib.hid (by rw [HStep.out]; simpa [pstep, *] using HO10.out), HW10⟩, by simp [intOf]; omega⟩
          · skip
            have E2 := Lib.hid e2
            clear e2
            refine region_ext (by kernel_rfl) (by kernel_rfl) ?_
            repeat (first
                | (go_big_quiet_want; refine quiet_load_mid 32 _ rfl b (off + k * 27) (aN y.a.ad).toList rfl (fun w2 hw2 => by obtain ⟨g1, rfl⟩ := hw2; exact r0 g1) Try.underlying32 rfl (infoAd _) ?_; simp only [Act.put, List.setIfInBounds_toArray, List.set_cons_succ, List.set_cons_zero, Array.toArray_toList]; go_big_quiet_on)
                | (go_big_quiet_want; refine quiet_load_mid 32 _ rfl w.heap.size 0 (aN x.a.ad).toList rfl (fun w2 hw2 => by obtain ⟨g1, rfl⟩ := hw2; exact r1 g1) Try.underlying32 rfl (infoAd _) ?_; simp only [Act.put, List.setIfInBounds_toArray, List.set_cons_succ, List.set_cons_zero, Array.toArray_toList]; go_big_quiet_on)
                | go_big_quiet_step (first | (go_at_call 45; with_reducible exact calls_ext (KL.out _))))
            refine wpQuiet_nil ?_
            rintro w' ⟨gg, rfl⟩
            have bb6 := gg.below
            have HW6 := Lib.hid (HW.out.trans (bb6.mono HW.out.size))
            have HO6 := Lib.hid (own_same HO.out (fun b hb => bb6.block b (HO.out.lt b hb).2))
            clear r0 r1 KL bb6
            generalize gg.on = w6 at *
            have hk1 := hk
            go_upto_region 9 with fail
            have BW6 : Hid (Below w.heap.size w w6) := Lib.hid (HB.out.trans (HW6.out.mono HB.out.size))
            have r0 := fun g : Ext w6 => (acs_rng (HRg.out.sub (hp_below (BW6.out.trans (g.below.mono BW6.out.size))))).at
            have r1 := fun g : Ext w6 => (acs_rng (rng_block (cs := acs x) (g.block (stay HW6.out F0.out)))).at
            have eq := eq_ad y.a.ad x.a.ad HYy.out.ad HXx.out.ad
            have KL := True.intro
            rw [decide_eq_false E2.out] at eq
            refine region_ext (by kernel_rfl) (by kernel_rfl) ?_
            repeat (first
                | (go_big_quiet_want; refine quiet_load_mid 32 _ rfl b (off + k * 27) (aN y.a.ad).toList rfl (fun w2 hw2 => by obtain ⟨g1, rfl⟩ := hw2; exact r0 g1) Try.underlying32 rfl (infoAd _) ?_; simp only [Act.put, List.setIfInBounds_toArray, List.set_cons_succ, List.set_cons_zero, Array.toArray_toList]; go_big_quiet_on)
                | (go_big_quiet_want; refine quiet_load_mid 32 _ rfl w.heap.size 0 (aN x.a.ad).toList rfl (fun w2 hw2 => by obtain ⟨g1, rfl⟩ := hw2; exact r1 g1) Try.underlying32 rfl (infoAd _) ?_; simp only [Act.put, List.setIfInBounds_toArray, List.set_cons_succ, List.set_cons_zero, Array.toArray_toList]; go_big_quiet_on)
                | go_big_quiet_step (fail))
            refine wpQuiet_nil ?_
            rintro w' ⟨gg, rfl⟩
            have bb9 := gg.below
            have HW9 := Lib.hid (HW6.out.trans (bb9.mono HW6.out.size))
            have HO9 := Lib.hid (own_same HO6.out (fun b hb => bb9.block b (HO6.out.lt b hb).2))
            clear r0 r1 KL bb9
            generalize gg.on = w9 at *
            clear eq
            have rl10 := (HRg.out.sub (hp_below (HB.out.trans (HW9.out.mono HB.out.size)))).at
            have ba10 : Below w9.heap.size w9 (w9.alloc (.cells (acs y).toArray 39)) := (Below.refl _ _).alloc (Nat.le_refl _) _
            have HA10 := Lib.hid (own_same HO9.out (fun b hb => ba10.block b (HO9.out.lt b hb).2))
            have HQ10 := Lib.hid (rowOne (heap_alloc_new w9 (.cells (acs y).toArray 39)))
            have HC10 := Lib.hid (HW9.out.trans (ba10.mono HW9.out.size))
            have hz10 := HW9.out.size
            clear ba10
            go_wp2_with (first
              | (refine wpList_load_mid rfl 39 _ rfl b _ rfl (acs y) _ rl10 Try.underlying39 rfl (infoAcs _) ?_)
              | (refine append_row rfl _ _ 25 rfl 39 (.agg (acs noneAV).toArray) 27 112 Try.underlying25 infoA27 (by simp [Value.cells, acs_len]) (by decide) (by decide) W.heap.size _ so.length (so.flatMap acs) rfl HA10.out (.slice (some ⟨w9.heap.size, 0, none⟩) 1 1) 1 (acs y) rfl HQ10.out OneY.out (by omega) (by simp; omega) ?_
                 intro v10 w10 ho10 hg10 hl10
                 have HO10 := Lib.hid ho10
                 have HW10 : Hid (Below W.heap.size W w10) := Lib.hid (HC10.out.grown hg10 (by simp; omega) (fun k hk => (HA10.out.lt k hk).1))
                 obtain ⟨A10, c10, rfl⟩ := own_sl ho10
                 clear ho10 hg10 hl10 rl10))
            have e2 := E2.out
            exact ⟨⟨k + 1, by omega, by go_num, by rw [HStep.out]; simp [pstep, *], Lib.hid (by rw [HStep.out]; simpa [pstep, *] using HO10.out), HW10⟩, by simp [intOf]; omega⟩
      · by_cases e2 : y.a.ad = x.a.ad
        · skip
          have E2 := Lib.hid e2
          clear e2
          refine region_ext (by kernel_rfl) (by kernel_rfl) ?_
          repeat (first
              | (go_big_quiet_want; refine quiet_load_mid 32 _ rfl b (off + k * 27) (aN y.a.ad).toList rfl (fun w2 hw2 => by obtain ⟨g1, rfl⟩ := hw2; exact r0 g1) Try.underlying32 rfl (infoAd _) ?_; simp only [Act.put, List.setIfInBounds_toArray, List.set_cons_succ, List.set_cons_zero, Array.toArray_toList]; go_big_quiet_on)
              | (go_big_quiet_want; refine quiet_load_mid 32 _ rfl w.heap.size 0 (aN x.a.ad).toList rfl (fun w2 hw2 => by obtain ⟨g1, rfl⟩ := hw2; exact r1 g1) Try.underlying32 rfl (infoAd _) ?_; simp only [Act.put, List.setIfInBounds_toArray, List.set_cons_succ, List.set_cons_zero, Array.toArray_toList]; go_big_quiet_on)
              | go_big_quiet_step (first | (go_at_call 45; with_reducible exact calls_ext (KL.out _))))
          refine wpQuiet_nil ?_
          rintro w' ⟨gg, rfl⟩
          have bb6 := gg.below
          have HW6 := Lib.hid (HW.out.trans (bb6.mono HW.out.size))
          have HO6 := Lib.hid (own_same HO.out (fun b hb => bb6.block b (HO.out.lt b hb).2))
          clear r0 r1 KL bb6
          generalize gg.on = w6 at *
          have hk1 := hk
          go_upto_region 9 with fail
          have BW6 : Hid (Below w.heap.size w w6) := Lib.hid (HB.out.trans (HW6.out.mono HB.out.size))
          have r0 := fun g : Ext w6 => (acs_rng (HRg.out.sub (hp_below (BW6.out.trans (g.below.mono BW6.out.size))))).at
          have r1 := fun g : Ext w6 => (acs_rng (rng_block (cs := acs x) (g.block (stay HW6.out F0.out)))).at
          have eq := eq_ad y.a.ad x.a.ad HYy.out.ad HXx.out.ad
          have KL := True.intro
          rw [decide_eq_true E2.out] at eq
          refine region_ext (by kernel_rfl) (by kernel_rfl) ?_
          repeat (first
              | (go_big_quiet_want; refine quiet_load_mid 32 _ rfl b (off + k * 27) (aN y.a.ad).toList rfl (fun w2 hw2 => by obtain ⟨g1, rfl⟩ := hw2; exact r0 g1) Try.underlying32 rfl (infoAd _) ?_; simp only [Act.put, List.setIfInBounds_toArray, List.set_cons_succ, List.set_cons_zero, Array.toArray_toList]; go_big_quiet_on)
              | (go_big_quiet_want; refine quiet_load_mid 32 _ rfl w.heap.size 0 (aN x.a.ad).toList rfl (fun w2 hw2 => by obtain ⟨g1, rfl⟩ := hw2; exact r1 g1) Try.underlying32 rfl (infoAd _) ?_; simp only [Act.put, List.setIfInBounds_toArray, List.set_cons_succ, List.set_cons_zero, Array.toArray_toList]; go_big_quiet_on)
              | go_big_quiet_step (fail))
          refine wpQuiet_nil ?_
          rintro w' ⟨gg, rfl⟩
          have bb9 := gg.below
          have HW9 := Lib.hid (HW6.out.trans (bb9.mono HW6.out.size))
          have HO9 := Lib.hid (own_same HO6.out (fun b hb => bb9.block b (HO6.out.lt b hb).2))
          clear r0 r1 KL bb9
          generalize gg.on = w9 at *
          clear eq
          have rl10 := (rng_block (cs := acs x) (stay HW9.out F0.out)).at
          have ba10 : Below w9.heap.size w9 (w9.alloc (.cells (acs x).toArray 39)) := (Below.refl _ _).alloc (Nat.le_refl _) _
          have HA10 := Lib.hid (own_same HO9.out (fun b hb => ba10.block b (HO9.out.lt b hb).2))
          have HQ10 := Lib.hid (rowOne (heap_alloc_new w9 (.cells (acs x).toArray 39)))
          have HC10 := Lib.hid (HW9.out.trans (ba10.mono HW9.out.size))
          have hz10 := HW9.out.size
          clear ba10
          go_wp2_with (first
            | (refine wpList_load_mid rfl 39 _ rfl w.heap.size 0 rfl (acs x) _ rl10 Try.underlying39 rfl (infoAcs _) ?_)
            | (refine append_row rfl _ _ 25 rfl 39 (.agg (acs noneAV).toArray) 27 112 Try.underlying25 infoA27 (by simp [Value.cells, acs_len]) (by decide) (by decide) W.heap.size _ so.length (so.flatMap acs) rfl HA10.out (.slice (some ⟨w9.heap.size, 0, none⟩) 1 1) 1 (acs x) rfl HQ10.out OneX.out (by omega) (by simp; omega) ?_
               intro v10 w10 ho10 hg10 hl10
               have HO10 := Lib.hid ho10
               have HW10 : Hid (Below W.heap.size W w10) := Lib.hid (HC10.out.grown hg10 (by simp; omega) (fun k hk => (HA10.out.lt k hk).1))
               obtain ⟨A10, c10, rfl⟩ := own_sl ho10
               clear ho10 hg10 hl10 rl10))
          have e2 := E2.out
          exact ⟨⟨k + 1, by omega, by go_num, by rw [HStep.out]; simp [pstep, *], Lib.hid (by rw [HStep.out]; simpa [pstep, *] using HO10.out), HW10⟩, by simp [intOf]; omega⟩
        · skip
          have E2 := Lib.hid e2
          clear e2
          refine region_ext (by kernel_rfl) (by kernel_rfl) ?_
          repeat (first
              | (go_big_quiet_want; refine quiet_load_mid 32 _ rfl b (off + k * 27) (aN y.a.ad).toList rfl (fun w2 hw2 => by obtain ⟨g1, rfl⟩ := hw2; exact r0 g1) Try.underlying32 rfl (infoAd _) ?_; simp only [Act.put, List.setIfInBounds_toArray, List.set_cons_succ, List.set_cons_zero, Array.toArray_toList]; go_big_quiet_on)
              | (go_big_quiet_want; refine quiet_load_mid 32 _ rfl w.heap.size 0 (aN x.a.ad).toList rfl (fun w2 hw2 => by obtain ⟨g1, rfl⟩ := hw2; exact r1 g1) Try.underlying32 rfl (infoAd _) ?_; simp only [Act.put, List.setIfInBounds_toArray, List.set_cons_succ, List.set_cons_zero, Array.toArray_toList]; go_big_quiet_on)
              | go_big_quiet_step (first | (go_at_call 45; with_reducible exact calls_ext (KL.out _))))
          refine wpQuiet_nil ?_
          rintro w' ⟨gg, rfl⟩
          have bb6 := gg.below
          have HW6 := Lib.hid (HW.out.trans (bb6.mono HW.out.size))
          have HO6 := Lib.hid (own_same HO.out (fun b hb => bb6.block b (HO.out.lt b hb).2))
          clear r0 r1 KL bb6
          generalize gg.on = w6 at *
          have hk1 := hk
          go_upto_region 9 with fail
          have BW6 : Hid (Below w.heap.size w w6) := Lib.hid (HB.out.trans (HW6.out.mono HB.out.size))
          have r0 := fun g : Ext w6 => (acs_rng (HRg.out.sub (hp_below (BW6.out.trans (g.below.mono BW6.out.size))))).at
          have r1 := fun g : Ext w6 => (acs_rng (rng_block (cs := acs x) (g.block (stay HW6.out F0.out)))).at
          have eq := eq_ad y.a.ad x.a.ad HYy.out.ad HXx.out.ad
          have KL := True.intro
          rw [decide_eq_false E2.out] at eq
          refine region_ext (by kernel_rfl) (by kernel_rfl) ?_
          repeat (first
              | (go_big_quiet_want; refine quiet_load_mid 32 _ rfl b (off + k * 27) (aN y.a.ad).toList rfl (fun w2 hw2 => by obtain ⟨g1, rfl⟩ := hw2; exact r0 g1) Try.underlying32 rfl (infoAd _) ?_; simp only [Act.put, List.setIfInBounds_toArray, List.set_cons_succ, List.set_cons_zero, Array.toArray_toList]; go_big_quiet_on)
              | (go_big_quiet_want; refine quiet_load_mid 32 _ rfl w.heap.size 0 (aN x.a.ad).toList rfl (fun w2 hw2 => by obtain ⟨g1, rfl⟩ := hw2; exact r1 g1) Try.underlying32 rfl (infoAd _) ?_; simp only [Act.put, List.setIfInBounds_toArray, List.set_cons_succ, List.set_cons_zero, Array.toArray_toList]; go_big_quiet_on)
              | go_big_quiet_step (fail))
          refine wpQuiet_nil ?_
          rintro w' ⟨gg, rfl⟩
          have bb9 := gg.below
          have HW9 := Lib.hid (HW6.out.trans (bb9.mono HW6.out.size))
          have HO9 := Lib.hid (own_same HO6.out (fun b hb => bb9.block b (HO6.out.lt b hb).2))
          clear r0 r1 KL bb9
          generalize gg.on = w9 at *
          clear eq
          have rl10 := (HRg.out.sub (hp_below (HB.out.trans (HW9.out.mono HB.out.size)))).at
          have ba10 : Below w9.heap.size w9 (w9.alloc (.cells (acs y).toArray 39)) := (Below.refl _ _).alloc (Nat.le_refl _) _
          have HA10 := Lib.hid (own_same HO9.out (fun b hb => ba10.block b (HO9.out.lt b hb).2))
          have HQ10 := Lib.hid (rowOne (heap_alloc_new w9 (.cells (acs y).toArray 39)))
          have HC10 := Lib.hid (HW9.out.trans (ba10.mono HW9.out.size))
          have hz10 := HW9.out.size
          clear ba10
          go_wp2_with (first
            | (refine wpList_load_mid rfl 39 _ rfl b _ rfl (acs y) _ rl10 Try.underlying39 rfl (infoAcs _) ?_)
            | (refine append_row rfl _ _ 25 rfl 39 (.agg (acs noneAV).toArray) 27 112 Try.underlying25 infoA27 (by simp [Value.cells, acs_len]) (by decide) (by decide) W.heap.size _ so.length (so.flatMap acs) rfl HA10.out (.slice (some ⟨w9.heap.size, 0, none⟩) 1 1) 1 (acs y) rfl HQ10.out OneY.out (by omega) (by simp; omega) ?_
               intro v10 w10 ho10 hg10 hl10
               have HO10 := Lib.hid ho10
               have HW10 : Hid (Below W.heap.size W w10) := Lib.hid (HC10.out.grown hg10 (by simp; omega) (fun k hk => (HA10.out.lt k hk).1))
               obtain ⟨A10, c10, rfl⟩ := own_sl ho10
               clear ho10 hg10 hl10 rl10))
          have e2 := E2.out
          exact ⟨⟨k + 1, by omega, by go_num, by rw [HStep.out]; simp [pstep, *], Lib.hid (by rw [HStep.out]; simpa [pstep, *] using HO10.out), HW10⟩, by simp [intOf]; omega⟩
    · obtain rfl : k = n := by omega
      have heq : l.take k = l := List.take_of_length_le (by rw [HN.out]; exact Nat.le_refl _)
      rw [heq] at HO ⊢
      clear heq
      have HWr := HW
      have hlen : (pfold x l).1.length ≤ 2000000 := by have := pfold_len x l; rw [HN.out] at this; omega
      generalize hst : pfold x l = st at *
      have HST := Lib.hid hst
      clear hst
      obtain ⟨so, sd⟩ := st
      simp only at hlen HO ⊢
      have HOr := HO
      cases sd
      · skip
        have rl11 := (rng_block (cs := acs x) (stay HWr.out F0.out)).at
        have ba11 : Below wr.heap.size wr (wr.alloc (.cells (acs x).toArray 39)) := (Below.refl _ _).alloc (Nat.le_refl _) _
        have HA11 := Lib.hid (own_same HOr.out (fun b hb => ba11.block b (HOr.out.lt b hb).2))
        have HQ11 := Lib.hid (rowOne (heap_alloc_new wr (.cells (acs x).toArray 39)))
        have HC11 := Lib.hid (HWr.out.trans (ba11.mono HWr.out.size))
        have hz11 := HWr.out.size
        clear ba11
        go_wp2_with (first
          | (refine wpList_load_mid rfl 39 _ rfl w.heap.size 0 rfl (acs x) _ rl11 Try.underlying39 rfl (infoAcs _) ?_)
          | (refine append_row rfl _ _ 25 rfl 39 (.agg (acs noneAV).toArray) 27 112 Try.underlying25 infoA27 (by simp [Value.cells, acs_len]) (by decide) (by decide) W.heap.size _ so.length (so.flatMap acs) rfl HA11.out (.slice (some ⟨wr.heap.size, 0, none⟩) 1 1) 1 (acs x) rfl HQ11.out OneX.out (by omega) (by simp; omega) ?_
             intro v11 w11 ho11 hg11 hl11
             have HO11 := Lib.hid ho11
             have HW11 : Hid (Below W.heap.size W w11) := Lib.hid (HC11.out.grown hg11 (by simp; omega) (fun k hk => (HA11.out.lt k hk).1))
             obtain ⟨A11, c11, rfl⟩ := own_sl ho11
             clear ho11 hg11 hl11 rl11))
        go_ret
        exact ⟨_, rfl, own_base (b1 := W.heap.size) (by rw [HST.out]; simpa [pdone] using HO11.out) (by omega), HB.out.trans (HW11.out.mono HB.out.size)⟩
      · go_wp2_with fail
        go_ret
        exact ⟨_, rfl, own_base (b1 := W.heap.size) (by rw [HST.out]; simpa [pdone] using HO.out) (by omega), BW.out⟩
end Go.Proofs.Ytdgenbidgieojaa
