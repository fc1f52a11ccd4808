/- A cache's calls: Fill. -/
import Derived.Test.YtdgenbidgieojaaG9
import Derived.Test.YtdgenbidgieojaaG7
import Derived.Deep.RegionHeldLaw
import Derived.Test.YtdgenbidgieojaaShelfS
import Derived.Shelf.SlSortCmp.NoneTotal
import Derived.Test.YtdgenbidgieojaaG6
namespace Go.Proofs.Ytdgenbidgieojaa
open Go.RowKit SmWord Go.Maps
set_option maxRecDepth 100000

/-- Two parts of memory together. -/
def orH (Z Z' : Hp) : Hp := fun b => (Z b).or (Z' b)
theorem orH_left (Z Z' : Hp) : Sub Z (orH Z Z') := fun b o h => by unfold orH; rw [h]; rfl
theorem orH_right {Z Z' : Hp} (h : ∀ b o o', Z b = some o → Z' b = some o' → o = o') : Sub Z' (orH Z Z') := fun b o hb => by
  unfold orH
  cases hz : Z b with
  | none => exact hb
  | some o1 => rw [h b o1 o hz hb]; rfl
theorem orH_some {Z Z' : Hp} {b : Nat} {o : Obj} (h : orH Z Z' b = some o) : Z b = some o ∨ Z' b = some o := by
  unfold orH at h
  cases hz : Z b with
  | none => rw [hz] at h; exact .inr h
  | some o1 => rw [hz] at h; exact .inl h
theorem orH_sub {Z Z' Y : Hp} (h : Sub Z Y) (h' : Sub Z' Y) : Sub (orH Z Z') Y := fun b o hb => by
  rcases orH_some hb with h1 | h1
  · exact h _ _ h1
  · exact h' _ _ h1
theorem orH_in {Z Z' Y : Hp} (h : Sub Z Y) (h' : Sub Z' Y) : Sub Z' (orH Z Z') := orH_right fun b o o' h1 h2 => by
  have a1 := h _ _ h1
  have a2 := h' _ _ h2
  rw [a1] at a2
  injection a2
theorem load_midG {P : Program} {ops : Array Oper} {rest : List Oper} {op : Oper} {a : Act} {w : World} {Q : Exit → Act → World → Prop} (hw : Region.wanted op (yielded ops a.tmps) = true) (ty : TypeId) (x : Operand) (ho : op.op = .load ty x)
    (b o : Nat) (hx : a.eval x = .pointer (some ⟨b, o, none⟩)) (cs : List Value) (d : TypeDesc) (hc : w.rangeAt b o cs)
    (hu : P.underlying ty = some d) (hd : d.isRow = true) (hi : (P.info? ty).map (·.size) = some cs.length)
    (h : wpList P ops Q rest (a.put op.dst (.agg cs.toArray)) w) : wpList P ops Q (op :: rest) a w :=
  wpList_step fun K hK => by
    simp only [hw, if_true]
    exact wp_load_mid ty x ho b o hx cs d hc hu hd hi (hK _ _ h)
set_option maxHeartbeats 1000000 in
theorem fill_no (p : Option Addr) (x : AV) (w : World) (h : AccZ (hp w) x) (q : Bool) (hq : q = false ∨ rightA x.a = false)
    (KF : Hid (∀ w1, Below w.heap.size w w1 → Calls Try.prog 30 #[.pointer p, .agg (aN x.a.ad)] w1 fun e w' => e = .returned (.bool q) ∧ Below w1.heap.size w1 w')) :
    Calls Try.prog 13 #[.pointer p, aval x] w fun e w' => e = .returned (.bool false) ∧ Below w.heap.size w w' := by
  unfold aval
  have hs := aN_size x.a.ad
  have hn : (acs x).toArray.size = 27 := by simp [acs_len]
  obtain ⟨f0, bW⟩ := boxA w x
  obtain ⟨W, hW⟩ : ∃ W, w.alloc (.cells (acs x).toArray 39) = W := ⟨_, rfl⟩
  rw [hW] at f0 bW
  obtain ⟨-, -, -, -, r0⟩ := boxcells f0
  have F0 := Lib.hid f0
  have HB := Lib.hid bW
  have HX := Lib.hid (h.sub (hp_below bW))
  have KR := Lib.hid fun w1 (h1 : AccZ (hp w1) x) => right_walk x w1 h1
  unfold aval at KR
  clear f0 bW h
  go_enter Try.func13, Try.ntmps13
  go_upto_region 1 with fail
  clear hW
  cases q
  · go_wp2_with (first
      | (refine wpList_load_mid rfl 32 _ rfl w.heap.size 0 rfl (aN x.a.ad).toList _ r0 Try.underlying32 rfl (infoAd _) ?_; simp only [Array.toArray_toList])
      | (go_at_call 30; refine (KF.out _ HB.out).mono ?_; rintro e w1 ⟨rfl, b1⟩; replace HB := Lib.hid (HB.out.trans (b1.mono HB.out.size)); clear b1))
    go_ret
    exact ⟨rfl, HB.out⟩
  · have hr : rightA x.a = false := by rcases hq with h | h; · cases h
                                       · exact h
    rw [hr] at KR
    go_wp2_with (first
      | (refine wpList_load_mid rfl 32 _ rfl w.heap.size 0 rfl (aN x.a.ad).toList _ r0 Try.underlying32 rfl (infoAd _) ?_; simp only [Array.toArray_toList])
      | (go_at_call 30; refine (KF.out _ HB.out).mono ?_; rintro e w1 ⟨rfl, b1⟩; replace HB := Lib.hid (HB.out.trans (b1.mono HB.out.size)); replace F0 := Lib.hid (stay b1 F0.out); replace HX := Lib.hid (HX.out.sub (hp_below b1)); clear b1)
      | (refine load_midG (by rfl) 39 _ rfl w.heap.size 0 rfl (acs x) _ (rng_block F0.out).at Try.underlying39 rfl (infoAcs _) ?_)
      | (go_at_call 33; refine (KR.out _ HX.out).mono ?_; rintro e w1 ⟨rfl, b1⟩; replace HB := Lib.hid (HB.out.trans (b1.mono HB.out.size)); clear b1))
    go_ret
    exact ⟨rfl, HB.out⟩
/-- Rows lie in cells: what else has changed is nothing to them. -/
theorem RowZ.subC {Z Z' : Hp} {v : Value} {n k : Nat} {L : List Value} (h : RowZ Z v n k L) (hs : ∀ b C t fr, Z b = some (.cells C t fr) → Z' b = some (.cells C t fr)) : RowZ Z' v n k L := by
  refine ⟨h.len, ?_⟩
  obtain ⟨A, c, h1, h2, h3, h4, h5⟩ := h.val
  exact ⟨A, c, h1, h2, h3, h4, fun hn => by
    obtain ⟨b, off, e, C, t, fr, g1, g2⟩ := h5 hn
    exact ⟨b, off, e, C, t, fr, hs _ _ _ _ g1, g2⟩⟩
theorem AccZ.subC {Z Z' : Hp} {x : AV} (h : AccZ Z x) (hs : ∀ b C t fr, Z b = some (.cells C t fr) → Z' b = some (.cells C t fr)) : AccZ Z' x := { h with cod := h.cod.subC hs, sto := h.sto.subC hs }
theorem grown_cells {w w' : World} {m : Nat} {es : Array MapEntry} {clock : Nat} (hm : w.heap[m]? = some (.map es clock)) (hg : w.grownBy w' (some m)) : ∀ b C t fr, hp w b = some (.cells C t fr) → hp w' b = some (.cells C t fr) := fun b C t fr hb => by
  have hne : b ≠ m := fun e => by
    rw [e] at hb
    have h2 : w.heap[m]? = _ := hb
    rw [hm] at h2
    cases h2
  exact (hg.block b (Array.getElem?_eq_some_iff.1 hb).1 (fun e => hne (Option.some.inj e))).trans hb
/-- What Fill answers, and what is known and being fetched behind it. -/
structure FillIs (Z : Hp) (w : World) (c : Cb) (kf : Nat → Option AV) (tf : Nat → Option Nat) (n : Nat) (x : AV) (e : Ending) (w' : World) (Z' : Hp) (kf' : Nat → Option AV) (tf' : Nat → Option Nat) : Prop where
  ans : e = .returned (.bool ((tf x.a.ad).isSome && rightA x.a))
  at' : CacheAt Z' w' c kf' tf' (n + 1)
  sub : Sub Z Z'
  tch : Tch c.soft w w'
  new : ∀ b o, Z' b = some o → Z b = some o ∨ w.heap.size ≤ b
  no : ((tf x.a.ad).isSome && rightA x.a) = false → kf' = kf ∧ tf' = tf
  yes : ((tf x.a.ad).isSome && rightA x.a) = true → ∃ x', x'.a = x.a ∧ kf' = at1 kf x.a.ad (some x') ∧ tf' = at1 tf x.a.ad none
section
variable {Z : Hp} {w : World} {c : Cb} {kf : Nat → Option AV} {tf : Nat → Option Nat} {n : Nat}
theorem fill_done {w5 w6 w7 : World} {x : AV} {r s : Value} (h : CacheAt Z w c kf tf n) (ht : (tf x.a.ad).isSome = true) (hr : rightA x.a = true) (g5 : Tch c.soft w w5) (h6 : CacheAt Z w6 c kf (at1 tf x.a.ad none) n) (g6 : Below w5.drew.heap.size w5.drew w6) (g7 : w6.grownBy w7 (some c.kb))
    (m7 : mapIs w7 c.kb (n + 1) (upd (kF kf) x.a.ad (aval ⟨x.a, r, s⟩))) (ha : AccZ (fr w5.drew.heap.size w6) ⟨x.a, r, s⟩) :
    ∃ Z' kf' tf', FillIs Z w c kf tf n x (.returned (.bool true)) w7 Z' kf' tf' := by
  rw [upd_kF] at m7
  have g56 : Tch c.soft w w6 := g5.drew.trans (.of_below g6)
  have g : Tch c.soft w w7 := g56.trans (.grown g7 (.inr (.inl rfl)))
  have hkb : c.kb < w.heap.size := h.softlt (.inr (.inl rfl))
  have hz : w.heap.size ≤ w5.drew.heap.size := g5.size
  have hfr : Sub (fr w.heap.size w6) (hp w7) := fun b o hb => by
    unfold fr at hb
    split at hb
    · exact (g7.block b (Array.getElem?_eq_some_iff.1 hb).1 (fun e => by have := Option.some.inj e; omega)).trans hb
    · cases hb
  have hz7 : Sub Z (hp w7) := g.sub h.sub h.zm
  have hex := map_blk h6.km
  obtain ⟨es, clock, hm⟩ := hex
  have hb : (tf x.a.ad).isSome && rightA x.a := by rw [ht, hr]; rfl
  refine ⟨orH Z (fr w.heap.size w6), at1 kf x.a.ad (some ⟨x.a, r, s⟩), at1 tf x.a.ad none, by rw [hb], ⟨orH_sub hz7 hfr, grown_cells hm g7 _ _ _ _ h6.blk, m7, (h6.tm.same (g7.block _ h6.tm.lt (fun e => h6.ne (Option.some.inj e).symm))).mono (Nat.le_succ n), h.ne, fun A y hA' hy => ?_, fun b hs => ?_⟩, orH_left _ _, g, fun b o ho => ?_, fun e => by (rw [hb] at e; cases e), fun _ => ⟨⟨x.a, r, s⟩, rfl, rfl, rfl⟩⟩
  · unfold at1 at hy
    split at hy
    · rename_i e
      cases hy
      exact ⟨(ha.sub (fr_mono hz w6)).sub (orH_in hz7 hfr), e.symm, hr⟩
    · obtain ⟨a1, a2, a3⟩ := h.acc A y hA' hy
      exact ⟨a1.sub (orH_left _ _), a2, a3⟩
  · unfold orH
    rw [h.zm b hs]
    unfold fr
    rw [if_neg (by have := h.softlt hs; omega)]
    rfl
  · rcases orH_some ho with ho | ho
    · exact .inl ho
    · unfold fr at ho
      split at ho
      · exact .inr (by assumption)
      · cases ho
set_option maxHeartbeats 2000000 in
theorem fill_yes (h : CacheAt Z w c kf tf n) (x : AV) (hx : AccZ (hp w) x) (ht : (tf x.a.ad).isSome = true) (hr : rightA x.a = true) (hn : n < 1000000) :
    Calls Try.prog 13 #[.pointer (some ⟨c.cb, 0, none⟩), aval x] w fun e w' => ∃ Z' kf' tf', FillIs Z w c kf tf n x e w' Z' kf' tf' := by
  unfold aval
  have hs := aN_size x.a.ad
  have hnn : (acs x).toArray.size = 27 := by simp [acs_len]
  obtain ⟨f0, bW⟩ := boxA w x
  obtain ⟨W, hW⟩ : ∃ W, w.alloc (.cells (acs x).toArray 39) = W := ⟨_, rfl⟩
  rw [hW] at f0 bW
  obtain ⟨-, -, -, -, r0⟩ := boxcells f0
  have F0 := Lib.hid f0
  have HB := Lib.hid bW
  have HA := Lib.hid hx.ad
  have HC := Lib.hid (h.below bW)
  have H0 := Lib.hid h
  have HX := Lib.hid (hx.sub (hp_below bW))
  have KR := Lib.hid fun w1 (h1 : AccZ (hp w1) x) => right_walk x w1 h1
  have KF := Lib.hid fun w1 (h1 : CacheAt Z w1 c kf tf n) => fetches_walk h1 x.a.ad hx.ad
  rw [hr] at KR
  rw [ht] at KF
  have HT := Lib.hid ht
  have HR := Lib.hid hr
  unfold aval at KR
  clear f0 bW h hx ht hr
  go_enter Try.func13, Try.ntmps13
  go_upto_region 1 with fail
  clear hW
  go_upto_region 3 with (first
    | (refine wpList_load_mid rfl 32 _ rfl w.heap.size 0 rfl (aN x.a.ad).toList _ r0 Try.underlying32 rfl (infoAd _) ?_; simp only [Array.toArray_toList])
    | (go_at_call 30; refine (KF.out _ HC.out).mono ?_; rintro e w1 ⟨rfl, b1⟩; replace HB := Lib.hid (HB.out.trans (b1.mono HB.out.size)); replace HC := Lib.hid (HC.out.below b1); replace F0 := Lib.hid (stay b1 F0.out); replace HX := Lib.hid (HX.out.sub (hp_below b1)); clear b1)
    | (refine load_midG (by rfl) 39 _ rfl w.heap.size 0 rfl (acs x) _ (rng_block F0.out).at Try.underlying39 rfl (infoAcs _) ?_)
    | (go_at_call 33; refine (KR.out _ HX.out).mono ?_; rintro e w1 ⟨rfl, b1⟩; replace HB := Lib.hid (HB.out.trans (b1.mono HB.out.size)); replace HC := Lib.hid (HC.out.below b1); replace F0 := Lib.hid (stay b1 F0.out); replace HX := Lib.hid (HX.out.sub (hp_below b1)); clear b1))
  clear KF KR r0
  have c1 := HC.out.cell1
  obtain ⟨-, -, -, -, r0⟩ := boxcells F0.out
  refine region_tail 6 (by kernel_rfl) (by kernel_rfl) ?_
  simp only [List.take_succ_cons, List.take_zero, List.drop_succ_cons, List.drop_zero]
  repeat (first
    | (refine still_load_mid rfl 32 _ rfl w.heap.size 0 (aN x.a.ad).toList rfl r0 Try.underlying32 rfl (infoAd _) ?_; simp only [Act.put, List.setIfInBounds_toArray, List.set_cons_succ, List.set_cons_zero, Array.toArray_toList])
    | still_step)
  refine wpStill_nil ?_
  have HM := HC.out.drew.tm
  refine wpList_delA rfl _ _ 71 rfl 3 Try.underlying71 c.tb _ _ rfl HM x.a.ad HA.out rfl ?_
  intro w5 h5 g5
  rw [updN_tF] at h5
  have hne : c.tb ≠ w.heap.size := fun e => by
    obtain ⟨es, clock, hm⟩ := map_blk HC.out.tm
    rw [e, F0.out] at hm
    cases hm
  have F5 := Lib.hid ((g5.block _ (Array.getElem?_eq_some_iff.1 F0.out).1 (fun e => hne (Option.some.inj e).symm)).trans F0.out)
  have HC5 := Lib.hid (HC.out.drew.setT h5 (Nat.le_refl _) g5)
  have HG5 : Hid (Tch c.soft w w5) := Lib.hid ((Tch.of_below HB.out).drew.trans (.grown g5 (.inr (.inr rfl))))
  have HX5 : Hid (AccZ (hp w5) x) := Lib.hid (by
    obtain ⟨es, clock, hm⟩ := map_blk HC.out.tm
    exact AccZ.subC (Z := hp w1.drew) (HX.out.sub fun b o h => h) (grown_cells (w := w1.drew) hm g5))
  clear h5 g5 HM c1 r0 hne
  go_upto_region 4 with fail
  simp only [Act.put]
  have d1 : w5.drew.cell? ⟨c.cb, 0, none⟩ = some (.map (some c.kb)) := HC5.out.drew.cell0
  obtain ⟨-, -, -, -, r1⟩ := boxcells (w := w5.drew) F5.out
  have q1 : w5.drew.rangeAt w.heap.size 0 (acs x) := (rng_block (w := w5.drew) F5.out).at
  have KC := Lib.hid (fcopied_walk x w5.drew (HX5.out.sub fun b o h => h))
  unfold aval at KC
  have huA := Try.underlying32
  have hiA := infoAd x.a.ad
  have huB := Try.underlying39
  have hiB := infoAcs x
  have C0 : Hid (∀ w' : World, (fun w' => w'.cell? ⟨c.cb, 0, none⟩ = some (.map (some c.kb)) ∧ w'.rangeAt w.heap.size 0 (aN x.a.ad).toList ∧ w'.rangeAt w.heap.size 0 (acs x)) w' → w'.cell? ⟨c.cb, 0, none⟩ = some (.map (some c.kb))) := Lib.hid fun w' h => h.1
  have RA : Hid (∀ w' : World, (fun w' => w'.cell? ⟨c.cb, 0, none⟩ = some (.map (some c.kb)) ∧ w'.rangeAt w.heap.size 0 (aN x.a.ad).toList ∧ w'.rangeAt w.heap.size 0 (acs x)) w' → w'.rangeAt w.heap.size 0 (aN x.a.ad).toList) := Lib.hid fun w' h => h.2.1
  have RX : Hid (∀ w' : World, (fun w' => w'.cell? ⟨c.cb, 0, none⟩ = some (.map (some c.kb)) ∧ w'.rangeAt w.heap.size 0 (aN x.a.ad).toList ∧ w'.rangeAt w.heap.size 0 (acs x)) w' → w'.rangeAt w.heap.size 0 (acs x)) := Lib.hid fun w' h => h.2.2
  have D1 := Lib.hid (And.intro d1 (And.intro r1 q1))
  clear d1 r1 q1
  refine wp_region_held_drew (S := (fun w' => w'.cell? ⟨c.cb, 0, none⟩ = some (.map (some c.kb)) ∧ w'.rangeAt w.heap.size 0 (aN x.a.ad).toList ∧ w'.rangeAt w.heap.size 0 (acs x))) (by kernel_rfl) D1.out (fun hHeld => ?_)
  refine wpAnyH_take (i := 0) (oi := ⟨_, _, _, _, _, _⟩) (v := ?_) rfl (by kernel_rfl) (by kernel_rfl) (by kernel_rfl) (fun _ _ _ h => h) (Or.inl ⟨by rfl, ?_⟩) (by assumption) ?_
  rotate_left
  · (intro w hSw; first | (go_simp; done) | (go_simp; with_reducible rfl))
  try simp only [Act.put, List.setIfInBounds_toArray, List.set_cons_zero, List.set_cons_succ]
  refine wpAnyH_take (i := 1) (oi := ⟨_, _, _, _, _, _⟩) (v := ?_) rfl (by kernel_rfl) (by kernel_rfl) (by kernel_rfl) (fun _ _ _ h => h) (Or.inl ⟨by rfl, ?_⟩) (by assumption) ?_
  rotate_left
  · (intro w hSw; first | (go_simp; done) | (go_simp; with_reducible rfl))
  try simp only [Act.put, List.setIfInBounds_toArray, List.set_cons_zero, List.set_cons_succ]
  refine wpAnyH_take (i := 2) (oi := ⟨_, _, _, _, _, _⟩) (v := ?_) rfl (by kernel_rfl) (by kernel_rfl) (by kernel_rfl) (fun _ _ _ h => h) (Or.inl ⟨by rfl, ?_⟩) (by assumption) ?_
  rotate_left
  · (intro w hSw; first | (go_simp; done) | (go_simp; with_reducible rfl))
  try simp only [Act.put, List.setIfInBounds_toArray, List.set_cons_zero, List.set_cons_succ]
  refine wpAnyH_take (i := 3) (oi := ⟨_, _, _, _, _, _⟩) (v := ?_) rfl (by kernel_rfl) (by kernel_rfl) (by kernel_rfl) (fun _ _ _ h => h) (Or.inl ⟨by rfl, ?_⟩) (by assumption) ?_
  rotate_left
  · (intro w hSw; have hc := C0.out w hSw; first | (go_simp; done) | (go_simp; with_reducible rfl))
  try simp only [Act.put, List.setIfInBounds_toArray, List.set_cons_zero, List.set_cons_succ]
  refine wpAnyH_take (i := 4) (oi := ⟨_, _, _, _, _, _⟩) (v := ?_) rfl (by kernel_rfl) (by kernel_rfl) (by kernel_rfl) (fun _ _ _ h => h) (Or.inl ⟨by rfl, ?_⟩) (by assumption) ?_
  rotate_left
  · (intro w hSw; first | (go_simp; done) | (go_simp; with_reducible rfl))
  try simp only [Act.put, List.setIfInBounds_toArray, List.set_cons_zero, List.set_cons_succ]
  refine wpAnyH_take (i := 5) (oi := ⟨_, _, _, _, _, _⟩) rfl (by kernel_rfl) (by kernel_rfl) (by kernel_rfl) (fun _ _ _ h => h) (yieldsIf_load_mid (by rfl) 32 _ rfl w.heap.size 0 rfl (aN x.a.ad).toList _ (RA.out) Try.underlying32 rfl (infoAd _)) (by assumption) ?_
  try simp only [Act.put, List.setIfInBounds_toArray, List.set_cons_zero, List.set_cons_succ, Array.toArray_toList]
  refine wpAnyH_take (i := 6) (oi := ⟨_, _, _, _, _, _⟩) rfl (by kernel_rfl) (by kernel_rfl) (by kernel_rfl) (fun _ _ _ h => h) (yieldsIf_load_mid (by rfl) 39 _ rfl w.heap.size 0 rfl (acs x) _ (RX.out) Try.underlying39 rfl (infoAcs _)) (by assumption) ?_
  try simp only [Act.put, List.setIfInBounds_toArray, List.set_cons_zero, List.set_cons_succ]
  refine wpAnyH_ready (rs := [7]) (by kernel_rfl) (by simp) ?_
  refine AllReadyH.cons (o := ⟨_, _, _, _, _, _⟩) rfl (fun K hK => ?_) AllReadyH.nil
  go_simp
  go_wp2_with (go_at_call 34; refine KC.out.mono ?_; rintro e w6 ⟨r, s, rfl, ha, b6⟩)
  have HA6 := Lib.hid ha
  have H6 := HC5.out.drew.below b6
  have HC6 := Lib.hid H6
  obtain ⟨w7, hU, hm7, g7⟩ := H6.km.update Try.underlying70 (by unfold maxLen; omega) HA.out (aval ⟨x.a, r, s⟩)
  unfold aval at hU
  have HU := Lib.hid hU
  have HG6 := Lib.hid b6
  have HG7 := Lib.hid g7
  have HM7 := Lib.hid hm7
  have F6 := Lib.hid (stay b6 (show w5.drew.heap[w.heap.size]? = _ from F5.out))
  obtain ⟨-, -, -, -, r6⟩ := boxcells F6.out
  have D6 := Lib.hid (And.intro H6.cell0 (And.intro r6 (rng_block F6.out).at))
  have F7 : Hid (w7.heap[w.heap.size]? = some (.cells (acs x).toArray 39)) := Lib.hid (by obtain ⟨es, clock, hm⟩ := map_blk H6.km; exact grown_cells hm g7 _ _ _ _ F6.out)
  have d7 : w7.cell? ⟨c.cb, 0, none⟩ = some (.map (some c.kb)) := (by obtain ⟨es, clock, hm⟩ := map_blk H6.km; exact blk_cell (grown_cells hm g7 _ _ _ _ H6.blk) rfl)
  obtain ⟨-, -, -, -, r7⟩ := boxcells F7.out
  have D7 := Lib.hid (And.intro d7 (And.intro r7 (rng_block F7.out).at))
  clear ha b6 hm7 g7 H6 hU d7 r7 r6
  refine hK.out _ _ (D6.out) (fun hHeld => ?_)
  clear hK K
  try simp only [Act.put, List.setIfInBounds_toArray, List.set_cons_zero, List.set_cons_succ]
  refine wpAnyH_ready (rs := [8]) (by kernel_rfl) (by simp) ?_
  refine AllReadyH.cons (o := ⟨_, _, _, _, _, _⟩) rfl (fun K hK => ?_) AllReadyH.nil
  have hU := HU.out
  go_simp
  clear hU
  refine hK.out _ _ (D7.out) (fun hHeld => ?_)
  clear hK K
  try simp only [Act.put, List.setIfInBounds_toArray, List.set_cons_zero, List.set_cons_succ]
  refine wpAnyH_done (by kernel_rfl) ?_ _
  clear C0 RA RX D1 D6 D7 hHeld huA hiA huB hiB KC
  go_wp2_with fail
  go_ret
  exact fill_done H0.out HT.out HR.out HG5.out HC6.out HG6.out HG7.out HM7.out HA6.out
theorem fill_walk (h : CacheAt Z w c kf tf n) (x : AV) (hx : AccZ (hp w) x) (hn : n < 1000000) :
    Calls Try.prog 13 #[.pointer (some ⟨c.cb, 0, none⟩), aval x] w fun e w' => ∃ Z' kf' tf', FillIs Z w c kf tf n x e w' Z' kf' tf' := by
  cases hb : (tf x.a.ad).isSome && rightA x.a with
  | true =>
    rw [Bool.and_eq_true] at hb
    exact fill_yes h x hx hb.1 hb.2 hn
  | false =>
    refine (fill_no _ x w hx (tf x.a.ad).isSome ?_ (Lib.hid fun w1 b1 => fetches_walk (h.below b1) _ hx.ad)).mono fun e w' ⟨he, hw⟩ => ⟨Z, kf, tf, by rw [he, hb], (h.below hw).mono (Nat.le_succ n), .refl _, .of_below hw, fun b o ho => .inl ho, fun _ => ⟨rfl, rfl⟩, fun e => by rw [hb] at e; cases e⟩
    cases ht : (tf x.a.ad).isSome with
    | false => exact .inl rfl
    | true => rw [ht] at hb; exact .inr hb
end
theorem fill_nil (x : AV) (w : World) (h : AccZ (hp w) x) : Calls Try.prog 13 #[.pointer none, aval x] w fun e w' => e = .returned (.bool false) ∧ Below w.heap.size w w' :=
  fill_no none x w h false (.inl rfl) (Lib.hid fun w1 _ => fetches_nil _ w1)
end Go.Proofs.Ytdgenbidgieojaa
/- A row of addresses, sorted. -/
namespace Go.Proofs.Ytdgenbidgieojaa
open Go.RowKit SmWord Go.Sort
set_option maxRecDepth 100000

/-- An address's cells. -/
def ecs (A : Nat) : List Value := (aN A).toList
theorem ecs_len (A : Nat) : (ecs A).length = 20 := by simp [ecs, aN_size]
theorem ecs_one (A : Nat) : ∀ v ∈ ecs A, v.oneCell' = true := fun v hv => (Array.all_eq_true_iff_forall_mem.1 (arr_one .u8 20 _)) v (by simpa [ecs, aN] using hv)
theorem flatK_list (enc : Nat → List Value) (k : Nat) (hk0 : 0 < k) (hk : ∀ x, (enc x).length = k) (l : List Nat) : (flatK enc k l.toArray).toList = l.flatMap enc := by
  apply List.ext_getElem?
  intro t
  have hlen : (l.flatMap enc).length = l.length * k := flat_len l fun x _ => hk x
  by_cases ht : t < l.length * k
  · have h1 : t / k < l.length := (Nat.div_lt_iff_lt_mul hk0).2 ht
    have h2 : t % k < (enc l[t / k]).length := by rw [hk]; exact Nat.mod_lt _ hk0
    have h3 := flat_get l (fun x _ => hk x) (t / k) l[t / k] (List.getElem?_eq_getElem h1) (t % k) _ (List.getElem?_eq_getElem h2)
    rw [show t / k * k + t % k = t by rw [Nat.mul_comm]; exact Nat.div_add_mod t k] at h3
    rw [h3, Array.getElem?_toList, flatK]
    have h4 : t < (l.toArray).size * k := by simpa using ht
    simp only [Array.getElem?_map, Array.getElem?_range, h4, if_true, Option.map_some]
    rw [getElem!_pos l.toArray (t / k) (by simpa using h1)]
    simp only [List.getElem_toArray]
    rw [getElem!_pos (enc l[t / k]) (t % k) h2]
  · rw [List.getElem?_eq_none (by simp; omega), List.getElem?_eq_none (by omega)]
theorem holds_flat {w : World} {g : Nat} {cur : Array Value} {e : TypeId} {F : Array Value} (hb : w.heap[g]? = some (.cells cur e (0, 0))) (ht : cur.toList.take F.size = F.toList) : Holds id w g 0 F := by
  intro j hj
  refine ⟨?_, by simp [World.frozen?, hb]⟩
  have h1 : (cur.toList.take F.size)[j]? = F.toList[j]? := by rw [ht]
  rw [List.getElem?_take_of_lt hj] at h1
  simp only [World.cell?, hb, Nat.zero_add]
  simp only [Option.isSome_none, Bool.false_eq_true, if_false]
  rw [← Array.getElem?_toList, h1]
  simp [hj]
theorem heap_flat {w : World} {g n : Nat} {os : Array Obj} {cur : Array Value} {e : TypeId} {fr : Nat × Nat} (F : Array Value) (hb : w.heap[g]? = some (.cells cur e fr)) :
    (grow (putRow id (Sort.ahead w n) g 0 F) os).heap[g]? = some (.cells (putCells id 0 F cur) e fr) := by
  have hg : g < w.heap.size := (Array.getElem?_eq_some_iff.1 hb).1
  rw [heap_grow_old _ _ (by simpa using hg)]
  simp [putRow, mapBlock, Sort.ahead, Array.getElem?_modify, hb, onCells]
theorem grownBy_flat {w : World} {g n : Nat} {os : Array Obj} (F : Array Value) : w.grownBy (grow (putRow id (Sort.ahead w n) g 0 F) os) (some g) := by
  refine ⟨rfl, rfl, rfl, by simp, fun k hk hne => ?_⟩
  rw [heap_grow_old _ _ (by simpa using hk)]
  have : g ≠ k := fun e => hne (by rw [e])
  simp [putRow, mapBlock, Sort.ahead, Array.getElem?_modify, this]
theorem take_flat (cur F : Array Value) (h : F.size ≤ cur.size) : (putCells id 0 F cur).toList.take F.size = F.toList := by
  apply List.ext_getElem?
  intro j
  by_cases hj : j < F.size
  · rw [List.getElem?_take_of_lt hj, Array.getElem?_toList]
    simp [putCells, hj, show j < cur.size by omega]
  · rw [List.getElem?_take_eq_none (by omega), List.getElem?_eq_none (by simp; omega)]
def ordE (x y : Nat) : Int := cmpN (x % 256 ^ 20) (y % 256 ^ 20)
theorem ordE_lt (x y : Nat) : ltOf ordE x y = decide (x % 256 ^ 20 < y % 256 ^ 20) := by
  unfold ltOf ordE cmpN
  generalize x % 256 ^ 20 = a
  generalize y % 256 ^ 20 = b
  by_cases h1 : a < b
  · simp [h1]
  · by_cases h2 : b < a <;> simp [h1, h2]
theorem swoE : SWO (ltOf ordE) where
  irrefl x := by rw [ordE_lt]; simp
  trans x y z h1 h2 := by rw [ordE_lt] at *; simp only [decide_eq_true_eq] at *; omega
  ntrans x y z h1 h2 := by rw [ordE_lt] at *; simp only [decide_eq_false_iff_not] at *; omega
theorem asort_walk {w : World} {base : Nat} {v : Value} {xs : List Nat} (h : w.ownsRow base 32 20 v xs.length (xs.flatMap ecs)) (hn : xs.length ≤ 4294967296) :
    Calls Try.prog 47 #[v, .func (.func 37) #[] #[]] w fun e w' => e = .returned (.tuple #[]) ∧ ∃ ys : List Nat, ys.Perm xs ∧ ys.Pairwise (fun x y => x % 256 ^ 20 ≤ y % 256 ^ 20) ∧
      w'.ownsRow base 32 20 v xs.length (ys.flatMap ecs) ∧ w.grownBy w' v.ownBlock := by
  rcases h.2 with ⟨rfl, hz⟩ | ⟨g, cap, cur, rfl, hb, hg, hnc, hcM, hcs, ht⟩
  · have hx : xs = [] := List.eq_nil_of_length_eq_zero hz
    subst hx
    refine (AnyF.slices_SortFunc_none Try.sortA none 0 _ w).mono fun e w' ⟨he, hw⟩ => ?_
    subst hw
    exact ⟨he, [], .nil, .nil, h, ⟨rfl, rfl, rfl, Nat.le_refl _, fun _ _ _ => rfl⟩⟩
  · have hF : (flatK ecs 20 xs.toArray).toList = xs.flatMap ecs := by rw [flatK_list ecs 20 (by decide) ecs_len]
    have hsz : (flatK ecs 20 xs.toArray).size = xs.length * 20 := by simp
    have hH : HoldsK ecs 20 w g 0 xs.toArray := holds_flat hg (by rw [hsz, hF, ht])
    have hlt := (Array.getElem?_eq_some_iff.1 hg).1
    have eg : ∀ args w, (callFunc 37 args).run Try.prog w = .ok (.enter 37 args) w := enters_of Try.func37 (by kernel_rfl) rfl
    have hcmp : CmpLays Try.prog 37 #[] ecs 20 ordE g 0 xs.toArray.size w := fun m os dk _ x y => (acompare_walk x y _).mono fun _ _ ⟨he, hw⟩ => ⟨he, 1, hw⟩
    have hcon := AnyQ.slices_SortFunc Try.sortA 20 (fun w => Try.isAgg32 w) (fun w => Try.sizeOf32 w) ecs ecs_len ecs_one ordE swoE 37 #[] g 0 cap xs.toArray w eg hcmp hH hlt (by simp; omega)
    simp only [List.size_toArray] at hcon
    refine hcon.mono fun e w' ⟨he, d', m, os, hp, hs, hw⟩ => ?_
    subst hw
    have hds : d'.size = xs.length := by simpa using hp.1
    have hperm : d'.toList.Perm xs := by
      have := hp.2.2
      rw [Array.extract_eq_self_of_le (by omega), Array.extract_eq_self_of_le (by simp)] at this
      simpa using this
    have hF' : (flatK ecs 20 d').toList = d'.toList.flatMap ecs := by
      have := flatK_list ecs 20 (by decide) ecs_len d'.toList
      rw [Array.toArray_toList] at this
      rw [this]
    have hsz' : (flatK ecs 20 d').size = xs.length * 20 := by simp [hds]
    refine ⟨he, d'.toList, hperm, ?_, ⟨by rw [flat_len (k := 20) _ fun x _ => ecs_len x]; simp [hds], .inr ⟨g, cap, _, rfl, hb, heap_flat (flatK ecs 20 d') hg, hnc, hcM, by simp [putCells, hcs], ?_⟩⟩, grownBy_flat _⟩
    · rw [List.pairwise_iff_getElem]
      intro i j hi hj hij
      have hj' : j < d'.size := by simpa using hj
      have := hs i j (Nat.zero_le _) hij (by omega)
      rw [ordE_lt, getElem!_pos d' j hj', getElem!_pos d' i (by omega)] at this
      simp only [decide_eq_false_iff_not, Nat.not_lt] at this
      simpa using this
    · rw [← hsz', take_flat _ _ (by rw [hsz', hcs]; exact Nat.mul_le_mul_right _ hnc), hF']
end Go.Proofs.Ytdgenbidgieojaa
/- The addresses of which a map has something, rising: Known, Fetched. -/
namespace Go.Proofs.Ytdgenbidgieojaa
open Go.RowKit SmWord Go.Maps
set_option maxRecDepth 100000

theorem infoAd27 : (Try.prog.info? 32).map (fun i => (i.zero, i.size, i.bytes)) = some (some (.agg (aN 0)), 20, 20) := by kernel_rfl
theorem rowOneA {w : World} {A : Nat} {b : Nat} (h : w.heap[b]? = some (.cells (aN A) 32)) : RowZ (hp w) (.slice (some ⟨b, 0, none⟩) 1 1) 1 20 (ecs A) :=
  ⟨by simp [ecs_len], some ⟨b, 0, none⟩, 1, rfl, Nat.le_refl _, by simp [maxLen], fun h => by simp at h, fun _ => ⟨b, 0, rfl, rng_block (cs := ecs A) (by simpa [ecs] using h)⟩⟩
theorem run_bslice20 (x0 x1 x2 x3 x4 x5 x6 x7 x8 x9 x10 x11 x12 x13 x14 x15 x16 x17 x18 x19 : Value) (w : World) : (Instr.buildSlice 55 1 #[(0, .agg #[x0, x1, x2, x3, x4, x5, x6, x7, x8, x9, x10, x11, x12, x13, x14, x15, x16, x17, x18, x19])]).run Try.prog w = .ok (.slice (some ⟨w.heap.size, 0, none⟩) 1 1) (w.alloc (.cells #[x0, x1, x2, x3, x4, x5, x6, x7, x8, x9, x10, x11, x12, x13, x14, x15, x16, x17, x18, x19] 32)) := by kernel_rfl
theorem run_bslice_ad (A : Nat) (w : World) : (Instr.buildSlice 55 1 #[(0, .agg (aN A))]).run Try.prog w = .ok (.slice (some ⟨w.heap.size, 0, none⟩) 1 1) (w.alloc (.cells (aN A) 32)) := by
  obtain ⟨x0, x1, x2, x3, x4, x5, x6, x7, x8, x9, x10, x11, x12, x13, x14, x15, x16, x17, x18, x19, e⟩ := list20 (aN_size A)
  rw [e]
  exact run_bslice20 x0 x1 x2 x3 x4 x5 x6 x7 x8 x9 x10 x11 x12 x13 x14 x15 x16 x17 x18 x19 w
theorem wpList_bslice_ad {ops : Array Oper} {rest : List Oper} {o : Oper} {a : Act} {w : World} {Q : Exit → Act → World → Prop} (hg : o.guard = none) (x : Operand) (ho : o.op = .buildSlice 55 1 #[(0, x)]) (A : Nat) (hx : a.eval x = .agg (aN A)) (h : wpList Try.prog ops Q rest (a.put o.dst (.slice (some ⟨w.heap.size, 0, none⟩) 1 1)) (w.alloc (.cells (aN A) 32))) : wpList Try.prog ops Q (o :: rest) a w := by
  refine wpList_plain hg fun K hK => ?_
  have hr := run_bslice_ad A w
  unfold Oper.wp
  simp [execOp, ho, hx, hr, Result.andThen]
  exact hK _ _ h
/-- What is gathered while a map is gone through. -/
structure Pr (w0 : World) (mb n : Nat) (f : Nat → Option Value) (r : Nat) (wr : World) (left : Nat → Bool) (cnt : Nat) (val : Value) (xs : List Nat) : Prop where
  it : rangesIs wr mb r n f left cnt
  below : Below w0.heap.size w0 wr
  rge : w0.heap.size ≤ r
  rne : ∀ b, val.ownBlock = some b → b ≠ r
  mbl : mb < w0.heap.size
  own : wr.ownsRow w0.heap.size 32 20 val xs.length (xs.flatMap ecs)
  mem : ∀ A, A < 2 ^ 160 → (A ∈ xs ↔ ((f A).isSome = true ∧ left A = false))
  nod : xs.Nodup
  lt : ∀ A ∈ xs, A < 2 ^ 160
  le : xs.length + cnt ≤ n
section
variable {w0 wr wa wc we : World} {mb n r cnt cnt' A : Nat} {f : Nat → Option Value} {left : Nat → Bool} {val v' : Value} {xs : List Nat}
theorem Pr.ownS (h : Pr w0 mb n f r wr left cnt val xs) (hra : wr.grownBy wa (some r)) (hbe : Below wa.heap.size wa we) : we.ownsRow w0.heap.size 32 20 val xs.length (xs.flatMap ecs) :=
  own_same h.own fun b hb => by
    have z1 := hra.size
    obtain ⟨q1, q2⟩ := h.own.lt b hb
    rw [hbe.block b (by omega), hra.block b q2 (by simpa using h.rne b hb)]
theorem Pr.push (h : Pr w0 mb n f r wr left cnt val xs) (hA : A < 2 ^ 160) (hl : left A = true) (hf : (f A).isSome = true) (hit : rangesIs wa mb r n f (fun B => left B && !decide (B = A)) cnt') (hcnt : cnt' < cnt) (hra : wr.grownBy wa (some r)) (hac : Below wa.heap.size wa wc)
    (ho : we.ownsRow w0.heap.size 32 20 v' (xs.length + 1) (xs.flatMap ecs ++ ecs A)) (hde : wc.grownBy we val.ownBlock) (hloc : v'.ownBlock = val.ownBlock ∨ v'.ownBlock = some wc.heap.size) :
    Pr w0 mb n f r we (fun B => left B && !decide (B = A)) cnt' v' (xs ++ [A]) := by
  have z1 := hra.size
  have z2 := hac.size
  have z3 := hde.size
  have z0 := h.below.size
  have hrl := hit.lt
  have hmbl := h.mbl
  have hmr : ∀ b, val.ownBlock = some b → b ≠ mb := fun b hb e => by
    have := (h.own.lt b hb).1
    omega
  have hblk : ∀ b, b < wa.heap.size → (∀ b', val.ownBlock = some b' → b ≠ b') → we.heap[b]? = wa.heap[b]? := fun b hb hn =>
    (hde.block b (by omega) (fun e => hn b e.symm rfl)).trans (hac.block b hb)
  refine ⟨hit.same (hblk mb (by omega) fun b' hb' e => hmr b' hb' e.symm) (hblk r hrl fun b' hb' e => h.rne b' hb' e.symm), ?_, h.rge, fun b hb e => ?_, hmbl, ?_, fun B hB => ?_, ?_, fun B hB => ?_, ?_⟩
  · have b1 : Below w0.heap.size w0 wa := h.below.grown hra (by omega) (fun k hk => by cases hk; exact h.rge)
    exact (b1.trans (hac.mono b1.size)).grown hde (by omega) (fun k hk => (h.own.lt k hk).1)
  · rcases hloc with hl' | hl'
    · exact h.rne b (hl' ▸ hb) e
    · rw [hl'] at hb
      have := Option.some.inj hb
      omega
  · rw [List.flatMap_append, List.length_append]
    simpa using ho
  · rw [List.mem_append, List.mem_singleton, h.mem B hB]
    by_cases e : B = A
    · subst e; simp [hf]
    · simp [e]
  · refine List.nodup_append.2 ⟨h.nod, by simp, fun a ha c hc e => ?_⟩
    rw [List.mem_singleton] at hc
    have := ((h.mem a (h.lt a ha)).1 ha).2
    rw [e, hc, hl] at this
    cases this
  · rcases List.mem_append.1 hB with hB | hB
    · exact h.lt B hB
    · rw [List.mem_singleton] at hB; rw [hB]; exact hA
  · have := h.le
    simp only [List.length_append, List.length_singleton]
    omega
theorem Pr.start {w : World} {b n cnt : Nat} {f : Nat → Option Value} {w2 : World} (hit : rangesIs w2 b w.heap.size n f (fun A => (f A).isSome) cnt) (hg : w.grownBy w2 none) (hb : b < w.heap.size) (hc : cnt ≤ n) : Pr w b n f w.heap.size w2 (fun A => (f A).isSome) cnt (.slice none 0 0) [] :=
  ⟨hit, (Below.refl _ _).grown hg (Nat.le_refl _) (fun k hk => by cases hk), Nat.le_refl _, fun b hb => (by cases hb), hb, ⟨rfl, .inl ⟨rfl, rfl⟩⟩, fun A _ => (by cases f A <;> simp), List.Pairwise.nil, fun A hA => (by simp at hA), by simpa using hc⟩
/-- What rising answers. -/
def RisIs (w : World) (n : Nat) (f : Nat → Option Value) (e : Ending) (w' : World) : Prop :=
  ∃ (val : Value) (ys : List Nat), e = .returned val ∧ w'.ownsRow w.heap.size 32 20 val ys.length (ys.flatMap ecs) ∧ ys.Pairwise (· < ·) ∧ (∀ A, A < 2 ^ 160 → (A ∈ ys ↔ (f A).isSome = true)) ∧ (∀ A ∈ ys, A < 2 ^ 160) ∧ ys.length ≤ n ∧ Below w.heap.size w w'
theorem nodup_strict : ∀ {ys : List Nat}, ys.Pairwise (fun x y => x % 256 ^ 20 ≤ y % 256 ^ 20) → (∀ x ∈ ys, x < 2 ^ 160) → ys.Nodup → ys.Pairwise (· < ·)
  | [], _, _, _ => .nil
  | y :: ys, h, hl, hn => by
    obtain ⟨h1, h2⟩ := List.pairwise_cons.1 h
    obtain ⟨n1, n2⟩ := List.nodup_cons.1 hn
    refine List.pairwise_cons.2 ⟨fun z hz => ?_, nodup_strict h2 (fun x hx => hl x (by simp [hx])) n2⟩
    have a := h1 z hz
    rw [Nat.mod_eq_of_lt (by simpa using hl y (by simp)), Nat.mod_eq_of_lt (by simpa using hl z (by simp [hz]))] at a
    have : z ≠ y := fun e => n1 (e ▸ hz)
    omega
theorem Pr.done (h : Pr w0 mb n f r wr left cnt val xs) (hl : ∀ A, A < 2 ^ 160 → left A = false) {ys : List Nat} (hp : ys.Perm xs) (hs : ys.Pairwise (fun x y => x % 256 ^ 20 ≤ y % 256 ^ 20)) (ho : we.ownsRow w0.heap.size 32 20 val xs.length (ys.flatMap ecs)) (hg : wr.grownBy we val.ownBlock) :
    RisIs w0 n f (.returned val) we := by
  have hlt : ∀ A ∈ ys, A < 2 ^ 160 := fun A hA => h.lt A (hp.subset hA)
  refine ⟨val, ys, rfl, by rw [hp.length_eq]; exact ho, nodup_strict hs hlt ((hp.nodup_iff).2 h.nod), fun A hA => ?_, hlt, by rw [hp.length_eq]; have := h.le; omega, h.below.grown hg h.below.size (fun k hk => (h.own.lt k hk).1)⟩
  rw [hp.mem_iff, h.mem A hA, hl A hA]
  simp
end
set_option maxHeartbeats 4000000 in
theorem risK_walk {w : World} {b n : Nat} {f : Nat → Option Value} (h : mapIs w b n f) (hn : n ≤ 4000000) : Calls Try.prog 35 #[.map (some b)] w (RisIs w n f) := by
  have hsN : ∀ A, (aN A).size = 20 := aN_size
  have HM := Lib.hid h
  go_enter Try.func35, Try.ntmps35
  go_wp2_with (first
    | (refine wpList_range_map rfl _ 70 rfl 39 Try.underlying70 b n _ rfl HM.out ?_; intro w2 cnt hit hg2 hs2' hcle; have HP2 := Lib.hid (Pr.start hit hg2 HM.out.lt hcle); clear hit hg2))
  go_frame
  go_loopw [3] (fun v3 wx => ∃ left cnt xs, Hid (Pr w b n f w.heap.size wx left cnt v3 xs)) (fun _ wx => wx.rangeLeft b w.heap.size)
  case atStart => exact ⟨_, _, _, HP2⟩
  case round =>
    obtain ⟨left, cnt, xs, HQ⟩ := hrel
    clear HP2
    rcases HQ.out.it.next 0 with ⟨hc0, hl0, hrun⟩ | ⟨A, vv, wa, cnt', hA, hlA, hvA, hrun, hita, hcl, hga, hsa, hen⟩
    · have HL0 := Lib.hid hl0
      have hlen : xs.length ≤ 4294967296 := by have := HQ.out.le; omega
      have KS := Lib.hid (asort_walk HQ.out.own hlen)
      obtain ⟨A1, c1, e1⟩ := own_sl HQ.out.own
      subst e1
      clear hl0 hlen
      go_wp2_with (go_at_call 47; refine KS.out.mono ?_; rintro e w3 ⟨rfl, ys, hp, hs, ho, hg⟩)
      go_ret
      exact HQ.out.done HL0.out hp hs ho hg
    · have sn := store_newAd
      obtain ⟨A1, c1, e1⟩ := own_sl HQ.out.own
      subst e1
      obtain ⟨Wk, hWk⟩ : ∃ Wk, wa.alloc (.cells (aN A) 32) = Wk := ⟨_, rfl⟩
      have k0 : Wk.heap[wa.heap.size]? = some (.cells (aN A) 32) := hWk ▸ heap_alloc_new _ _
      have hK : Below wa.heap.size wa Wk := hWk ▸ (Below.refl _ _).alloc (Nat.le_refl _) _
      have r0 := adblk k0
      have bA5 : Below wa.heap.size wa (Wk.alloc (.cells (aN A) 32)) := hK.trans (((Below.refl _ _).alloc (Nat.le_refl _) _).mono hK.size)
      have HA5 := Lib.hid bA5
      have HO5 := Lib.hid (HQ.out.ownS hga bA5)
      have HR5 := Lib.hid (rowOneA (heap_alloc_new Wk (.cells (aN A) 32)))
      have HGA := Lib.hid hga
      have HIA := Lib.hid hita
      have HAd := Lib.hid hA
      have HFA := Lib.hid (show (f A).isSome = true by rw [hvA]; rfl)
      have hlen : xs.length + 1 ≤ 4294967296 := by have := HQ.out.le; omega
      have hz5 : w.heap.size ≤ Wk.heap.size := by have := HQ.out.below.size; have := hga.size; have := hK.size; omega
      have ecs1 := Lib.hid (ecs_one A)
      clear bA5 k0 hK hga hita hsa hvA hA
      go_upto_region 5 with (refine wpList_alloc_row rfl 32 rfl _ zeroAd_run ?_)
      clear hWk
      go_wp2_with (first
        | (refine wpList_bslice_ad rfl _ rfl A rfl ?_)
        | (refine wpList_load_mid rfl 32 _ rfl wa.heap.size 0 rfl (aN A).toList _ r0 Try.underlying32 rfl (infoAd A) ?_; simp only [Array.toArray_toList])
        | (refine append_row rfl _ _ 55 rfl 32 (.agg (aN 0)) 20 20 Try.underlying55 infoAd27 (by simp [Value.cells, aN_size]) (by decide) (by decide) w.heap.size (.slice A1 xs.length c1) xs.length (xs.flatMap ecs) rfl HO5.out (.slice (some ⟨Wk.heap.size, 0, none⟩) 1 1) 1 (ecs A) rfl HR5.out ecs1.out (by omega) (by simp; omega) ?_
           intro v7 w7 ho7 hg7 hl7
           have HO7 := Lib.hid ho7
           have HG7 := Lib.hid hg7
           have HL7 := Lib.hid hl7
           obtain ⟨A7, c7, rfl⟩ := own_sl ho7
           clear ho7 hg7 hl7))
      have HP3 := HQ.out.push HAd.out hlA HFA.out HIA.out hcl HGA.out HA5.out HO7.out HG7.out HL7.out
      rw [← List.length_singleton (a := A), ← List.length_append] at HP3 ⊢
      exact ⟨⟨_, _, _, Lib.hid HP3⟩, by rw [HP3.it.left_eq, HQ.out.it.left_eq]; exact hcl⟩
set_option maxHeartbeats 4000000 in
theorem risT_walk {w : World} {b n : Nat} {f : Nat → Option Value} (h : mapIs w b n f) (hn : n ≤ 4000000) : Calls Try.prog 36 #[.map (some b)] w (RisIs w n f) := by
  have hsN : ∀ A, (aN A).size = 20 := aN_size
  have HM := Lib.hid h
  go_enter Try.func36, Try.ntmps36
  go_wp2_with (first
    | (refine wpList_range_map rfl _ 71 rfl 3 Try.underlying71 b n _ rfl HM.out ?_; intro w2 cnt hit hg2 hs2' hcle; have HP2 := Lib.hid (Pr.start hit hg2 HM.out.lt hcle); clear hit hg2))
  go_frame
  go_loopw [3] (fun v3 wx => ∃ left cnt xs, Hid (Pr w b n f w.heap.size wx left cnt v3 xs)) (fun _ wx => wx.rangeLeft b w.heap.size)
  case atStart => exact ⟨_, _, _, HP2⟩
  case round =>
    obtain ⟨left, cnt, xs, HQ⟩ := hrel
    clear HP2
    rcases HQ.out.it.next 0 with ⟨hc0, hl0, hrun⟩ | ⟨A, vv, wa, cnt', hA, hlA, hvA, hrun, hita, hcl, hga, hsa, hen⟩
    · have HL0 := Lib.hid hl0
      have hlen : xs.length ≤ 4294967296 := by have := HQ.out.le; omega
      have KS := Lib.hid (asort_walk HQ.out.own hlen)
      obtain ⟨A1, c1, e1⟩ := own_sl HQ.out.own
      subst e1
      clear hl0 hlen
      go_wp2_with (go_at_call 47; refine KS.out.mono ?_; rintro e w3 ⟨rfl, ys, hp, hs, ho, hg⟩)
      go_ret
      exact HQ.out.done HL0.out hp hs ho hg
    · have sn := store_newAd
      obtain ⟨A1, c1, e1⟩ := own_sl HQ.out.own
      subst e1
      obtain ⟨Wk, hWk⟩ : ∃ Wk, wa.alloc (.cells (aN A) 32) = Wk := ⟨_, rfl⟩
      have k0 : Wk.heap[wa.heap.size]? = some (.cells (aN A) 32) := hWk ▸ heap_alloc_new _ _
      have hK : Below wa.heap.size wa Wk := hWk ▸ (Below.refl _ _).alloc (Nat.le_refl _) _
      have r0 := adblk k0
      have bA5 : Below wa.heap.size wa (Wk.alloc (.cells (aN A) 32)) := hK.trans (((Below.refl _ _).alloc (Nat.le_refl _) _).mono hK.size)
      have HA5 := Lib.hid bA5
      have HO5 := Lib.hid (HQ.out.ownS hga bA5)
      have HR5 := Lib.hid (rowOneA (heap_alloc_new Wk (.cells (aN A) 32)))
      have HGA := Lib.hid hga
      have HIA := Lib.hid hita
      have HAd := Lib.hid hA
      have HFA := Lib.hid (show (f A).isSome = true by rw [hvA]; rfl)
      have hlen : xs.length + 1 ≤ 4294967296 := by have := HQ.out.le; omega
      have hz5 : w.heap.size ≤ Wk.heap.size := by have := HQ.out.below.size; have := hga.size; have := hK.size; omega
      have ecs1 := Lib.hid (ecs_one A)
      clear bA5 k0 hK hga hita hsa hvA hA
      go_upto_region 5 with (refine wpList_alloc_row rfl 32 rfl _ zeroAd_run ?_)
      clear hWk
      go_wp2_with (first
        | (refine wpList_bslice_ad rfl _ rfl A rfl ?_)
        | (refine wpList_load_mid rfl 32 _ rfl wa.heap.size 0 rfl (aN A).toList _ r0 Try.underlying32 rfl (infoAd A) ?_; simp only [Array.toArray_toList])
        | (refine append_row rfl _ _ 55 rfl 32 (.agg (aN 0)) 20 20 Try.underlying55 infoAd27 (by simp [Value.cells, aN_size]) (by decide) (by decide) w.heap.size (.slice A1 xs.length c1) xs.length (xs.flatMap ecs) rfl HO5.out (.slice (some ⟨Wk.heap.size, 0, none⟩) 1 1) 1 (ecs A) rfl HR5.out ecs1.out (by omega) (by simp; omega) ?_
           intro v7 w7 ho7 hg7 hl7
           have HO7 := Lib.hid ho7
           have HG7 := Lib.hid hg7
           have HL7 := Lib.hid hl7
           obtain ⟨A7, c7, rfl⟩ := own_sl ho7
           clear ho7 hg7 hl7))
      have HP3 := HQ.out.push HAd.out hlA HFA.out HIA.out hcl HGA.out HA5.out HO7.out HG7.out HL7.out
      rw [← List.length_singleton (a := A), ← List.length_append] at HP3 ⊢
      exact ⟨⟨_, _, _, Lib.hid HP3⟩, by rw [HP3.it.left_eq, HQ.out.it.left_eq]; exact hcl⟩
theorem known_walk {Z : Hp} {w : World} {c : Cb} {kf : Nat → Option AV} {tf : Nat → Option Nat} {n : Nat} (h : CacheAt Z w c kf tf n) (hn : n ≤ 4000000) : Calls Try.prog 21 #[.pointer (some ⟨c.cb, 0, none⟩)] w (RisIs w n (kF kf)) := by
  have c0 := h.cell0
  have KR := Lib.hid (risK_walk h.km hn)
  clear h
  go_enter Try.func21, Try.ntmps21
  go_wp2_with (go_at_call 35; refine KR.out.mono ?_; rintro e w1 ⟨val, ys, rfl, h1⟩; have H1 := Lib.hid h1; clear h1)
  go_ret
  exact ⟨_, _, rfl, H1.out⟩
theorem known_nil (w : World) : Calls Try.prog 21 #[.pointer none] w fun e w' => e = .returned (.slice none 0 0) ∧ w = w' := by
  go_enter Try.func21, Try.ntmps21
  go_wp2_with fail
  go_ret
  exact ⟨rfl, rfl⟩
theorem fetched_walk {Z : Hp} {w : World} {c : Cb} {kf : Nat → Option AV} {tf : Nat → Option Nat} {n : Nat} (h : CacheAt Z w c kf tf n) (hn : n ≤ 4000000) : Calls Try.prog 22 #[.pointer (some ⟨c.cb, 0, none⟩)] w (RisIs w n (tF tf)) := by
  have c0 := h.cell1
  have KR := Lib.hid (risT_walk h.tm hn)
  clear h
  go_enter Try.func22, Try.ntmps22
  go_wp2_with (go_at_call 36; refine KR.out.mono ?_; rintro e w1 ⟨val, ys, rfl, h1⟩; have H1 := Lib.hid h1; clear h1)
  go_ret
  exact ⟨_, _, rfl, H1.out⟩
theorem fetched_nil (w : World) : Calls Try.prog 22 #[.pointer none] w fun e w' => e = .returned (.slice none 0 0) ∧ w = w' := by
  go_enter Try.func22, Try.ntmps22
  go_wp2_with fail
  go_ret
  exact ⟨rfl, rfl⟩
end Go.Proofs.Ytdgenbidgieojaa
