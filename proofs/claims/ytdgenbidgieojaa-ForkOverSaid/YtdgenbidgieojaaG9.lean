/- Maps keyed by addresses: asked for with 'ok'; a key taken out. -/
import Derived.Test.YtdgenbidgieojaaG4
import Derived.Test.YtdgenbidgieojaaG6
import Derived.Test.YtdgenbidgieojaaG1
import Derived.Deep.RegionHeldLaw
namespace Go.Proofs.Ytdgenbidgieojaa
open Go.RowKit SmWord Go.Maps Go.MapKept Go.ChangeMaps
set_option maxRecDepth 100000

section
variable {w : World} {b n : Nat} {f : Nat → Option Value}
/-- A key taken out. -/
def updN (f : Nat → Option Value) (A : Nat) : Nat → Option Value := fun B => if B = A then none else f B
theorem SaysF.del {D : DataW Value} {f : Nat → Option Value} (h : SaysF D f) {A : Nat} (hA : A < 2 ^ 160) : SaysF (D.del (kl A)) (updN f A) := by
  refine ⟨fun B hB zd => ?_, fun B hB => ?_, fun l hl => ?_⟩
  · unfold updN
    by_cases e : B = A
    · subst e; rw [atKey_del_same]; simp
    · rw [atKey_del_other (fun e' => e (kl_inj hB hA e')), h.at' B hB]; simp [e]
  · unfold updN
    by_cases e : B = A
    · subst e; rw [has_del_same]; simp
    · rw [has_del_other (fun e' => e (kl_inj hB hA e')), h.has B hB]; simp [e]
  · by_cases e : l = kl A
    · exact ⟨A, hA, e⟩
    · rw [has_del_other e] at hl
      exact h.only l hl
theorem mapIs.look_ok {t e : TypeId} (h : mapIs w b n f) (ht : Try.prog.underlying t = some (.map 32 e)) {z : Value} (hz : (zeroValue e).run Try.prog w = .ok z w) {A : Nat} (hA : A < 2 ^ 160) :
    (Instr.lookup t (.map (some b)) (.agg (aN A)) true).run Try.prog w = .ok (.tuple #[(f A).getD z, .bool (f A).isSome]) w := by
  obtain ⟨D, h, s⟩ := h
  obtain ⟨v, ps, hrun, hv⟩ := h.look_ok (zd := .held z) (zp := []) lawA ht hz rfl (key_kl A)
  rw [s.at' A hA] at hv
  rw [hrun, s.has A hA]
  congr 3
  unfold hR at hv
  cases hf : f A with
  | none => rw [hf] at hv; simp at hv; rw [hv.1]; rfl
  | some y => rw [hf] at hv; simp at hv; rw [hv.1]; rfl
theorem mapIs.drop {t e : TypeId} (h : mapIs w b n f) (ht : Try.prog.underlying t = some (.map 32 e)) {A : Nat} (hA : A < 2 ^ 160) (ty : TypeId) :
    ∃ w', (Builtin.delete_ #[t, 32] ty #[.map (some b), .agg (aN A)]).run Try.prog w = .ok (.tuple #[]) w' ∧ mapIs w' b n (updN f A) ∧ w.grownBy w' (some b) := by
  obtain ⟨D, h, s⟩ := h
  obtain ⟨w', hrun, h', hg⟩ := h.drop lawA ht (key_kl A) ty
  exact ⟨w', hrun, ⟨_, h', s.del hA⟩, hg.grown⟩
/-- An entry that is there already: its place is made ready, and nothing has changed. -/
theorem mapIs.entry_hit {t e : TypeId} (h : mapIs w b n f) (ht : Try.prog.underlying t = some (.map 32 e)) (hn : n < maxLen) {z : Value} (hz : ∀ u : World, (zeroValue e).run Try.prog u = .ok z u) {A : Nat} (hA : A < 2 ^ 160) {v : Value} (hv : f A = some v) :
    ∃ (st : Nat) (w1 : World), (Instr.mapEntry t (.map (some b)) (.agg (aN A))).run Try.prog w = .ok (.tuple #[v, goInt st]) w1 ∧ w1.heap[b]? = w.heap[b]? ∧ w.grownBy w1 (some b) ∧ w1.heap.size = w.heap.size ∧
      ∀ (w2 : World) (val : Value), w2.heap[b]? = w1.heap[b]? → ∃ w3, (Instr.entryStore t (.map (some b)) (goInt st) val).run Try.prog w2 = .ok () w3 ∧ mapIs w3 b (n + 1) (upd f A val) ∧ w2.grownBy w3 (some b) ∧ w3.heap.size = w2.heap.size := by
  have hl := h.look_ok ht (hz w) hA
  obtain ⟨st, w1, hE, hg, hs, -, hS⟩ := h.entry ht hn hz hA
  rw [hv] at hl hE
  refine ⟨st, w1, hE, ?_, hg, hs, hS⟩
  obtain ⟨D, ⟨es, clock, hb, F, hsz, hD⟩, s⟩ := h
  rcases lawAN.find w (key_kl A) es.toList F.keys with ⟨h1, h2⟩ | ⟨j, e0, h1, h2, h3⟩
  · simp [Instr.lookup, run_underlying ht, MapKept.run_getObj_map hb, lawAN.check w _ (key_kl A), h1, hz, Result.andThen] at hl
  · have hj : es[j]? = some e0 := by simpa using h2
    have hsame : es.modify j (fun e => { e with key := .agg (aN A) }) = es := by
      apply Array.ext'
      rw [Array.toList_modify, modify_eq_set _ _ _ _ h2]
      have : ({ e0 with key := .agg (aN A) } : MapEntry) = e0 := by rw [← h3]
      rw [this]
      exact WideElems.set_self _ _ _ h2
    simp [Instr.mapEntry, run_underlying ht, MapKept.run_getObj_map hb, lawAN.check w false (key_kl A), h1, hj, h3, lawAN.stays w (key_kl A), hsame, MapKept.run_setObj_map _ hb, Result.andThen] at hE
    obtain ⟨_, rfl⟩ := hE
    rw [hb]
    exact ChangeMaps.heap_setBlock_same hb _
end
end Go.Proofs.Ytdgenbidgieojaa
/- A remote chain's accounts in memory: how they lie; what is known, what is being fetched. -/
namespace Go.Proofs.Ytdgenbidgieojaa
open Go.RowKit SmWord Go.Maps
set_option maxRecDepth 100000

/-- All but some blocks is as it was. -/
structure Tch (s : Nat → Prop) (w w' : World) : Prop where
  os : w'.os = w.os
  tape : w'.tape = w.tape
  output : w'.output = w.output
  size : w.heap.size ≤ w'.heap.size
  block : ∀ k, k < w.heap.size → ¬ s k → w'.heap[k]? = w.heap[k]?
theorem Tch.refl (s : Nat → Prop) (w : World) : Tch s w w := ⟨rfl, rfl, rfl, Nat.le_refl _, fun _ _ _ => rfl⟩
theorem Tch.trans {s : Nat → Prop} {a b c : World} (h : Tch s a b) (k : Tch s b c) : Tch s a c :=
  ⟨k.os.trans h.os, k.tape.trans h.tape, k.output.trans h.output, Nat.le_trans h.size k.size, fun i hi hs => (k.block i (Nat.lt_of_lt_of_le hi h.size) hs).trans (h.block i hi hs)⟩
theorem Tch.of_below {s : Nat → Prop} {w w' : World} (h : Below w.heap.size w w') : Tch s w w' := ⟨h.os, h.tape, h.output, h.size, fun k hk _ => h.block k hk⟩
theorem Tch.grown {s : Nat → Prop} {w w' : World} {m : Nat} (h : w.grownBy w' (some m)) (hs : s m) : Tch s w w' :=
  ⟨h.os, h.tape, h.output, h.size, fun k hk hn => h.block k hk (fun e => by cases e; exact hn hs)⟩
theorem Tch.below {s : Nat → Prop} {w w' : World} {B : Nat} (h : Tch s w w') (hB : B ≤ w.heap.size) (hs : ∀ k, s k → B ≤ k) : Below B w w' :=
  ⟨h.os, h.tape, h.output, h.size, fun k hk => h.block k (by omega) (fun hk' => by have := hs k hk'; omega)⟩
theorem Tch.drew {s : Nat → Prop} {a w : World} (h : Tch s a w) : Tch s a w.drew := ⟨h.os, h.tape, h.output, h.size, h.block⟩
theorem Tch.sub {s : Nat → Prop} {w w' : World} {Z : Hp} (h : Tch s w w') (hz : Sub Z (hp w)) (hs : ∀ b, s b → Z b = none) : Sub Z (hp w') := fun b o ho => by
  have h1 := hz b o ho
  exact (h.block b (Array.getElem?_eq_some_iff.1 h1).1 (fun hb => by rw [hs b hb] at ho; cases ho)).trans h1

/-- A cache's blocks: its own, the map of what is known, the map of what is being fetched. -/
structure Cb where
  cb : Nat
  kb : Nat
  tb : Nat
def Cb.soft (c : Cb) (b : Nat) : Prop := b = c.cb ∨ b = c.kb ∨ b = c.tb
def kF (kf : Nat → Option AV) : Nat → Option Value := fun A => (kf A).map aval
def tF (tf : Nat → Option Nat) : Nat → Option Value := fun A => (tf A).map i64v
/-- A cache in memory. -/
structure CacheAt (Z : Hp) (w : World) (c : Cb) (kf : Nat → Option AV) (tf : Nat → Option Nat) (n : Nat) : Prop where
  sub : Sub Z (hp w)
  blk : w.heap[c.cb]? = some (.cells #[.map (some c.kb), .map (some c.tb)] 73)
  km : mapIs w c.kb n (kF kf)
  tm : mapIs w c.tb n (tF tf)
  ne : c.kb ≠ c.tb
  acc : ∀ A x, A < 2 ^ 160 → kf A = some x → AccZ Z x ∧ x.a.ad = A ∧ rightA x.a = true
  zm : ∀ b, c.soft b → Z b = none
section
variable {Z : Hp} {w : World} {c : Cb} {kf : Nat → Option AV} {tf : Nat → Option Nat} {n : Nat}
theorem CacheAt.softlt (h : CacheAt Z w c kf tf n) {b : Nat} (hb : c.soft b) : b < w.heap.size := by
  rcases hb with rfl | rfl | rfl
  · exact (Array.getElem?_eq_some_iff.1 h.blk).1
  · exact h.km.lt
  · exact h.tm.lt
theorem map_blk {w : World} {b n : Nat} {f : Nat → Option Value} (h : mapIs w b n f) : ∃ es clock, w.heap[b]? = some (.map es clock) := by
  obtain ⟨D, ⟨es, clock, hb, _⟩, _⟩ := h
  exact ⟨es, clock, hb⟩
theorem CacheAt.nek (h : CacheAt Z w c kf tf n) : c.cb ≠ c.kb := fun e => by
  obtain ⟨es, clock, hm⟩ := map_blk h.km
  rw [← e, h.blk] at hm
  cases hm
theorem CacheAt.net (h : CacheAt Z w c kf tf n) : c.cb ≠ c.tb := fun e => by
  obtain ⟨es, clock, hm⟩ := map_blk h.tm
  rw [← e, h.blk] at hm
  cases hm
theorem CacheAt.frame {w' : World} (h : CacheAt Z w c kf tf n) (hz : Sub Z (hp w')) (hm : ∀ b, c.soft b → w'.heap[b]? = w.heap[b]?) : CacheAt Z w' c kf tf n :=
  { h with
    sub := hz
    blk := (hm _ (.inl rfl)).trans h.blk
    km := h.km.same (hm _ (.inr (.inl rfl)))
    tm := h.tm.same (hm _ (.inr (.inr rfl))) }
theorem CacheAt.below {w' : World} (h : CacheAt Z w c kf tf n) (hb : Below w.heap.size w w') : CacheAt Z w' c kf tf n :=
  h.frame (h.sub.below hb) fun b hm => hb.block b (h.softlt hm)
theorem CacheAt.more {Z' : Hp} (h : CacheAt Z w c kf tf n) (hz : Sub Z Z') (hs : Sub Z' (hp w)) (hm : ∀ b, c.soft b → Z' b = none) : CacheAt Z' w c kf tf n :=
  { h with
    sub := hs
    acc := fun A x hA hx => by obtain ⟨a1, a2, a3⟩ := h.acc A x hA hx; exact ⟨a1.sub hz, a2, a3⟩
    zm := hm }
theorem CacheAt.cell0 (h : CacheAt Z w c kf tf n) : w.cell? ⟨c.cb, 0, none⟩ = some (.map (some c.kb)) := blk_cell h.blk rfl
theorem CacheAt.cell1 (h : CacheAt Z w c kf tf n) : w.cell? ⟨c.cb, 1, none⟩ = some (.map (some c.tb)) := blk_cell h.blk rfl
end
theorem zeroInt_run (w : World) : (zeroValue 3).run Try.prog w = .ok (.int .i64 0) w := by kernel_rfl
/-- Has a map something of an address? -/
theorem getAV (kf : Nat → Option AV) (A : Nat) : ((kF kf) A).getD (.agg (acs noneAV).toArray) = .agg (acs ((kf A).getD noneAV)).toArray := by
  unfold kF
  cases kf A <;> rfl
theorem oneAV {Z : Hp} {kf : Nat → Option AV} {A : Nat} (hz : ∀ x, kf A = some x → AccZ Z x) : AccZ Z ((kf A).getD noneAV) := by
  cases h : kf A with
  | none => exact noneZ Z
  | some x => exact hz x h
theorem isSomeK (kf : Nat → Option AV) (A : Nat) : ((kF kf) A).isSome = (kf A).isSome := by
  unfold kF
  cases kf A <;> rfl
theorem isSomeT (tf : Nat → Option Nat) (A : Nat) : ((tF tf) A).isSome = (tf A).isSome := by
  unfold tF
  cases tf A <;> rfl
theorem hasK_walk {Z : Hp} {w : World} {b n : Nat} {kf : Nat → Option AV} (h : mapIs w b n (kF kf)) (A : Nat) (hA : A < 2 ^ 160) (hz : ∀ x, kf A = some x → AccZ Z x) : Calls Try.prog 43 #[.map (some b), .agg (aN A)] w fun e w' => e = .returned (.bool (kf A).isSome) ∧ Below w.heap.size w w' := by
  have hs := aN_size A
  obtain ⟨f0, bW⟩ := boxAd w A
  obtain ⟨W, hW⟩ : ∃ W, w.alloc (.cells (aN A) 32) = W := ⟨_, rfl⟩
  rw [hW] at f0 bW
  have LK0 := (h.same (bW.block _ h.lt)).look_ok Try.underlying70 (zeroAcc _) hA
  have LK := fun w2 (e : w2.heap[b]? = W.heap[b]?) => (h.same (e.trans (bW.block _ h.lt))).look_ok Try.underlying70 (zeroAcc w2) hA
  rw [getAV, isSomeK] at LK0
  have y1 := (oneAV hz).ones
  have HB := Lib.hid bW
  have r0 := adblk f0
  have F1 := Lib.hid (heap_alloc_new W (.cells (acs noneAV).toArray 39))
  clear bW f0 h LK hz
  generalize (kf A).isSome = q at *
  generalize (kf A).getD noneAV = y at *
  have hn : (acs y).toArray.size = 27 := by simp [acs_len]
  go_enter Try.func43, Try.ntmps43
  go_upto_region 1 with fail
  clear hW
  go_wp2_with (first
    | (refine wpList_load_mid rfl 32 _ rfl w.heap.size 0 rfl (aN A).toList _ r0 Try.underlying32 rfl (infoAd A) ?_; simp only [Array.toArray_toList])
    | (refine wpList_alloc_row rfl 39 rfl _ zeroAcc ?_)
    | (refine wpList_store_row rfl 39 _ _ rfl W.heap.size _ (acs y).toArray rfl rfl F1.out (by simpa using infoAcs _) (by simp [acs_len]) y1 ?_))
  go_ret
  exact ⟨rfl, below_setRow (HB.out.alloc HB.out.size _) HB.out.size _⟩
theorem getTV (tf : Nat → Option Nat) (A : Nat) : ((tF tf) A).getD (.int .i64 0) = .int .i64 (((tf A).getD 0 : Nat) : Int) := by
  unfold tF
  cases tf A <;> rfl
theorem hasT_walk {w : World} {b n : Nat} {tf : Nat → Option Nat} (h : mapIs w b n (tF tf)) (A : Nat) (hA : A < 2 ^ 160) : Calls Try.prog 44 #[.map (some b), .agg (aN A)] w fun e w' => e = .returned (.bool (tf A).isSome) ∧ Below w.heap.size w w' := by
  have hs := aN_size A
  obtain ⟨f0, bW⟩ := boxAd w A
  obtain ⟨W, hW⟩ : ∃ W, w.alloc (.cells (aN A) 32) = W := ⟨_, rfl⟩
  rw [hW] at f0 bW
  have LK := (h.same (bW.block _ h.lt)).look_ok Try.underlying71 (zeroInt_run _) hA
  rw [getTV, isSomeT] at LK
  have HB := Lib.hid bW
  have r0 := adblk f0
  clear bW f0 h
  generalize (tf A).isSome = q at *
  generalize (tf A).getD 0 = z at *
  go_enter Try.func44, Try.ntmps44
  go_upto_region 1 with fail
  clear hW
  go_wp2_with (refine wpList_load_mid rfl 32 _ rfl w.heap.size 0 rfl (aN A).toList _ r0 Try.underlying32 rfl (infoAd A) ?_; simp only [Array.toArray_toList])
  go_ret
  exact ⟨rfl, HB.out⟩
end Go.Proofs.Ytdgenbidgieojaa
/- A cache's calls: what is known, what is being fetched; an account copied; a new cache. -/
namespace Go.Proofs.Ytdgenbidgieojaa
open Go.RowKit SmWord Go.Maps
set_option maxRecDepth 100000

section
variable {Z : Hp} {w : World} {c : Cb} {kf : Nat → Option AV} {tf : Nat → Option Nat} {n : Nat}
theorem knows_walk (h : CacheAt Z w c kf tf n) (A : Nat) (hA : A < 2 ^ 160) : Calls Try.prog 29 #[.pointer (some ⟨c.cb, 0, none⟩), .agg (aN A)] w fun e w' => e = .returned (.bool (kf A).isSome) ∧ Below w.heap.size w w' := by
  have hs := aN_size A
  obtain ⟨f0, bW⟩ := boxAd w A
  obtain ⟨W, hW⟩ : ∃ W, w.alloc (.cells (aN A) 32) = W := ⟨_, rfl⟩
  rw [hW] at f0 bW
  replace h := h.below bW
  have KH := Lib.hid fun g : Ext W => hasK_walk (h.km.same (g.below.block _ h.km.lt)) A hA (fun x hx => (h.acc A x hA hx).1)
  have c1 := fun g : Ext W => (h.below g.below).cell0
  have r0 := fun g : Ext W => adblk (g.block f0)
  have HB := Lib.hid bW
  clear bW f0 h
  generalize (kf A).isSome = q at *
  go_enter Try.func29, Try.ntmps29
  go_upto_region 1 with fail
  clear hW
  refine region_ext (by kernel_rfl) (by kernel_rfl) ?_
  repeat (first
    | (go_big_quiet_want; refine quiet_load_mid 32 _ rfl w.heap.size 0 (aN A).toList rfl (fun w2 hw2 => by obtain ⟨g1, rfl⟩ := hw2; exact r0 g1) Try.underlying32 rfl (infoAd A) ?_; simp only [Act.put, List.setIfInBounds_toArray, List.set_cons_succ, List.set_cons_zero, Array.toArray_toList]; go_big_quiet_on)
    | go_big_quiet_step (first | (go_at_call 43; with_reducible exact calls_ext (KH.out _))))
  refine wpQuiet_nil ?_
  rintro w' ⟨gg, rfl⟩
  have HG := Lib.hid gg.below
  generalize gg.on = wg at *
  clear c1 r0 KH
  go_wp2_with fail
  go_ret
  exact ⟨rfl, HB.out.trans (HG.out.mono HB.out.size)⟩
theorem fetches_walk (h : CacheAt Z w c kf tf n) (A : Nat) (hA : A < 2 ^ 160) : Calls Try.prog 30 #[.pointer (some ⟨c.cb, 0, none⟩), .agg (aN A)] w fun e w' => e = .returned (.bool (tf A).isSome) ∧ Below w.heap.size w w' := by
  have hs := aN_size A
  obtain ⟨f0, bW⟩ := boxAd w A
  obtain ⟨W, hW⟩ : ∃ W, w.alloc (.cells (aN A) 32) = W := ⟨_, rfl⟩
  rw [hW] at f0 bW
  replace h := h.below bW
  have KH := Lib.hid fun g : Ext W => hasT_walk (h.tm.same (g.below.block _ h.tm.lt)) A hA
  have c1 := fun g : Ext W => (h.below g.below).cell1
  have r0 := fun g : Ext W => adblk (g.block f0)
  have HB := Lib.hid bW
  clear bW f0 h
  generalize (tf A).isSome = q at *
  go_enter Try.func30, Try.ntmps30
  go_upto_region 1 with fail
  clear hW
  refine region_ext (by kernel_rfl) (by kernel_rfl) ?_
  repeat (first
    | (go_big_quiet_want; refine quiet_load_mid 32 _ rfl w.heap.size 0 (aN A).toList rfl (fun w2 hw2 => by obtain ⟨g1, rfl⟩ := hw2; exact r0 g1) Try.underlying32 rfl (infoAd A) ?_; simp only [Act.put, List.setIfInBounds_toArray, List.set_cons_succ, List.set_cons_zero, Array.toArray_toList]; go_big_quiet_on)
    | go_big_quiet_step (first | (go_at_call 44; with_reducible exact calls_ext (KH.out _))))
  refine wpQuiet_nil ?_
  rintro w' ⟨gg, rfl⟩
  have HG := Lib.hid gg.below
  generalize gg.on = wg at *
  clear c1 r0 KH
  go_wp2_with fail
  go_ret
  exact ⟨rfl, HB.out.trans (HG.out.mono HB.out.size)⟩
end
theorem knows_nil (A : Nat) (w : World) : Calls Try.prog 29 #[.pointer none, .agg (aN A)] w fun e w' => e = .returned (.bool false) ∧ Below w.heap.size w w' := by
  have hs := aN_size A
  obtain ⟨f0, bW⟩ := boxAd w A
  obtain ⟨W, hW⟩ : ∃ W, w.alloc (.cells (aN A) 32) = W := ⟨_, rfl⟩
  rw [hW] at f0 bW
  have HB := Lib.hid bW
  clear bW f0
  go_enter Try.func29, Try.ntmps29
  go_upto_region 1 with fail
  clear hW
  refine region_ext (by kernel_rfl) (by kernel_rfl) ?_
  repeat (go_big_quiet_step (fail))
  refine wpQuiet_nil ?_
  rintro w' ⟨gg, rfl⟩
  have HG := Lib.hid gg.below
  generalize gg.on = wg at *
  go_wp2_with fail
  go_ret
  exact ⟨rfl, HB.out.trans (HG.out.mono HB.out.size)⟩
theorem fetches_nil (A : Nat) (w : World) : Calls Try.prog 30 #[.pointer none, .agg (aN A)] w fun e w' => e = .returned (.bool false) ∧ Below w.heap.size w w' := by
  have hs := aN_size A
  obtain ⟨f0, bW⟩ := boxAd w A
  obtain ⟨W, hW⟩ : ∃ W, w.alloc (.cells (aN A) 32) = W := ⟨_, rfl⟩
  rw [hW] at f0 bW
  have HB := Lib.hid bW
  clear bW f0
  go_enter Try.func30, Try.ntmps30
  go_upto_region 1 with fail
  clear hW
  refine region_ext (by kernel_rfl) (by kernel_rfl) ?_
  repeat (go_big_quiet_step (fail))
  refine wpQuiet_nil ?_
  rintro w' ⟨gg, rfl⟩
  have HG := Lib.hid gg.below
  generalize gg.on = wg at *
  go_wp2_with fail
  go_ret
  exact ⟨rfl, HB.out.trans (HG.out.mono HB.out.size)⟩
set_option maxHeartbeats 2000000 in
theorem fcopied_walk (x : AV) (w : World) (h : AccZ (hp w) x) : Calls Try.prog 34 #[aval x] w fun e w' => ∃ p q, e = .returned (aval ⟨x.a, p, q⟩) ∧ AccZ (fr w.heap.size w') ⟨x.a, p, q⟩ ∧ Below w.heap.size w w' := by
  unfold aval
  have hs : ∀ x, (acs x).toArray.size = 27 := fun x => by simp [acs_len]
  obtain ⟨W, hW⟩ : ∃ W, (w.alloc (.cells (acs x).toArray 39)).alloc (.cells (acs noneAV).toArray 39) = W := ⟨_, rfl⟩
  have f0 : W.heap[w.heap.size]? = some (.cells (acs x).toArray 39) := hW ▸ blk_alloc (heap_alloc_new _ _)
  have f1 : W.heap[w.heap.size + 1]? = some (.cells (acs noneAV).toArray 39) := hW ▸ heap_alloc2_new _ _ _
  have bW : Below w.heap.size w W := hW ▸ ((Below.refl _ _).alloc (Nat.le_refl _) _).alloc (by simp) _
  have sW : W.heap.size = w.heap.size + 2 := by rw [← hW]; simp
  obtain ⟨-, -, p2, -, -⟩ := boxcells f0
  have fz := blk_frozen (j := 25) f0
  go_enter Try.func34, Try.ntmps34
  go_upto_region 1 with (refine wpList_alloc_row rfl 39 rfl _ zeroAcc ?_)
  rw [hW]
  clear hW
  have F0 := Lib.hid f0
  have F1 := Lib.hid f1
  have HB := Lib.hid bW
  clear f0 f1 bW
  have HX := Lib.hid h
  clear h
  go_wp2_with (first
    | (refine append_row rfl _ _ 36 rfl 5 (.int .u8 0) 1 1 Try.underlying36 infoU8 rfl (by decide) (by decide) w.heap.size (.slice none 0 0) 0 [] rfl (World.ownsRow_nil _ _ _ _) x.p x.a.co.length (x.a.co.map u8v) rfl (HX.out.cod.sub (hp_below HB.out)) (u8_one _) (by have := HX.out.cl; omega) (by omega) ?_
       intro v1 w1 ho1 hg1 _
       simp only [Nat.zero_add, List.nil_append] at ho1
       obtain ⟨A1, c1, rfl⟩ := own_sl ho1
       have f2 := (hg1.block w.heap.size (by omega) (by simp [Value.ownBlock])).trans F0.out
       have fz1 := blk_frozen (j := 25) f2
       obtain ⟨-, -, g2, g3, -⟩ := boxcells f2
       have HO1 := Lib.hid ho1
       have F2 := Lib.hid f2
       have F3 := Lib.hid ((hg1.block (w.heap.size + 1) (by omega) (by simp [Value.ownBlock])).trans F1.out)
       have hz1 := hg1.size
       have HB1 : Hid (Below w.heap.size w w1) := Lib.hid (HB.out.grown hg1 (by omega) (by simp [Value.ownBlock]))
       clear ho1 hg1 f2)
    | (refine append_row rfl _ _ 37 rfl 79 (.agg (wa 0 ++ wa 0)) 8 64 Try.underlying37 infoSlot (by simp [Value.cells, wa_size]) (by decide) (by decide) w.heap.size (.slice none 0 0) 0 [] rfl (World.ownsRow_nil _ _ _ _) x.q x.a.so.length (x.a.so.flatMap scs) rfl (HX.out.sto.sub (hp_below (HB1.out.setCell (Nat.le_refl _) _))) (so_one _) (by have := HX.out.sl; omega) (by simp [World.setCell]; omega) ?_
       intro v2 w2 ho2 hg2 _
       simp only [Nat.zero_add, List.nil_append] at ho2
       obtain ⟨A2, c2, rfl⟩ := own_sl ho2
       have f3 := (hg2.block w.heap.size (by simp [World.setCell]; omega) (by simp [Value.ownBlock])).trans (blk_set F2.out (j := 25) (.slice A1 x.a.co.length c1))
       have f5 := (hg2.block (w.heap.size + 1) (by simp [World.setCell]; omega) (by simp [Value.ownBlock])).trans (blk_other F3.out (by omega) (j := 25) (.slice A1 x.a.co.length c1))
       have fz1 := blk_frozen (j := 26) f3
       have g5 : w2.cell? ⟨w.heap.size, 26, none⟩ = some x.q := blk_cell f3 (by rw [Array.getElem?_setIfInBounds_ne (by decide)]; simpa using acs_q x)
       have F4 := Lib.hid f3
       have F5 := Lib.hid f5
       have HO2 := Lib.hid ho2
       have HG2 := Lib.hid hg2
       have F6 : Hid ((w2.setCell ⟨w.heap.size, 26, none⟩ (.slice A2 x.a.so.length c2)).heap[w.heap.size]? = some (.cells (acs ⟨x.a, .slice A1 x.a.co.length c1, .slice A2 x.a.so.length c2⟩).toArray 39)) := Lib.hid (by rw [← acs_set x]; exact blk_set f3 _)
       have F7 := Lib.hid (blk_other f5 (show w.heap.size + 1 ≠ w.heap.size by omega) (j := 26) (.slice A2 x.a.so.length c2))
       have one := all_oneCell_toArray (oneA ⟨x.a, .slice A1 x.a.co.length c1, .slice A2 x.a.so.length c2⟩ rfl rfl)
       clear ho2 hg2 f3 f5)
    | (refine wpList_load_mid rfl 39 _ rfl w.heap.size 0 rfl (acs ⟨x.a, .slice A1 x.a.co.length c1, .slice A2 x.a.so.length c2⟩) _ (rng_block F6.out).at Try.underlying39 rfl (infoAcs _) ?_)
    | (refine wpList_store_row rfl 39 _ _ rfl (w.heap.size + 1) _ (acs ⟨x.a, .slice A1 x.a.co.length c1, .slice A2 x.a.so.length c2⟩).toArray rfl rfl F7.out (by simpa using infoAcs _) (by simp [acs_len]) one ?_))
  refine bodyPost_ret (v := .agg (acs ⟨x.a, .slice A1 x.a.co.length c1, .slice A2 x.a.so.length c2⟩).toArray) (results_cell_row rfl _ _ _ 39 _ (0, 0) _ rfl (blk_row F7.out) Try.underlying39 rfl (by simpa using infoAcs _)) rfl ⟨_, _, rfl, ?_, ?_⟩
  · have e1 : ∀ b, (Value.slice A1 x.a.co.length c1).ownBlock = some b → ((w2.setCell ⟨w.heap.size, 26, none⟩ (.slice A2 x.a.so.length c2)).setRow (w.heap.size + 1) (acs ⟨x.a, .slice A1 x.a.co.length c1, .slice A2 x.a.so.length c2⟩).toArray).heap[b]? = w1.heap[b]? := fun b hb => by
      have n1 := own_not HO1.out F2.out (by decide) b hb
      have n2 := own_not HO1.out F3.out (by decide) b hb
      rw [setRow_other _ _ _ _ n2, Below.heap_setCell _ _ _ _ n1, HG2.out.block b (by have := (HO1.out.lt b hb).2; simpa [World.setCell] using this) (by simp [Value.ownBlock]), Below.heap_setCell _ _ _ _ n1]
    have e2 : ∀ b, (Value.slice A2 x.a.so.length c2).ownBlock = some b → ((w2.setCell ⟨w.heap.size, 26, none⟩ (.slice A2 x.a.so.length c2)).setRow (w.heap.size + 1) (acs ⟨x.a, .slice A1 x.a.co.length c1, .slice A2 x.a.so.length c2⟩).toArray).heap[b]? = w2.heap[b]? := fun b hb => by
      have n1 := own_not HO2.out F4.out (by decide) b hb
      have n2 := own_not HO2.out F5.out (by decide) b hb
      rw [setRow_other _ _ _ _ n2, Below.heap_setCell _ _ _ _ n1]
    exact { HX.out with cod := RowZ.ownF (own_same HO1.out e1), sto := RowZ.ownF (own_same HO2.out e2) }
  · exact below_setRow ((((HB1.out.setCell (Nat.le_refl _) _).grown HG2.out (by simp [World.setCell]; omega) (by simp [Value.ownBlock]))).setCell (Nat.le_refl _) _) (by omega) _
theorem fnew_walk (w : World) : Calls Try.prog 7 #[] w fun e w' => ∃ c : Cb, e = .returned (.pointer (some ⟨c.cb, 0, none⟩)) ∧ CacheAt (fun _ => none) w' c (fun _ => none) (fun _ => none) 0 ∧ (∀ b, c.soft b → w.heap.size ≤ b) ∧ Below w.heap.size w w' := by
  have hmm := @run_makeMap Try.prog
  go_enter Try.func7, Try.ntmps7
  go_wp2_with fail
  have s1 : (w.alloc (.map #[] 0)).heap.size = w.heap.size + 1 := by simp
  have k1 : mapIs (((w.alloc (.map #[] 0)).alloc (.map #[] 0)).alloc (.cells #[.map (some w.heap.size), .map (some (w.heap.size + 1))] 73)) w.heap.size 0 (fun _ => none) := by
    have h1 := mapIs_made w
    have h2 := h1.same (w' := (w.alloc (.map #[] 0)).alloc (.map #[] 0)) (Below.heap_alloc _ _ _ h1.lt)
    exact h2.same (Below.heap_alloc _ _ _ h2.lt)
  have k2 : mapIs (((w.alloc (.map #[] 0)).alloc (.map #[] 0)).alloc (.cells #[.map (some w.heap.size), .map (some (w.heap.size + 1))] 73)) (w.heap.size + 1) 0 (fun _ => none) := by
    have h1 := mapIs_made (w.alloc (.map #[] 0))
    rw [s1] at h1
    exact h1.same (Below.heap_alloc _ _ _ h1.lt)
  have f2 : (((w.alloc (.map #[] 0)).alloc (.map #[] 0)).alloc (.cells #[.map (some w.heap.size), .map (some (w.heap.size + 1))] 73)).heap[w.heap.size + 1 + 1]? = some (.cells #[.map (some w.heap.size), .map (some (w.heap.size + 1))] 73) := by
    have := heap_alloc_new ((w.alloc (.map #[] 0)).alloc (.map #[] 0)) (.cells #[.map (some w.heap.size), .map (some (w.heap.size + 1))] 73)
    simpa using this
  have bW : Below w.heap.size w (((w.alloc (.map #[] 0)).alloc (.map #[] 0)).alloc (.cells #[.map (some w.heap.size), .map (some (w.heap.size + 1))] 73)) := (((Below.refl _ _).alloc (Nat.le_refl _) _).alloc (by simp) _).alloc (by simp; omega) _
  generalize (((w.alloc (.map #[] 0)).alloc (.map #[] 0)).alloc (.cells #[.map (some w.heap.size), .map (some (w.heap.size + 1))] 73)) = W at *
  go_ret
  refine ⟨⟨w.heap.size + 1 + 1, w.heap.size, w.heap.size + 1⟩, rfl, ⟨fun b o h => (by cases h), f2, k1, k2, by simp, fun A x _ h => (by cases h), fun _ _ => rfl⟩, fun b hb => ?_, bW⟩
  rcases hb with rfl | rfl | rfl <;> simp <;> omega
end Go.Proofs.Ytdgenbidgieojaa
/- A cache's calls: Account, Tries. -/
namespace Go.Proofs.Ytdgenbidgieojaa
open Go.RowKit SmWord Go.Maps
set_option maxRecDepth 100000

theorem still_load_mid {P : Program} {ops : Array Oper} {w : World} {Q : Act → Prop} {rest : List Oper} {o : Oper} {a : Act} (hg : o.guard = none) (t : TypeId) (x : Operand) (ho : o.op = .load t x) (b off : Nat) (cs : List Value) {d : TypeDesc} (hx : a.eval x = .pointer (some ⟨b, off, none⟩))
    (hb : w.rangeAt b off cs) (hu : P.underlying t = some d) (hd : d.isRow = true) (hi : (P.info? t).map (·.size) = some cs.length)
    (hk : wpStill P ops w Q rest (a.put o.dst (.agg cs.toArray))) : wpStill P ops w Q (o :: rest) a := by
  refine wpStill_step (fun K hK => ?_)
  rw [if_pos (by simp [Region.wanted, hg])]
  have h2 : (execOp a.eval o).run P w = .ok (.value (.agg cs.toArray)) w := by
    unfold execOp
    simp only [ho, hx, Instr.loadAt, Instr.sureAddr, Sem.run_bind, Sem.run_pure, Result.andThen_ok, run_loadVar_mid w b off t cs d hb hu hd hi]
  unfold Oper.still
  rw [h2]
  exact ⟨rfl, hK _ hk⟩
/-- The account of an address that has nothing. -/
def bareAV (A : Nat) : AV := ⟨⟨A, 0, 0, [], []⟩, .slice none 0 0, .slice none 0 0⟩
theorem bareZ (Z : Hp) {A : Nat} (hA : A < 2 ^ 160) : AccZ Z (bareAV A) :=
  ⟨hA, by simp [bareAV, B], by simp [bareAV, M], RowZ.nil Z 1, by simp [bareAV], by simp [bareAV], RowZ.nil Z 8, by simp [bareAV], by simp [bareAV]⟩
/-- What Account answers. -/
def AccIs (w : World) (A : Nat) (o : Option AV) (e : Ending) (w' : World) : Prop := ∃ x : AV, e = .returned (.tuple #[aval x, .bool o.isSome]) ∧ x.a = (o.getD (bareAV A)).a ∧ AccZ (fr w.heap.size w') x ∧ Below w.heap.size w w'
theorem bare_cells (A : Nat) : (acs (bareAV A)).toArray = aN A ++ #[.int .u64 0, .int .u64 0, .int .u64 0, .int .u64 0, .int .u64 0, .slice none 0 0, .slice none 0 0] := by
  unfold acs bareAV
  simp
  rfl
theorem run_build20 (x0 x1 x2 x3 x4 x5 x6 x7 x8 x9 x10 x11 x12 x13 x14 x15 x16 x17 x18 x19 : Value) (w : World) : (Instr.build 39 #[(0, .agg #[x0, x1, x2, x3, x4, x5, x6, x7, x8, x9, x10, x11, x12, x13, x14, x15, x16, x17, x18, x19])]).run Try.prog w = .ok (.agg #[x0, x1, x2, x3, x4, x5, x6, x7, x8, x9, x10, x11, x12, x13, x14, x15, x16, x17, x18, x19, .int .u64 0, .int .u64 0, .int .u64 0, .int .u64 0, .int .u64 0, .slice none 0 0, .slice none 0 0]) w := by kernel_rfl
theorem list20 {α : Type} {l : Array α} (h : l.size = 20) : ∃ x0 x1 x2 x3 x4 x5 x6 x7 x8 x9 x10 x11 x12 x13 x14 x15 x16 x17 x18 x19, l = #[x0, x1, x2, x3, x4, x5, x6, x7, x8, x9, x10, x11, x12, x13, x14, x15, x16, x17, x18, x19] := by
  obtain ⟨l⟩ := l
  simp at h
  obtain _ | ⟨x0, l⟩ := l; · simp at h
  obtain _ | ⟨x1, l⟩ := l; · simp at h
  obtain _ | ⟨x2, l⟩ := l; · simp at h
  obtain _ | ⟨x3, l⟩ := l; · simp at h
  obtain _ | ⟨x4, l⟩ := l; · simp at h
  obtain _ | ⟨x5, l⟩ := l; · simp at h
  obtain _ | ⟨x6, l⟩ := l; · simp at h
  obtain _ | ⟨x7, l⟩ := l; · simp at h
  obtain _ | ⟨x8, l⟩ := l; · simp at h
  obtain _ | ⟨x9, l⟩ := l; · simp at h
  obtain _ | ⟨x10, l⟩ := l; · simp at h
  obtain _ | ⟨x11, l⟩ := l; · simp at h
  obtain _ | ⟨x12, l⟩ := l; · simp at h
  obtain _ | ⟨x13, l⟩ := l; · simp at h
  obtain _ | ⟨x14, l⟩ := l; · simp at h
  obtain _ | ⟨x15, l⟩ := l; · simp at h
  obtain _ | ⟨x16, l⟩ := l; · simp at h
  obtain _ | ⟨x17, l⟩ := l; · simp at h
  obtain _ | ⟨x18, l⟩ := l; · simp at h
  obtain _ | ⟨x19, l⟩ := l; · simp at h
  obtain rfl : l = [] := by simpa using h
  exact ⟨_, _, _, _, _, _, _, _, _, _, _, _, _, _, _, _, _, _, _, _, rfl⟩
theorem run_build_ad (A : Nat) (w : World) : (Instr.build 39 #[(0, .agg (aN A))]).run Try.prog w = .ok (.agg (aN A ++ #[.int .u64 0, .int .u64 0, .int .u64 0, .int .u64 0, .int .u64 0, .slice none 0 0, .slice none 0 0])) w := by
  obtain ⟨x0, x1, x2, x3, x4, x5, x6, x7, x8, x9, x10, x11, x12, x13, x14, x15, x16, x17, x18, x19, e⟩ := list20 (aN_size A)
  rw [e, run_build20]
  rfl
theorem wpList_buildAd {ops : Array Oper} {rest : List Oper} {o : Oper} {a : Act} {w : World} {Q : Exit → Act → World → Prop} (hg : o.guard = none) (x : Operand) (ho : o.op = .build 39 #[(0, x)]) (A : Nat) (hx : a.eval x = .agg (aN A)) (h : wpList Try.prog ops Q rest (a.put o.dst (.agg (acs (bareAV A)).toArray)) w) : wpList Try.prog ops Q (o :: rest) a w := by
  refine wpList_plain hg fun K hK => ?_
  have hr := run_build_ad A w
  rw [← bare_cells A] at hr
  unfold Oper.wp
  simp [execOp, ho, hx, hr, Result.andThen]
  exact hK _ _ h
set_option maxHeartbeats 1000000 in
theorem account_none (p : Option Addr) (A : Nat) (hA : A < 2 ^ 160) (w : World) (KN : Hid (∀ w1, Below w.heap.size w w1 → Calls Try.prog 29 #[.pointer p, .agg (aN A)] w1 fun e w' => e = .returned (.bool false) ∧ Below w1.heap.size w1 w')) :
    Calls Try.prog 16 #[.pointer p, .agg (aN A)] w (AccIs w A none) := by
  have hs := aN_size A
  have hn : (acs noneAV).toArray.size = 27 := by simp [acs_len]
  obtain ⟨W, hW, f0, f1, bW, sW⟩ := fboxes w A
  have r0 := adblk f0
  have HB := Lib.hid bW
  have F1 := Lib.hid f1
  have F0 := Lib.hid f0
  have HA := Lib.hid hA
  clear f0 f1 bW hA
  go_enter Try.func16, Try.ntmps16
  go_upto_region 1 with (refine wpList_alloc_row rfl 39 rfl _ zeroAcc ?_)
  clear hW
  go_upto_region 2 with (first
    | (refine wpList_load_mid rfl 32 _ rfl w.heap.size 0 rfl (aN A).toList _ r0 Try.underlying32 rfl (infoAd A) ?_; simp only [Array.toArray_toList])
    | (go_at_call 29; refine (KN.out _ HB.out).mono ?_; rintro e w1 ⟨rfl, b1⟩; replace HB := Lib.hid (HB.out.trans (b1.mono HB.out.size)); replace F1 := Lib.hid (stay b1 F1.out); replace r0 := adblk (stay b1 F0.out)))
  have hb : (acs (bareAV A)).toArray.size = 27 := by simp [acs_len]
  have one := (bareZ (fun _ => none) HA.out).ones
  go_wp2_with (first
    | (refine wpList_load_mid rfl 32 _ rfl w.heap.size 0 rfl (aN A).toList _ r0 Try.underlying32 rfl (infoAd A) ?_; simp only [Array.toArray_toList])
    | (refine wpList_buildAd rfl _ rfl A rfl ?_)
    | (refine wpList_store_row rfl 39 _ _ rfl (w.heap.size + 1) _ (acs (bareAV A)).toArray rfl rfl F1.out (by simpa using infoAcs _) hb one ?_))
  exact bodyPost_ret (v := .tuple #[.agg (acs (bareAV A)).toArray, .bool false]) (results_cs rfl _ _ _ 39 _ (0, 0) _ (.bool false) rfl (blk_row F1.out) Try.underlying39 rfl (by simpa using infoAcs _) rfl) rfl ⟨bareAV A, rfl, rfl, bareZ _ HA.out, below_setRow HB.out (by omega) _⟩
theorem account_nil (A : Nat) (hA : A < 2 ^ 160) (w : World) : Calls Try.prog 16 #[.pointer none, .agg (aN A)] w (AccIs w A none) :=
  account_none none A hA w (Lib.hid fun w1 _ => knows_nil A w1)
section
variable {Z : Hp} {w : World} {c : Cb} {kf : Nat → Option AV} {tf : Nat → Option Nat} {n : Nat}
set_option maxHeartbeats 1000000 in
theorem account_some (h : CacheAt Z w c kf tf n) (A : Nat) (hA : A < 2 ^ 160) (x : AV) (hx : kf A = some x) : Calls Try.prog 16 #[.pointer (some ⟨c.cb, 0, none⟩), .agg (aN A)] w (AccIs w A (some x)) := by
  have hs := aN_size A
  have hn : (acs noneAV).toArray.size = 27 := by simp [acs_len]
  obtain ⟨W, hW, f0, f1, bW, sW⟩ := fboxes w A
  have r0 := adblk f0
  have HB := Lib.hid bW
  have F1 := Lib.hid f1
  have F0 := Lib.hid f0
  have HA := Lib.hid hA
  have HW := Lib.hid (h.below bW)
  have KN := Lib.hid (knows_walk HW.out A hA)
  rw [hx] at KN
  have HX := Lib.hid (((HW.out.acc A x hA hx).1).sub HW.out.sub)
  have HXx := Lib.hid hx
  clear f0 f1 bW hA h hx
  go_enter Try.func16, Try.ntmps16
  go_upto_region 1 with (refine wpList_alloc_row rfl 39 rfl _ zeroAcc ?_)
  clear hW
  go_upto_region 3 with (first
    | (refine wpList_load_mid rfl 32 _ rfl w.heap.size 0 rfl (aN A).toList _ r0 Try.underlying32 rfl (infoAd A) ?_; simp only [Array.toArray_toList])
    | (go_at_call 29; refine KN.out.mono ?_; rintro e w1 ⟨rfl, b1⟩; replace HB := Lib.hid (HB.out.trans (b1.mono HB.out.size)); replace F1 := Lib.hid (stay b1 F1.out); replace r0 := adblk (stay b1 F0.out); replace HW := Lib.hid (HW.out.below b1); replace HX := Lib.hid (HX.out.sub (hp_below b1)); have hz := b1.size))
  clear KN F0
  have c0 := HW.out.cell0
  have LK0 := (HW.out.km.same (w' := w1.drew) rfl).look Try.underlying70 (zeroAcc w1.drew) HA.out
  rw [getAV, HXx.out] at LK0
  replace LK0 : (Instr.lookup 70 (.map (some c.kb)) (.agg (aN A)) false).run Try.prog w1.drew = .ok (.agg (acs x).toArray) w1.drew := LK0
  have KC := Lib.hid (fcopied_walk x w1.drew (HX.out.sub fun b o h => h))
  unfold aval at KC
  refine region_tail 6 (by kernel_rfl) (by kernel_rfl) ?_
  simp only [List.take_succ_cons, List.take_zero, List.drop_succ_cons, List.drop_zero]
  repeat (first
    | (refine still_load_mid rfl 32 _ rfl w.heap.size 0 (aN A).toList rfl r0 Try.underlying32 rfl (infoAd A) ?_; simp only [Act.put, List.setIfInBounds_toArray, List.set_cons_succ, List.set_cons_zero, Array.toArray_toList])
    | still_step)
  refine wpStill_nil ?_
  go_wp2_with (first
    | (go_at_call 34; refine KC.out.mono ?_; rintro e w2 ⟨r, s, rfl, ha, b2⟩; have HA := Lib.hid ha; have one := ha.ones; replace HB := Lib.hid (HB.out.drew.trans (b2.mono HB.out.size)); replace F1 := Lib.hid (stay b2 (show w1.drew.heap[w.heap.size + 1]? = _ from F1.out)); clear ha)
    | (refine wpList_store_row rfl 39 _ _ rfl (w.heap.size + 1) _ (acs ⟨x.a, r, s⟩).toArray rfl rfl F1.out (by simpa using infoAcs _) (by simp [acs_len]) one ?_))
  refine bodyPost_ret (v := .tuple #[.agg (acs ⟨x.a, r, s⟩).toArray, .bool true]) (results_cs rfl _ _ _ 39 _ (0, 0) _ (.bool true) rfl (blk_row F1.out) Try.underlying39 rfl (by simpa using infoAcs _) rfl) rfl ⟨_, rfl, rfl, HA.out.sub (fr_row ?_ ?_ _), below_setRow HB.out (by omega) _⟩
  · show _ < w1.heap.size
    omega
  · show _ ≤ w1.heap.size
    omega
theorem account_walk (h : CacheAt Z w c kf tf n) (A : Nat) (hA : A < 2 ^ 160) : Calls Try.prog 16 #[.pointer (some ⟨c.cb, 0, none⟩), .agg (aN A)] w (AccIs w A (kf A)) := by
  cases hx : kf A with
  | none => exact account_none _ A hA w (Lib.hid fun w1 b1 => by have := knows_walk (h.below b1) A hA; rwa [hx] at this)
  | some x => exact account_some h A hA x hx
set_option maxHeartbeats 1000000 in
theorem tries_walk (h : CacheAt Z w c kf tf n) (A : Nat) (hA : A < 2 ^ 160) : Calls Try.prog 20 #[.pointer (some ⟨c.cb, 0, none⟩), .agg (aN A)] w fun e w' => e = .returned (.int .i64 (((tf A).getD 0 : Nat) : Int)) ∧ Below w.heap.size w w' := by
  have hs := aN_size A
  obtain ⟨f0, bW⟩ := boxAd w A
  obtain ⟨W, hW⟩ : ∃ W, w.alloc (.cells (aN A) 32) = W := ⟨_, rfl⟩
  rw [hW] at f0 bW
  have r0 := adblk f0
  have HW := Lib.hid (h.below bW)
  have c1 := HW.out.cell1
  have HB := Lib.hid bW
  have LK0 := (HW.out.tm.same (w' := W.drew) rfl).look Try.underlying71 (zeroInt_run W.drew) hA
  rw [getTV] at LK0
  clear bW h f0
  generalize (tf A).getD 0 = q at *
  go_enter Try.func20, Try.ntmps20
  go_upto_region 3 with fail
  clear hW
  refine region_tail 6 (by kernel_rfl) (by kernel_rfl) ?_
  simp only [List.take_succ_cons, List.take_zero, List.drop_succ_cons, List.drop_zero]
  repeat (first
    | (refine still_load_mid rfl 32 _ rfl w.heap.size 0 (aN A).toList rfl r0 Try.underlying32 rfl (infoAd A) ?_; simp only [Act.put, List.setIfInBounds_toArray, List.set_cons_succ, List.set_cons_zero, Array.toArray_toList])
    | still_step)
  refine wpStill_nil ?_
  go_wp2_with fail
  go_ret
  exact ⟨rfl, HB.out.drew⟩
end
theorem tries_nil (A : Nat) (w : World) : Calls Try.prog 20 #[.pointer none, .agg (aN A)] w fun e w' => e = .returned (.int .i64 0) ∧ Below w.heap.size w w' := by
  have hs := aN_size A
  obtain ⟨f0, bW⟩ := boxAd w A
  obtain ⟨W, hW⟩ : ∃ W, w.alloc (.cells (aN A) 32) = W := ⟨_, rfl⟩
  rw [hW] at f0 bW
  have HB := Lib.hid bW
  clear bW f0
  go_enter Try.func20, Try.ntmps20
  go_upto_region 1 with fail
  clear hW
  go_wp2_with fail
  go_ret
  exact ⟨rfl, HB.out⟩
theorem want_nil (A : Nat) (w : World) : Calls Try.prog 11 #[.pointer none, .agg (aN A)] w fun e w' => e = .returned (.int .u8 0) ∧ Below w.heap.size w w' := by
  have hs := aN_size A
  obtain ⟨f0, bW⟩ := boxAd w A
  obtain ⟨W, hW⟩ : ∃ W, w.alloc (.cells (aN A) 32) = W := ⟨_, rfl⟩
  rw [hW] at f0 bW
  have HB := Lib.hid bW
  clear bW f0
  go_enter Try.func11, Try.ntmps11
  go_upto_region 1 with fail
  clear hW
  go_wp2_with fail
  go_ret
  exact ⟨rfl, HB.out⟩
end Go.Proofs.Ytdgenbidgieojaa
/- A cache's calls: Want, Fill, Fail. -/
namespace Go.Proofs.Ytdgenbidgieojaa
open Go.RowKit SmWord Go.Maps
set_option maxRecDepth 100000

theorem wpList_delA {ops : Array Oper} {rest : List Oper} {o : Oper} {a : Act} {w : World} {Q : Exit → Act → World → Prop} (hg : o.guard = none) (m x : Operand) (t : TypeId) (hop : o.op = Op.call ⟨.builtin .delete, #[m, x], #[t, 32]⟩)
    (e : TypeId) (ht : Try.prog.underlying t = some (.map 32 e)) (b n : Nat) (f : Nat → Option Value) (hm : a.eval m = .map (some b)) (h : mapIs w b n f) (A : Nat) (hA : A < 2 ^ 160)
    (hx : a.eval x = .agg (aN A)) (hK : ∀ w', mapIs w' b n (updN f A) → w.grownBy w' (some b) → wpList Try.prog ops Q rest (a.put o.dst (.tuple #[])) w') : wpList Try.prog ops Q (o :: rest) a w := by
  refine wpList_plain hg fun K' hK' => ?_
  obtain ⟨w', hrun, r1, r2⟩ := h.drop ht hA o.type
  unfold Oper.wp
  simp [execOp, hop, resolve, invoke, builtin, hm, hx, hrun, Result.andThen]
  exact hK' _ _ (hK w' r1 r2)
/-- A function of addresses, turned at one. -/
def at1 {α : Type} (f : Nat → Option α) (A : Nat) (v : Option α) : Nat → Option α := fun B => if B = A then v else f B
theorem upd_tF (tf : Nat → Option Nat) (A k : Nat) : upd (tF tf) A (i64v k) = tF (at1 tf A (some k)) := by
  funext B
  unfold upd tF at1
  by_cases e : B = A <;> simp [e]
theorem updN_tF (tf : Nat → Option Nat) (A : Nat) : updN (tF tf) A = tF (at1 tf A none) := by
  funext B
  unfold updN tF at1
  by_cases e : B = A <;> simp [e]
theorem upd_kF (kf : Nat → Option AV) (A : Nat) (x : AV) : upd (kF kf) A (aval x) = kF (at1 kf A (some x)) := by
  funext B
  unfold upd kF at1
  by_cases e : B = A <;> simp [e]
section
variable {Z : Hp} {w : World} {c : Cb} {kf : Nat → Option AV} {tf : Nat → Option Nat} {n : Nat}
theorem CacheAt.setT (h : CacheAt Z w c kf tf n) {w' : World} {tf' : Nat → Option Nat} {n' : Nat} (hm : mapIs w' c.tb n' (tF tf')) (hn : n ≤ n') (hg : w.grownBy w' (some c.tb)) : CacheAt Z w' c kf tf' n' :=
  { h with
    sub := Tch.sub (s := c.soft) (.grown hg (.inr (.inr rfl))) h.sub h.zm
    blk := (hg.block _ (h.softlt (.inl rfl)) (fun e => h.net (Option.some.inj e))).trans h.blk
    km := (h.km.same (hg.block _ h.km.lt (fun e => h.ne (Option.some.inj e)))).mono hn
    tm := hm }
theorem CacheAt.drew (h : CacheAt Z w c kf tf n) : CacheAt Z w.drew c kf tf n := h.frame (fun b o hb => h.sub b o hb) fun _ _ => rfl
theorem CacheAt.mono (h : CacheAt Z w c kf tf n) {n' : Nat} (hn : n ≤ n') : CacheAt Z w c kf tf n' := { h with km := h.km.mono hn, tm := h.tm.mono hn }
def wantN (kf : Nat → Option AV) (tf : Nat → Option Nat) (A : Nat) : Nat := if (kf A).isSome then 1 else if (tf A).isSome then 2 else 3
def wantT (kf : Nat → Option AV) (tf : Nat → Option Nat) (A : Nat) : Nat → Option Nat := if (kf A).isSome then tf else if (tf A).isSome then tf else at1 tf A (some 0)
def WantIs (Z : Hp) (w : World) (c : Cb) (kf : Nat → Option AV) (tf : Nat → Option Nat) (n A : Nat) (e : Ending) (w' : World) : Prop :=
  e = .returned (.int .u8 (wantN kf tf A : Int)) ∧ CacheAt Z w' c kf (wantT kf tf A) (n + 1) ∧ Tch c.soft w w'
set_option maxHeartbeats 1000000 in
theorem want_known (h : CacheAt Z w c kf tf n) (A : Nat) (hA : A < 2 ^ 160) (hk : (kf A).isSome = true) : Calls Try.prog 11 #[.pointer (some ⟨c.cb, 0, none⟩), .agg (aN A)] w (fun e w' => e = .returned (.int .u8 1) ∧ Below w.heap.size w w') := by
  have hs := aN_size A
  obtain ⟨f0, bW⟩ := boxAd w A
  obtain ⟨W, hW⟩ : ∃ W, w.alloc (.cells (aN A) 32) = W := ⟨_, rfl⟩
  rw [hW] at f0 bW
  have r0 := adblk f0
  have F0 := Lib.hid f0
  have HC := Lib.hid (h.below bW)
  have HB := Lib.hid bW
  have HA := Lib.hid hA
  have KN := Lib.hid fun w1 (h1 : CacheAt Z w1 c kf tf n) => knows_walk h1 A hA
  rw [hk] at KN
  clear bW h f0 hA hk
  go_enter Try.func11, Try.ntmps11
  go_upto_region 1 with fail
  clear hW
  go_wp2_with (first
    | (refine wpList_load_mid rfl 32 _ rfl w.heap.size 0 rfl (aN A).toList _ r0 Try.underlying32 rfl (infoAd A) ?_; simp only [Array.toArray_toList])
    | (go_at_call 29; refine (KN.out _ HC.out).mono ?_; rintro e w1 ⟨rfl, b1⟩; replace HB := Lib.hid (HB.out.trans (b1.mono HB.out.size)); replace HC := Lib.hid (HC.out.below b1); replace F0 := Lib.hid (stay b1 F0.out); replace r0 := adblk F0.out; clear b1))
  go_ret
  exact ⟨rfl, HB.out⟩
set_option maxHeartbeats 1000000 in
theorem want_asked (h : CacheAt Z w c kf tf n) (A : Nat) (hA : A < 2 ^ 160) (hk : (kf A).isSome = false) (ht : (tf A).isSome = true) : Calls Try.prog 11 #[.pointer (some ⟨c.cb, 0, none⟩), .agg (aN A)] w (fun e w' => e = .returned (.int .u8 2) ∧ Below w.heap.size w w') := by
  have hs := aN_size A
  obtain ⟨f0, bW⟩ := boxAd w A
  obtain ⟨W, hW⟩ : ∃ W, w.alloc (.cells (aN A) 32) = W := ⟨_, rfl⟩
  rw [hW] at f0 bW
  have r0 := adblk f0
  have F0 := Lib.hid f0
  have HC := Lib.hid (h.below bW)
  have HB := Lib.hid bW
  have HA := Lib.hid hA
  have KN := Lib.hid fun w1 (h1 : CacheAt Z w1 c kf tf n) => knows_walk h1 A hA
  have KF := Lib.hid fun w1 (h1 : CacheAt Z w1 c kf tf n) => fetches_walk h1 A hA
  rw [hk] at KN
  rw [ht] at KF
  clear bW h f0 hA hk ht
  go_enter Try.func11, Try.ntmps11
  go_upto_region 1 with fail
  clear hW
  go_wp2_with (first
    | (refine wpList_load_mid rfl 32 _ rfl w.heap.size 0 rfl (aN A).toList _ r0 Try.underlying32 rfl (infoAd A) ?_; simp only [Array.toArray_toList])
    | (go_at_call 29; refine (KN.out _ HC.out).mono ?_; rintro e w1 ⟨rfl, b1⟩; replace HB := Lib.hid (HB.out.trans (b1.mono HB.out.size)); replace HC := Lib.hid (HC.out.below b1); replace F0 := Lib.hid (stay b1 F0.out); replace r0 := adblk F0.out; clear b1)
    | (go_at_call 30; refine (KF.out _ HC.out).mono ?_; rintro e w1 ⟨rfl, b1⟩; replace HB := Lib.hid (HB.out.trans (b1.mono HB.out.size)); replace HC := Lib.hid (HC.out.below b1); replace F0 := Lib.hid (stay b1 F0.out); replace r0 := adblk F0.out; clear b1))
  go_ret
  exact ⟨rfl, HB.out⟩
set_option maxHeartbeats 1000000 in
theorem want_new (h : CacheAt Z w c kf tf n) (A : Nat) (hA : A < 2 ^ 160) (hk : (kf A).isSome = false) (ht : (tf A).isSome = false) (hn : n < 1000000) : Calls Try.prog 11 #[.pointer (some ⟨c.cb, 0, none⟩), .agg (aN A)] w (fun e w' => e = .returned (.int .u8 3) ∧ CacheAt Z w' c kf (at1 tf A (some 0)) (n + 1) ∧ Tch c.soft w w') := by
  have hs := aN_size A
  obtain ⟨f0, bW⟩ := boxAd w A
  obtain ⟨W, hW⟩ : ∃ W, w.alloc (.cells (aN A) 32) = W := ⟨_, rfl⟩
  rw [hW] at f0 bW
  have r0 := adblk f0
  have F0 := Lib.hid f0
  have HC := Lib.hid (h.below bW)
  have HB := Lib.hid bW
  have HA := Lib.hid hA
  have KN := Lib.hid fun w1 (h1 : CacheAt Z w1 c kf tf n) => knows_walk h1 A hA
  have KF := Lib.hid fun w1 (h1 : CacheAt Z w1 c kf tf n) => fetches_walk h1 A hA
  rw [hk] at KN
  rw [ht] at KF
  clear bW h f0 hA hk ht
  go_enter Try.func11, Try.ntmps11
  go_upto_region 1 with fail
  clear hW
  go_upto_region 7 with (first
    | (refine wpList_load_mid rfl 32 _ rfl w.heap.size 0 rfl (aN A).toList _ r0 Try.underlying32 rfl (infoAd A) ?_; simp only [Array.toArray_toList])
    | (go_at_call 29; refine (KN.out _ HC.out).mono ?_; rintro e w1 ⟨rfl, b1⟩; replace HB := Lib.hid (HB.out.trans (b1.mono HB.out.size)); replace HC := Lib.hid (HC.out.below b1); replace F0 := Lib.hid (stay b1 F0.out); replace r0 := adblk F0.out; clear b1)
    | (go_at_call 30; refine (KF.out _ HC.out).mono ?_; rintro e w1 ⟨rfl, b1⟩; replace HB := Lib.hid (HB.out.trans (b1.mono HB.out.size)); replace HC := Lib.hid (HC.out.below b1); replace F0 := Lib.hid (stay b1 F0.out); replace r0 := adblk F0.out; clear b1))
  have c1 := HC.out.cell1
  refine region_tail 5 (by kernel_rfl) (by kernel_rfl) ?_
  simp only [List.take_succ_cons, List.take_zero, List.drop_succ_cons, List.drop_zero]
  repeat (first
    | (refine still_load_mid rfl 32 _ rfl w.heap.size 0 (aN A).toList rfl r0 Try.underlying32 rfl (infoAd A) ?_; simp only [Act.put, List.setIfInBounds_toArray, List.set_cons_succ, List.set_cons_zero, Array.toArray_toList])
    | still_step)
  refine wpStill_nil ?_
  have HM := HC.out.drew.tm
  refine wpList_mapUpd rfl _ _ _ 71 rfl 3 Try.underlying71 c.tb n _ rfl HM (by unfold maxLen; omega) A HA.out (i64v 0) rfl rfl ?_
  intro w5 h5 g5
  rw [upd_tF] at h5
  go_wp2_with fail
  go_ret
  exact ⟨rfl, HC.out.drew.setT h5 (Nat.le_succ n) g5, ((Tch.of_below HB.out).drew).trans (.grown g5 (.inr (.inr rfl)))⟩
theorem want_walk (h : CacheAt Z w c kf tf n) (A : Nat) (hA : A < 2 ^ 160) (hn : n < 1000000) : Calls Try.prog 11 #[.pointer (some ⟨c.cb, 0, none⟩), .agg (aN A)] w (WantIs Z w c kf tf n A) := by
  unfold WantIs wantN wantT
  cases hk : (kf A).isSome with
  | true => exact (want_known h A hA hk).mono fun _ _ ⟨he, hb⟩ => ⟨he, (h.below hb).mono (Nat.le_succ n), .of_below hb⟩
  | false =>
    cases ht : (tf A).isSome with
    | true => exact (want_asked h A hA hk ht).mono fun _ _ ⟨he, hb⟩ => ⟨he, (h.below hb).mono (Nat.le_succ n), .of_below hb⟩
    | false => exact want_new h A hA hk ht hn
end
end Go.Proofs.Ytdgenbidgieojaa
/- A cache's calls: Fail. -/
namespace Go.Proofs.Ytdgenbidgieojaa
open Go.RowKit SmWord Go.Maps
set_option maxRecDepth 100000

theorem zeroInt_run' (u : World) : (zeroValue 3).run Try.prog u = .ok (i64v 0) u := zeroInt_run u
theorem getTV' (tf : Nat → Option Nat) (A : Nat) : ((tF tf) A).getD (i64v 0) = i64v ((tf A).getD 0) := getTV tf A
theorem at1_at1 {α : Type} (f : Nat → Option α) (A : Nat) (u v : Option α) : at1 (at1 f A u) A v = at1 f A v := by
  funext B
  unfold at1
  by_cases e : B = A <;> simp [e]
theorem wrap_i64 {k : Nat} (h : k + 1 < 1000000) : IntKind.i64.wrap ((k : Int) + 1) = (k : Int) + 1 := by
  unfold IntKind.wrap
  simp [IntKind.bits, IntKind.signed]
  omega
section
variable {Z : Hp} {w : World} {c : Cb} {kf : Nat → Option AV} {tf : Nat → Option Nat} {n : Nat}
set_option maxHeartbeats 1000000 in
theorem fail_none (h : CacheAt Z w c kf tf n) (A : Nat) (hA : A < 2 ^ 160) (ht : (tf A).isSome = false) : Calls Try.prog 15 #[.pointer (some ⟨c.cb, 0, none⟩), .agg (aN A)] w (fun e w' => e = .returned (.int .u8 0) ∧ Below w.heap.size w w') := by
  have hs := aN_size A
  obtain ⟨f0, bW⟩ := boxAd w A
  obtain ⟨W, hW⟩ : ∃ W, w.alloc (.cells (aN A) 32) = W := ⟨_, rfl⟩
  rw [hW] at f0 bW
  have r0 := adblk f0
  have F0 := Lib.hid f0
  have HC := Lib.hid (h.below bW)
  have HB := Lib.hid bW
  have HA := Lib.hid hA
  have KF := Lib.hid fun w1 (h1 : CacheAt Z w1 c kf tf n) => fetches_walk h1 A hA
  rw [ht] at KF
  clear bW h f0 hA ht
  go_enter Try.func15, Try.ntmps15
  go_upto_region 1 with fail
  clear hW
  go_wp2_with (first
    | (refine wpList_load_mid rfl 32 _ rfl w.heap.size 0 rfl (aN A).toList _ r0 Try.underlying32 rfl (infoAd A) ?_; simp only [Array.toArray_toList])
    | (go_at_call 30; refine (KF.out _ HC.out).mono ?_; rintro e w1 ⟨rfl, b1⟩; replace HB := Lib.hid (HB.out.trans (b1.mono HB.out.size)); replace HC := Lib.hid (HC.out.below b1); replace F0 := Lib.hid (stay b1 F0.out); replace r0 := adblk F0.out; clear b1))
  go_ret
  exact ⟨rfl, HB.out⟩
set_option maxHeartbeats 1000000 in
theorem fail_again (h : CacheAt Z w c kf tf n) (A : Nat) (hA : A < 2 ^ 160) (k : Nat) (ht : tf A = some k) (hk : k + 1 < 8) (hn : n < 1000000) : Calls Try.prog 15 #[.pointer (some ⟨c.cb, 0, none⟩), .agg (aN A)] w (fun e w' => e = .returned (.int .u8 4) ∧ CacheAt Z w' c kf (at1 tf A (some (k + 1))) (n + 1) ∧ Tch c.soft w w') := by
  have hs := aN_size A
  obtain ⟨f0, bW⟩ := boxAd w A
  obtain ⟨W, hW⟩ : ∃ W, w.alloc (.cells (aN A) 32) = W := ⟨_, rfl⟩
  rw [hW] at f0 bW
  have r0 := adblk f0
  have F0 := Lib.hid f0
  have HC := Lib.hid (h.below bW)
  have HB := Lib.hid bW
  have HA := Lib.hid hA
  have KF := Lib.hid fun w1 (h1 : CacheAt Z w1 c kf tf n) => fetches_walk h1 A hA
  rw [ht] at KF
  have HT := Lib.hid ht
  clear bW h f0 hA ht
  go_enter Try.func15, Try.ntmps15
  go_upto_region 1 with fail
  clear hW
  go_upto_region 3 with (first
    | (refine wpList_load_mid rfl 32 _ rfl w.heap.size 0 rfl (aN A).toList _ r0 Try.underlying32 rfl (infoAd A) ?_; simp only [Array.toArray_toList])
    | (go_at_call 30; refine (KF.out _ HC.out).mono ?_; rintro e w1 ⟨rfl, b1⟩; replace HB := Lib.hid (HB.out.trans (b1.mono HB.out.size)); replace HC := Lib.hid (HC.out.below b1); replace F0 := Lib.hid (stay b1 F0.out); replace r0 := adblk F0.out; clear b1))
  clear KF
  have c1 := HC.out.cell1
  obtain ⟨st, w2, hE, hb2, g2, s2, hS⟩ := HC.out.drew.tm.entry_hit Try.underlying71 (by unfold maxLen; omega) zeroInt_run' HA.out (v := i64v k) (by unfold tF; rw [HT.out]; rfl)
  obtain ⟨w3, hE3, hm3, g3, s3⟩ := hS w2 (i64v (k + 1)) rfl
  clear hS
  rw [upd_tF] at hm3
  have LK0 := HC.out.drew.tm.look Try.underlying71 (zeroInt_run' _) HA.out
  have LK2 := (HC.out.drew.tm.same hb2).look Try.underlying71 (zeroInt_run' _) HA.out
  rw [getTV', HT.out] at LK0 LK2
  simp only [Option.getD_some, i64v] at LK0 LK2 hE
  have H3 := HC.out.drew.setT hm3 (Nat.le_succ n) (g2.trans g3)
  have HC3 := Lib.hid H3
  have e1 : i64v (k + 1) = .int .i64 ((k : Int) + 1) := by simp [i64v]
  rw [e1] at hE3
  replace hE3 : (Instr.entryStore 71 (.map (some c.tb)) (.int .i64 (st : Int)) (.int .i64 ((k : Int) + 1))).run Try.prog w2 = .ok () w3 := hE3
  have hne : c.tb ≠ w.heap.size := fun e => by
    obtain ⟨es, clock, hm⟩ := map_blk HC.out.tm
    rw [e, F0.out] at hm
    cases hm
  have F2 := Lib.hid ((g2.block _ (Array.getElem?_eq_some_iff.1 F0.out).1 (fun e => hne (Option.some.inj e).symm)).trans (show w1.drew.heap[w.heap.size]? = _ from F0.out))
  have F3 := Lib.hid ((g3.block _ (Array.getElem?_eq_some_iff.1 F2.out).1 (fun e => hne (Option.some.inj e).symm)).trans F2.out)
  have d1 : w1.drew.cell? ⟨c.cb, 1, none⟩ = some (.map (some c.tb)) := HC.out.drew.cell1
  have d3 : w3.cell? ⟨c.cb, 1, none⟩ = some (.map (some c.tb)) := H3.cell1
  have d2 : w2.cell? ⟨c.cb, 1, none⟩ = some (.map (some c.tb)) := (HC.out.drew.setT (HC.out.drew.tm.same hb2) (Nat.le_refl n) g2).cell1
  have r1 : w1.drew.rangeAt w.heap.size 0 (aN A).toList := adblk (w := w1.drew) F0.out
  have r2 := adblk F2.out
  have r3 := adblk F3.out
  replace hE : (Instr.mapEntry 71 (.map (some c.tb)) (.agg (aN A))).run Try.prog w1.drew = .ok (.tuple #[.int .i64 (k : Int), .int .i64 (st : Int)]) w2 := hE
  have hwr : IntKind.i64.wrap ((k : Int) + 1) = (k : Int) + 1 := wrap_i64 (by omega)

  have hG : Hid (Tch c.soft w w3) := Lib.hid (((Tch.of_below HB.out).drew.trans (.grown g2 (.inr (.inr rfl)))).trans (.grown g3 (.inr (.inr rfl))))
  clear hm3 e1 H3 hb2 g2 g3 s2 s3 hne r0 c1
  have huA := Try.underlying32
  have hiA := infoAd A
  go_region_held_law (fun w' => w'.cell? ⟨c.cb, 1, none⟩ = some (.map (some c.tb)) ∧ w'.rangeAt w.heap.size 0 (aN A).toList) (first | exact ⟨d1, r1⟩ | exact ⟨d2, r2⟩ | exact ⟨d3, r3⟩) (fail)
  all_goals
    clear hE hE3 LK0 LK2 d1 d2 r1 r2 hwr huA hiA
    have LK4 := (HC3.out.drew.tm).look Try.underlying71 (zeroInt_run' _) HA.out
    rw [getTV'] at LK4
    have e4 : ((at1 tf A (some (k + 1))) A).getD 0 = k + 1 := by simp [at1]
    rw [e4] at LK4
    replace LK4 : (Instr.lookup 71 (.map (some c.tb)) (.agg (aN A)) false).run Try.prog w3.drew = .ok (.int .i64 ((k : Int) + 1)) w3.drew := by rw [LK4]; simp [i64v]
    clear e4
    have r0 := r3
    have c1 := d3
    clear r3 d3
    go_wp2_with fail
    refine region_tail 6 (by kernel_rfl) (by kernel_rfl) ?_
    simp only [List.take_succ_cons, List.take_zero, List.drop_succ_cons, List.drop_zero]
    repeat (first
      | (refine still_load_mid rfl 32 _ rfl w.heap.size 0 (aN A).toList rfl r0 Try.underlying32 rfl (infoAd A) ?_; simp only [Act.put, List.setIfInBounds_toArray, List.set_cons_succ, List.set_cons_zero, Array.toArray_toList])
      | still_step)
    refine wpStill_nil ?_
    go_wp2_with fail
    go_ret
    exact ⟨rfl, HC3.out.drew, hG.out.drew⟩
set_option maxHeartbeats 1000000 in
theorem fail_lost (h : CacheAt Z w c kf tf n) (A : Nat) (hA : A < 2 ^ 160) (k : Nat) (ht : tf A = some k) (hk : ¬ k + 1 < 8) (hk8 : k < 8) (hn : n < 1000000) : Calls Try.prog 15 #[.pointer (some ⟨c.cb, 0, none⟩), .agg (aN A)] w (fun e w' => e = .returned (.int .u8 5) ∧ CacheAt Z w' c kf (at1 tf A none) (n + 1) ∧ Tch c.soft w w') := by
  have hs := aN_size A
  obtain ⟨f0, bW⟩ := boxAd w A
  obtain ⟨W, hW⟩ : ∃ W, w.alloc (.cells (aN A) 32) = W := ⟨_, rfl⟩
  rw [hW] at f0 bW
  have r0 := adblk f0
  have F0 := Lib.hid f0
  have HC := Lib.hid (h.below bW)
  have HB := Lib.hid bW
  have HA := Lib.hid hA
  have KF := Lib.hid fun w1 (h1 : CacheAt Z w1 c kf tf n) => fetches_walk h1 A hA
  rw [ht] at KF
  have HT := Lib.hid ht
  clear bW h f0 hA ht
  go_enter Try.func15, Try.ntmps15
  go_upto_region 1 with fail
  clear hW
  go_upto_region 3 with (first
    | (refine wpList_load_mid rfl 32 _ rfl w.heap.size 0 rfl (aN A).toList _ r0 Try.underlying32 rfl (infoAd A) ?_; simp only [Array.toArray_toList])
    | (go_at_call 30; refine (KF.out _ HC.out).mono ?_; rintro e w1 ⟨rfl, b1⟩; replace HB := Lib.hid (HB.out.trans (b1.mono HB.out.size)); replace HC := Lib.hid (HC.out.below b1); replace F0 := Lib.hid (stay b1 F0.out); replace r0 := adblk F0.out; clear b1))
  clear KF
  have c1 := HC.out.cell1
  obtain ⟨st, w2, hE, hb2, g2, s2, hS⟩ := HC.out.drew.tm.entry_hit Try.underlying71 (by unfold maxLen; omega) zeroInt_run' HA.out (v := i64v k) (by unfold tF; rw [HT.out]; rfl)
  obtain ⟨w3, hE3, hm3, g3, s3⟩ := hS w2 (i64v (k + 1)) rfl
  clear hS
  rw [upd_tF] at hm3
  have LK0 := HC.out.drew.tm.look Try.underlying71 (zeroInt_run' _) HA.out
  have LK2 := (HC.out.drew.tm.same hb2).look Try.underlying71 (zeroInt_run' _) HA.out
  rw [getTV', HT.out] at LK0 LK2
  simp only [Option.getD_some, i64v] at LK0 LK2 hE
  have H3 := HC.out.drew.setT hm3 (Nat.le_succ n) (g2.trans g3)
  have HC3 := Lib.hid H3
  have e1 : i64v (k + 1) = .int .i64 ((k : Int) + 1) := by simp [i64v]
  rw [e1] at hE3
  replace hE3 : (Instr.entryStore 71 (.map (some c.tb)) (.int .i64 (st : Int)) (.int .i64 ((k : Int) + 1))).run Try.prog w2 = .ok () w3 := hE3
  have hne : c.tb ≠ w.heap.size := fun e => by
    obtain ⟨es, clock, hm⟩ := map_blk HC.out.tm
    rw [e, F0.out] at hm
    cases hm
  have F2 := Lib.hid ((g2.block _ (Array.getElem?_eq_some_iff.1 F0.out).1 (fun e => hne (Option.some.inj e).symm)).trans (show w1.drew.heap[w.heap.size]? = _ from F0.out))
  have F3 := Lib.hid ((g3.block _ (Array.getElem?_eq_some_iff.1 F2.out).1 (fun e => hne (Option.some.inj e).symm)).trans F2.out)
  have d1 : w1.drew.cell? ⟨c.cb, 1, none⟩ = some (.map (some c.tb)) := HC.out.drew.cell1
  have d3 : w3.cell? ⟨c.cb, 1, none⟩ = some (.map (some c.tb)) := H3.cell1
  have d2 : w2.cell? ⟨c.cb, 1, none⟩ = some (.map (some c.tb)) := (HC.out.drew.setT (HC.out.drew.tm.same hb2) (Nat.le_refl n) g2).cell1
  have r1 : w1.drew.rangeAt w.heap.size 0 (aN A).toList := adblk (w := w1.drew) F0.out
  have r2 := adblk F2.out
  have r3 := adblk F3.out
  replace hE : (Instr.mapEntry 71 (.map (some c.tb)) (.agg (aN A))).run Try.prog w1.drew = .ok (.tuple #[.int .i64 (k : Int), .int .i64 (st : Int)]) w2 := hE
  have hwr : IntKind.i64.wrap ((k : Int) + 1) = (k : Int) + 1 := wrap_i64 (by omega)

  have hG : Hid (Tch c.soft w w3) := Lib.hid (((Tch.of_below HB.out).drew.trans (.grown g2 (.inr (.inr rfl)))).trans (.grown g3 (.inr (.inr rfl))))
  clear hm3 e1 H3 hb2 g2 g3 s2 s3 hne r0 c1
  have huA := Try.underlying32
  have hiA := infoAd A
  go_region_held_law (fun w' => w'.cell? ⟨c.cb, 1, none⟩ = some (.map (some c.tb)) ∧ w'.rangeAt w.heap.size 0 (aN A).toList) (first | exact ⟨d1, r1⟩ | exact ⟨d2, r2⟩ | exact ⟨d3, r3⟩) (fail)
  all_goals
    clear hE hE3 LK0 LK2 d1 d2 r1 r2 hwr huA hiA
    have LK4 := (HC3.out.drew.tm).look Try.underlying71 (zeroInt_run' _) HA.out
    rw [getTV'] at LK4
    have e4 : ((at1 tf A (some (k + 1))) A).getD 0 = k + 1 := by simp [at1]
    rw [e4] at LK4
    replace LK4 : (Instr.lookup 71 (.map (some c.tb)) (.agg (aN A)) false).run Try.prog w3.drew = .ok (.int .i64 ((k : Int) + 1)) w3.drew := by rw [LK4]; simp [i64v]
    clear e4
    have r0 := r3
    have c1 := d3
    clear r3 d3
    go_wp2_with fail
    refine region_tail 6 (by kernel_rfl) (by kernel_rfl) ?_
    simp only [List.take_succ_cons, List.take_zero, List.drop_succ_cons, List.drop_zero]
    repeat (first
      | (refine still_load_mid rfl 32 _ rfl w.heap.size 0 (aN A).toList rfl r0 Try.underlying32 rfl (infoAd A) ?_; simp only [Act.put, List.setIfInBounds_toArray, List.set_cons_succ, List.set_cons_zero, Array.toArray_toList])
      | still_step)
    refine wpStill_nil ?_
    go_wp2_with fail
    refine region_tail 5 (by kernel_rfl) (by kernel_rfl) ?_
    simp only [List.take_succ_cons, List.take_zero, List.drop_succ_cons, List.drop_zero]
    repeat (first
      | (refine still_load_mid rfl 32 _ rfl w.heap.size 0 (aN A).toList rfl r0 Try.underlying32 rfl (infoAd A) ?_; simp only [Act.put, List.setIfInBounds_toArray, List.set_cons_succ, List.set_cons_zero, Array.toArray_toList])
      | still_step)
    refine wpStill_nil ?_
    have HM := HC3.out.drew.drew.tm
    refine wpList_delA rfl _ _ 71 rfl 3 Try.underlying71 c.tb _ _ rfl HM A HA.out rfl ?_
    intro w5 h5 g5
    rw [updN_tF, at1_at1] at h5
    go_wp2_with fail
    go_ret
    exact ⟨rfl, HC3.out.drew.drew.setT h5 (Nat.le_refl _) g5, hG.out.drew.drew.trans (.grown g5 (.inr (.inr rfl)))⟩
/-- What Fail answers, and what is being fetched behind it. -/
def failN (o : Option Nat) : Nat := match o with
  | none => 0
  | some k => if k + 1 < 8 then 4 else 5
def failT (tf : Nat → Option Nat) (A : Nat) : Nat → Option Nat := match tf A with
  | none => tf
  | some k => if k + 1 < 8 then at1 tf A (some (k + 1)) else at1 tf A none
theorem fail_walk (h : CacheAt Z w c kf tf n) (A : Nat) (hA : A < 2 ^ 160) (hc : ∀ k, tf A = some k → k < 8) (hn : n < 1000000) : Calls Try.prog 15 #[.pointer (some ⟨c.cb, 0, none⟩), .agg (aN A)] w fun e w' => e = .returned (.int .u8 (failN (tf A) : Int)) ∧ CacheAt Z w' c kf (failT tf A) (n + 1) ∧ Tch c.soft w w' := by
  cases ht : tf A with
  | none =>
    refine (fail_none h A hA (by rw [ht]; rfl)).mono fun _ _ ⟨he, hb⟩ => ⟨he, ?_, .of_below hb⟩
    unfold failT
    rw [ht]
    exact (h.below hb).mono (Nat.le_succ n)
  | some k =>
    by_cases hk : k + 1 < 8
    · refine (fail_again h A hA k ht hk hn).mono fun _ _ ⟨he, hb, ht'⟩ => ⟨by rw [he]; simp [failN, hk], ?_, ht'⟩
      unfold failT
      rw [ht]
      simpa [hk] using hb
    · refine (fail_lost h A hA k ht hk (hc k ht) hn).mono fun _ _ ⟨he, hb, ht'⟩ => ⟨by rw [he]; simp [failN, hk], ?_, ht'⟩
      unfold failT
      rw [ht]
      simpa [hk] using hb
end
theorem fail_nil (A : Nat) (w : World) : Calls Try.prog 15 #[.pointer none, .agg (aN A)] w fun e w' => e = .returned (.int .u8 0) ∧ Below w.heap.size w w' := by
  have hs := aN_size A
  obtain ⟨f0, bW⟩ := boxAd w A
  obtain ⟨W, hW⟩ : ∃ W, w.alloc (.cells (aN A) 32) = W := ⟨_, rfl⟩
  rw [hW] at f0 bW
  have r0 := adblk f0
  have HB := Lib.hid bW
  have KF := Lib.hid (fetches_nil A)
  clear bW f0
  go_enter Try.func15, Try.ntmps15
  go_upto_region 1 with fail
  clear hW
  go_wp2_with (first
    | (refine wpList_load_mid rfl 32 _ rfl w.heap.size 0 rfl (aN A).toList _ r0 Try.underlying32 rfl (infoAd A) ?_; simp only [Array.toArray_toList])
    | (go_at_call 30; refine (KF.out _).mono ?_; rintro e w1 ⟨rfl, b1⟩; replace HB := Lib.hid (HB.out.trans (b1.mono HB.out.size)); clear b1))
  go_ret
  exact ⟨rfl, HB.out⟩
end Go.Proofs.Ytdgenbidgieojaa
