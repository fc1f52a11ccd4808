/- A world over a version and a cache: what Account answers. -/
import Derived.Test.YtdgenbidgieojaaG9
import Derived.Test.YtdgenbidgieojaaG6
import Derived.Test.YtdgenbidgieojaaGe
namespace Go.Proofs.Ytdgenbidgieojaa
open Go.RowKit SmWord Go.Maps
set_option maxRecDepth 100000

theorem wboxes (w : World) (s v c : Value) (A : Nat) : ∃ W, ((w.alloc (.cells #[s, v, c] 95)).alloc (.cells (aN A) 32)).alloc (.cells (acs noneAV).toArray 39) = W ∧ W.heap[w.heap.size]? = some (.cells #[s, v, c] 95) ∧ W.heap[w.heap.size + 1]? = some (.cells (aN A) 32) ∧ W.heap[w.heap.size + 2]? = some (.cells (acs noneAV).toArray 39) ∧ Below w.heap.size w W ∧ W.heap.size = w.heap.size + 3 := by
  obtain ⟨W, hW, f0, f1, bW, sW⟩ := fboxes (w.alloc (.cells #[s, v, c] 95)) A
  have hz : (w.alloc (.cells #[s, v, c] 95)).heap.size = w.heap.size + 1 := by simp
  have fs := stay bW (heap_alloc_new w (.cells #[s, v, c] 95))
  rw [hz] at f0 f1 bW sW
  exact ⟨W, hW, fs, f0, f1, ((Below.refl _ _).alloc (Nat.le_refl _) _).trans (bW.mono (by omega)), sW⟩
section
variable {base : Nat} {Z1 Z : Hp} {w : World} {sb : Nat} {g : Gh} {L : Nat → List Acc} {c : Cb} {kf : Nat → Option AV} {tf : Nat → Option Nat} {n : Nat}
theorem fr_low {m : Nat} {w w' : World} (h : Below w.heap.size w w') : Sub (fr m w) (fr m w') := fun b o hb => by
  unfold fr at hb ⊢
  split at hb
  · next e =>
    rw [if_pos e]
    exact hp_below h b o hb
  · cases hb
/-- What Find answers lies in new memory. -/
theorem sfind_fr (h : StoreAt base Z1 w sb g L) (v A : Nat) (hv : v < g.n) (hA : A < 2 ^ 160) : Calls Try.prog 91 #[.pointer (some ⟨sb, 0, none⟩), .int .i64 (v : Int), .agg (aN A)] w fun e w' => ∃ x : AV, e = .returned (.tuple #[aval x, .bool (lookA (L v) A).isSome]) ∧ x.a = (lookA (L v) A).getD noneAV.a ∧ AccZ (fr w.heap.size w') x ∧ Below w.heap.size w w' := by
  rw [h.look v A hv hA]
  have HL := fun w1 (b1 : Below w.heap.size w w1) => last_walk (h.below b1) v A hv hA
  cases hn : near g.par (fun v => g.acc v A) v with
  | none =>
    rw [hn] at HL
    exact (find_none _ _ A w (Lib.hid HL)).mono fun _ _ ⟨he, hb⟩ => ⟨noneAV, he, rfl, noneZ _, hb⟩
  | some b =>
    rw [hn] at HL
    obtain ⟨h1, h2, _, _⟩ := h.found hv hA hn
    exact (find_some _ _ A b (g.X b) w (h.sub _ _ h1) (h2.sub h.sub) (Lib.hid HL)).mono fun _ _ ⟨r, s, he, ha, hb⟩ => ⟨⟨(g.X b).a, r, s⟩, he, rfl, ha, hb⟩
set_option maxHeartbeats 1000000 in
theorem world_walk (hs : StoreAt base Z1 w sb g L) (h : CacheAt Z w c kf tf n) (v A : Nat) (hv : v < g.n) (hA : A < 2 ^ 160) :
    Calls Try.prog 90 #[.agg #[.pointer (some ⟨sb, 0, none⟩), .int .i64 (v : Int), .pointer (some ⟨c.cb, 0, none⟩)], .agg (aN A)] w fun e w' => ∃ x : AV, e = .returned (.tuple #[aval x, .bool ((lookA (L v) A).isSome || (kf A).isSome)]) ∧ x.a = (lookA (L v) A).getD ((kf A).getD (bareAV A)).a ∧ AccZ (fr w.heap.size w') x ∧ Below w.heap.size w w' := by
  have hsz := aN_size A
  have hn : (acs noneAV).toArray.size = 27 := by simp [acs_len]
  obtain ⟨W, hW, fw, f0, f1, bW, sW⟩ := wboxes w (.pointer (some ⟨sb, 0, none⟩)) (.int .i64 (v : Int)) (.pointer (some ⟨c.cb, 0, none⟩)) A
  have r0 := adblk f0
  have g0 : W.cell? ⟨w.heap.size, 0, none⟩ = some (.pointer (some ⟨sb, 0, none⟩)) := blk_cell fw rfl
  have g1 : W.cell? ⟨w.heap.size, 1, none⟩ = some (.int .i64 (v : Int)) := blk_cell fw rfl
  have HB := Lib.hid bW
  have F0 := Lib.hid f0
  have F1 := Lib.hid f1
  have FW := Lib.hid fw
  have HA := Lib.hid hA
  have HC := Lib.hid (h.below bW)
  have KF := Lib.hid (sfind_fr (hs.below bW) v A hv hA)
  clear fw f0 f1 bW hA h hs hv
  go_enter Try.func90, Try.ntmps90
  go_upto_region 1 with (refine wpList_alloc_row rfl 39 rfl _ zeroAcc ?_)
  clear hW
  go_upto_region 2 with (first
    | (refine wpList_load_mid rfl 32 _ rfl (w.heap.size + 1) 0 rfl (aN A).toList _ r0 Try.underlying32 rfl (infoAd A) ?_; simp only [Array.toArray_toList])
    | (go_at_call 91
       refine KF.out.mono ?_
       rintro e w1 ⟨x, rfl, hx, hxz, b1⟩
       unfold aval
       have one := hxz.ones
       have HX := Lib.hid hx
       have HXz := Lib.hid hxz
       have B1 := Lib.hid b1
       have FN := Lib.hid (heap_alloc_new w1 (.cells (acs noneAV).toArray 39))
       clear hx hxz b1)
    | (refine wpList_alloc_row rfl 39 rfl _ zeroAcc ?_)
    | (refine wpList_store_row rfl 39 _ _ rfl w1.heap.size _ (acs x).toArray rfl rfl FN.out (by simpa using infoAcs _) (by simp [acs_len]) one ?_))
  have b3 : Below w1.heap.size w1 ((w1.alloc (.cells (acs noneAV).toArray 39)).setRow w1.heap.size (acs x).toArray) := below_setRow ((Below.refl _ _).alloc (Nat.le_refl _) _) (Nat.le_refl _) _
  have FX := Lib.hid (blk_row FN.out (c' := (acs x).toArray))
  have hb13 : Below W.heap.size W ((w1.alloc (.cells (acs noneAV).toArray 39)).setRow w1.heap.size (acs x).toArray) := B1.out.trans (b3.mono B1.out.size)
  replace HXz := Lib.hid (HXz.out.sub (fr_low b3))
  have hz3 := hb13.size
  replace HC := Lib.hid (HC.out.below hb13)
  replace HB := Lib.hid (HB.out.trans (hb13.mono HB.out.size))
  replace FW := Lib.hid (stay hb13 FW.out)
  replace F0 := Lib.hid (stay hb13 F0.out)
  replace F1 := Lib.hid (stay hb13 F1.out)
  clear KF FN b3 hb13 B1 g0 g1 r0 one
  generalize (w1.alloc (.cells (acs noneAV).toArray 39)).setRow w1.heap.size (acs x).toArray = w3 at *
  generalize w1.heap.size = xb at *
  have rx := (rng_block FX.out).at
  have one := HXz.out.ones
  have g2 : w3.cell? ⟨w.heap.size, 2, none⟩ = some (.pointer (some ⟨c.cb, 0, none⟩)) := blk_cell FW.out rfl
  have r0 := adblk F0.out
  cases hl : lookA (L v) A with
  | some y =>
    rw [hl] at HX
    go_wp2_with (first
      | (refine wpList_load_mid rfl 39 _ rfl xb 0 rfl (acs x) _ rx Try.underlying39 rfl (infoAcs _) ?_)
      | (refine load_midG (by rfl) 39 _ rfl xb 0 rfl (acs x) _ rx Try.underlying39 rfl (infoAcs _) ?_)
      | (refine wpList_store_row rfl 39 _ _ rfl (w.heap.size + 2) _ (acs x).toArray rfl rfl F1.out (by simpa using infoAcs _) (by simp [acs_len]) one ?_))
    refine bodyPost_ret (v := .tuple #[.agg (acs x).toArray, .bool true]) (results_cs rfl _ _ _ 39 _ (0, 0) _ (.bool true) rfl (blk_row F1.out) Try.underlying39 rfl (by simpa using infoAcs _) rfl) rfl ⟨x, by rw [hl]; rfl, by rw [hl]; exact HX.out, ?_, below_setRow HB.out (by omega) _⟩
    exact HXz.out.sub (fr_row (by omega) (by omega) _)
  | none =>
    rw [hl] at HX
    have KA := Lib.hid (account_walk HC.out A HA.out)
    go_wp2_with (first
      | (refine wpList_load_mid rfl 32 _ rfl (w.heap.size + 1) 0 rfl (aN A).toList _ r0 Try.underlying32 rfl (infoAd A) ?_; simp only [Array.toArray_toList])
      | (go_at_call 16
         refine KA.out.mono ?_
         rintro e w4 ⟨y, rfl, hy, hyz, b4⟩
         unfold aval
         have HY := Lib.hid hy
         have HYz := Lib.hid hyz
         have one' := hyz.ones
         have HB4 := Lib.hid (HB.out.trans (b4.mono HB.out.size))
         have F4 := Lib.hid (stay b4 F1.out)
         clear hy hyz b4)
      | (refine wpList_store_row rfl 39 _ _ rfl (w.heap.size + 2) _ (acs y).toArray rfl rfl F4.out (by simpa using infoAcs _) (by simp [acs_len]) one' ?_))
    refine bodyPost_ret (v := .tuple #[.agg (acs y).toArray, .bool (kf A).isSome]) (results_cs rfl _ _ _ 39 _ (0, 0) _ (.bool (kf A).isSome) rfl (blk_row F4.out) Try.underlying39 rfl (by simpa using infoAcs _) rfl) rfl ⟨y, by rw [hl]; rfl, by rw [hl]; exact HY.out, ?_, below_setRow HB4.out (by omega) _⟩
    exact HYz.out.sub (fr_row (by omega) (by omega) _)
end
end Go.Proofs.Ytdgenbidgieojaa
/- Over, and the call through the interface. -/
namespace Go.Proofs.Ytdgenbidgieojaa
open Go.RowKit SmWord Go.Maps
set_option maxRecDepth 100000
theorem over_walk (p q : Option Addr) (v : Int) (w : World) : Calls Try.prog 28 #[.pointer p, .int .i64 v, .pointer q] w fun e w' => e = .returned (.iface 95 (.agg #[.pointer p, .int .i64 v, .pointer q])) ∧ w = w' := by
  go_enter Try.func28, Try.ntmps28
  go_wp2_with fail
  go_ret
  exact ⟨rfl, rfl⟩
theorem over_ahead (p q : Option Addr) (v : Int) (w : World) : (nilAhead (Try.prog.types.size + Made.depth) 95 (.agg #[.pointer p, .int .i64 v, .pointer q]) "Account").run Try.prog w = .ok (some false) w := by kernel_rfl
theorem over_method (p q : Option Addr) (v : Int) (w : World) : (method (Try.prog.types.size + Made.depth) 95 (.agg #[.pointer p, .int .i64 v, .pointer q]) "Account").run Try.prog w = .ok (90, .agg #[.pointer p, .int .i64 v, .pointer q]) w := by kernel_rfl
end Go.Proofs.Ytdgenbidgieojaa
/- A store beside a cache that is filled: nothing of it changes. -/
namespace Go.Proofs.Ytdgenbidgieojaa
open Go.RowKit SmWord Go.Maps
set_option maxRecDepth 100000

/-- A store that lies clear of a cache and of one block more. -/
structure Beside (base : Nat) (Zs : Hp) (w : World) (sb : Nat) (g : Gh) (L : Nat → List Acc) (c : Cb) (mb : Nat) : Prop where
  st : StoreAt base Zs w sb g L
  zn : ∀ b, c.soft b → Zs b = none
  dis : ∀ b, soft g sb b → ¬ c.soft b
  zm : Zs mb = none
  ms : ¬ soft g sb mb
section
variable {base : Nat} {Zs : Hp} {w : World} {sb : Nat} {g : Gh} {L : Nat → List Acc} {c : Cb} {mb : Nat}
theorem Beside.low {w' : World} (h : Beside base Zs w sb g L c mb) (hb : Below w.heap.size w w') : Beside base Zs w' sb g L c mb := { h with st := h.st.below hb }
theorem Beside.go {w' : World} (h : Beside base Zs w sb g L c mb) (ht : Tch c.soft w w') : Beside base Zs w' sb g L c mb :=
  { h with st := h.st.frame (ht.sub h.st.sub h.zn) fun b hb => ht.block b (h.st.softlt hb) (h.dis b hb) }
theorem Beside.set (h : Beside base Zs w sb g L c mb) (cs : Array Value) : Beside base Zs (w.setRow mb cs) sb g L c mb :=
  { h with st := h.st.frame (fun b o ho => by
      have hne : b ≠ mb := fun e => by rw [e, h.zm] at ho; cases ho
      unfold hp
      rw [setRow_other _ _ _ _ hne]
      exact h.st.sub b o ho) fun b hb => setRow_other _ _ _ _ fun e => h.ms (e ▸ hb) }
/-- Behind the commit. -/
theorem beside_start {w w1 w2 w4 : World} (hs : StoreAt w.heap.size (fun _ => none) w1 sb g L) (b1 : Below w.heap.size w w1) (hc : CacheAt (fun _ => none) w2 c (fun _ => none) (fun _ => none) 0) (hcs : ∀ b, c.soft b → w1.heap.size ≤ b) (b2 : Below w1.heap.size w1 w2) {p : Nat} {l : List Acc}
    (ha : AddIs w.heap.size (fun _ => none) w2 sb g L p l w4) : ∃ Zs g', Beside w.heap.size Zs w4 sb g' (fun v => if v = g.n then putAll (L p) l else L v) c w4.heap.size ∧ g'.n = g.n + 1 ∧ CacheAt (fun _ => none) w4 c (fun _ => none) (fun _ => none) 0 ∧ (∀ b, c.soft b → w.heap.size ≤ b) ∧ Below w.heap.size w w4 := by
  obtain ⟨Z', g', h1, h2, -, -, h5, h6, h7, h8⟩ := ha
  have hlt : ∀ b, soft g sb b → b < w1.heap.size := fun b hb => hs.softlt hb
  have hz1 := b1.size
  refine ⟨Z', g', ⟨h1, fun b hb => ?_, fun b hb hc' => ?_, ?_, fun hm => Nat.lt_irrefl _ (h1.softlt hm)⟩, h2, hc.frame (fun b o ho => by cases ho) fun b hb => ?_, fun b hb => Nat.le_trans hz1 (hcs b hb), (b1.trans (b2.mono hz1)).trans h8⟩
  · cases hz : Z' b with
    | none => rfl
    | some o =>
      have h3 := h5 b rfl (by rw [hz]; simp)
      have h4 := hc.softlt hb
      omega
  · rcases h7 b hb with e | e
    · have h3 := hlt b e
      have h4 := hcs b hc'
      omega
    · have h4 := hc.softlt hc'
      omega
  · cases hz : Z' w4.heap.size with
    | none => rfl
    | some o =>
      have h3 := h1.sub _ _ hz
      unfold hp at h3
      have := (Array.getElem?_eq_some_iff.1 h3).1
      omega
  · exact h6 b (hc.softlt hb) fun hs' => by
      have h3 := hlt b hs'
      have h4 := hcs b hb
      omega
end
end Go.Proofs.Ytdgenbidgieojaa
/- The first commit of a new store, beside a cache. -/
namespace Go.Proofs.Ytdgenbidgieojaa
open Go.RowKit SmWord Go.Maps
set_option maxRecDepth 100000

theorem over_commit {w w1 w2 : World} {sb : Nat} {g : Gh} {c : Cb} {lv : Value} {lo : List AV} (hs : StoreAt w.heap.size (fun _ => none) w1 sb g (fun _ => [])) (hn : g.n = 1) (b1 : Below w.heap.size w w1) (hc : CacheAt (fun _ => none) w2 c (fun _ => none) (fun _ => none) 0) (hcs : ∀ b, c.soft b → w1.heap.size ≤ b) (b2 : Below w1.heap.size w1 w2) (hl : AccsZ (hp w2) lv lo) (hll : lo.length ≤ 50) :
    Calls Try.prog 27 #[.pointer (some ⟨sb, 0, none⟩), .int .i64 0, lv] w2 fun e w4 => ∃ (v er : Nat) (Zs : Hp) (g' : Gh) (L' : Nat → List Acc), e = .returned (.tuple #[.int .i64 (v : Int), .int .i64 (er : Int)]) ∧ Beside w.heap.size Zs w4 sb g' L' c w4.heap.size ∧ CacheAt (fun _ => none) w4 c (fun _ => none) (fun _ => none) 0 ∧ (∀ b, c.soft b → w.heap.size ≤ b) ∧ Below w.heap.size w w4 ∧
      ((er = 0 ∧ v < g'.n ∧ ∀ A, lookA (L' v) A = lastA (lo.map AV.a) A) ∨ (er = 1 ∧ 0 < g'.n ∧ ∀ A, lookA (L' 0) A = none)) := by
  have hs2 := hs.below b2
  have hz1 := b1.size
  have hlt : ∀ b, soft g sb b → b < w1.heap.size := fun b hb => hs.softlt hb
  cases hr : lo.all fun x => rightA x.a with
  | true =>
    refine (commit_ok hs2 0 lv lo (by omega) hl (by omega) (fun x hx => List.all_eq_true.1 hr x hx) (by omega)).mono fun e w4 ⟨he, ha⟩ => ?_
    obtain ⟨Zs, g', h1, h2, h3, h4, h5⟩ := beside_start hs b1 hc hcs b2 ha
    refine ⟨g.n, 0, Zs, g', _, he, h1, h3, h4, h5, .inl ⟨rfl, by omega, fun A => ?_⟩⟩
    rw [if_pos rfl, putAll_look A .nil]
    cases lastA (lo.map AV.a) A <;> rfl
  | false =>
    refine (commit_arg hs2 0 lv lo (by omega) hl (by omega) hr).mono fun e w4 ⟨he, hb⟩ => ?_
    have hz2 := b2.size
    have hz4 := hb.size
    refine ⟨0, 1, _, g, _, he, ⟨hs2.below hb, fun _ _ => rfl, fun b hb' hc' => ?_, rfl, fun hm => ?_⟩, hc.below hb, fun b hb' => Nat.le_trans hz1 (hcs b hb'), (b1.trans (b2.mono hz1)).trans (hb.mono (by omega)), .inr ⟨rfl, by omega, fun A => rfl⟩⟩
    · have h3 := hlt b hb'
      have h4 := hcs b hc'
      omega
    · have h3 := hlt _ hm
      omega
end Go.Proofs.Ytdgenbidgieojaa
