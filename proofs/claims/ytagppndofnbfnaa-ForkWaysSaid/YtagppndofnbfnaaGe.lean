/- Two caches filled from one remote state: the statement ForkWays walked. -/
import Derived.Test.YtagppndofnbfnaaGb
import Derived.Test.YtagppndofnbfnaaGc
import Derived.Test.YtagppndofnbfnaaGd
namespace Go.Proofs.Ytagppndofnbfnaa
open Go.RowKit SmWord Go.Maps
set_option maxRecDepth 100000

/-- What the remote state has of an address. -/
def rem (re : List AV) (A : Nat) : Acc := ((findO re A).getD (bareAV A)).a
structure Ways (w0 w : World) (ca cb : Cb) (Za Zb : Hp) (ka kb : Nat → Option AV) (ta tb : Nat → Option Nat) (na nb : Nat) (re : List AV) : Prop where
  a : CacheAt Za w ca ka ta na
  b : CacheAt Zb w cb kb tb nb
  dis : ∀ x, ca.soft x → ¬ cb.soft x
  zab : ∀ x, cb.soft x → Za x = none
  zba : ∀ x, ca.soft x → Zb x = none
  sa : ∀ x, ca.soft x → w0.heap.size ≤ x
  sb : ∀ x, cb.soft x → w0.heap.size ≤ x
  below : Below w0.heap.size w0 w
  ra : ∀ A x, A < 2 ^ 160 → ka A = some x → x.a = rem re A
  rb : ∀ A x, A < 2 ^ 160 → kb A = some x → x.a = rem re A
section
variable {w0 w : World} {ca cb : Cb} {Za Zb : Hp} {ka kb : Nat → Option AV} {ta tb : Nat → Option Nat} {na nb : Nat} {re : List AV}
theorem Ways.low {w' : World} (h : Ways w0 w ca cb Za Zb ka kb ta tb na nb re) (hb : Below w.heap.size w w') : Ways w0 w' ca cb Za Zb ka kb ta tb na nb re :=
  { h with a := h.a.below hb, b := h.b.below hb, below := h.below.trans (hb.mono h.below.size) }
theorem Ways.goA {w' : World} {Z' : Hp} {k' : Nat → Option AV} {t' : Nat → Option Nat} {n' : Nat} (h : Ways w0 w ca cb Za Zb ka kb ta tb na nb re) (ht : Tch ca.soft w w') (hc : CacheAt Z' w' ca k' t' n') (hz : ∀ b o, Z' b = some o → Za b = some o ∨ w.heap.size ≤ b)
    (hr : ∀ A x, A < 2 ^ 160 → k' A = some x → x.a = rem re A) : Ways w0 w' ca cb Z' Zb k' kb t' tb n' nb re := by
  refine { h with a := hc, b := h.b.frame (ht.sub h.b.sub h.zba) fun x hx => ?_, zab := fun x hx => ?_, below := h.below.trans (ht.below h.below.size h.sa), ra := hr }
  · exact ht.block x (h.b.softlt hx) fun hs => h.dis x hs hx
  · cases hz' : Z' x with
    | none => rfl
    | some o =>
      rcases hz x o hz' with e | e
      · rw [h.zab x hx] at e; cases e
      · have := h.b.softlt hx; omega
theorem Ways.goB {w' : World} {Z' : Hp} {k' : Nat → Option AV} {t' : Nat → Option Nat} {n' : Nat} (h : Ways w0 w ca cb Za Zb ka kb ta tb na nb re) (ht : Tch cb.soft w w') (hc : CacheAt Z' w' cb k' t' n') (hz : ∀ b o, Z' b = some o → Zb b = some o ∨ w.heap.size ≤ b)
    (hr : ∀ A x, A < 2 ^ 160 → k' A = some x → x.a = rem re A) : Ways w0 w' ca cb Za Z' ka k' ta t' na n' re := by
  refine { h with b := hc, a := h.a.frame (ht.sub h.a.sub h.zab) fun x hx => ?_, zba := fun x hx => ?_, below := h.below.trans (ht.below h.below.size h.sb), rb := hr }
  · exact ht.block x (h.a.softlt hx) fun hs => h.dis x hx hs
  · cases hz' : Z' x with
    | none => rfl
    | some o =>
      rcases hz x o hz' with e | e
      · rw [h.zba x hx] at e; cases e
      · have := h.a.softlt hx; omega
theorem Ways.start {w w1 w2 : World} {ca cb : Cb} (re : List AV) (h1 : CacheAt (fun _ => none) w1 ca (fun _ => none) (fun _ => none) 0) (h2 : CacheAt (fun _ => none) w2 cb (fun _ => none) (fun _ => none) 0) (s1 : ∀ b, ca.soft b → w.heap.size ≤ b) (s2 : ∀ b, cb.soft b → w1.heap.size ≤ b) (b1 : Below w.heap.size w w1) (b2 : Below w1.heap.size w1 w2) :
    Ways w w2 ca cb (fun _ => none) (fun _ => none) (fun _ => none) (fun _ => none) (fun _ => none) (fun _ => none) 0 0 re :=
  { a := h1.below b2, b := h2, dis := fun x hx hy => by have := h1.softlt hx; have := s2 x hy; omega, zab := fun _ _ => rfl, zba := fun _ _ => rfl, sa := s1, sb := fun x hx => Nat.le_trans b1.size (s2 x hx), below := b1.trans (b2.mono b1.size), ra := fun A x _ h => by (cases h), rb := fun A x _ h => by (cases h) }
end
theorem rem_of {re : List AV} {A : Nat} (hr : ∀ x ∈ re, rightA x.a = true) : (rem re A).ad = A ∧ rightA (rem re A) = true := by
  unfold rem
  cases hf : findO re A with
  | none => exact ⟨rfl, by simp [bareAV, rightA, rightS]⟩
  | some z =>
    have h1 := List.find?_some hf
    exact ⟨by simpa using h1, hr z (List.mem_of_find?_eq_some hf)⟩
theorem softT {w w' : World} {Z : Hp} {c : Cb} {kf : Nat → Option AV} {tf : Nat → Option Nat} {n b : Nat} {cs : Array Value} {t : TypeId} (h : CacheAt Z w c kf tf n) (ht : Tch c.soft w w') (hb : w.heap[b]? = some (.cells cs t)) (hn : t ≠ 73) : w'.heap[b]? = some (.cells cs t) := by
  refine (ht.block b (Array.getElem?_eq_some_iff.1 hb).1 fun hs => ?_).trans hb
  rcases hs with e | e | e
  · rw [e, h.blk] at hb
    cases hb
    exact hn rfl
  · obtain ⟨es, clock, hm⟩ := map_blk h.km
    rw [← e, hb] at hm
    cases hm
  · obtain ⟨es, clock, hm⟩ := map_blk h.tm
    rw [← e, hb] at hm
    cases hm
theorem ra_at1 {re : List AV} {k : Nat → Option AV} {A : Nat} {x' : AV} (h : ∀ B x, B < 2 ^ 160 → k B = some x → x.a = rem re B) (hx : x'.a = rem re A) : ∀ B x, B < 2 ^ 160 → at1 k A (some x') B = some x → x.a = rem re B := fun B x hB hk => by
  unfold at1 at hk
  split at hk
  · next e =>
    cases hk
    rw [e]
    exact hx
  · exact h B x hB hk
theorem at1_self {α : Type} (f : Nat → Option α) (A : Nat) (v : Option α) : at1 f A v A = v := by simp [at1]
theorem at1_none {t : Nat → Option Nat} {A : Nat} (h : ∀ B, B < 2 ^ 160 → t B = none) : ∀ B, B < 2 ^ 160 → at1 t A none B = none := fun B hB => by
  unfold at1
  split
  · rfl
  · exact h B hB
theorem at1_keep {k : Nat → Option AV} {A : Nat} {x : AV} : ∀ B, (k B).isSome = true → (at1 k A (some x) B).isSome = true := fun B hB => by
  unfold at1
  split
  · rfl
  · exact hB
set_option maxHeartbeats 20000000 in
theorem ways_law (v1 v2 v3 : Value) (re : List AV) (or : List Nat) (fa : List Nat) (w : World) (h1 : AccsB (hp w) v1 re) (h2 : RowZ (hp w) v2 or.length 20 (or.flatMap ecs)) (h2l : ∀ A ∈ or, A < 2 ^ 160) (h3 : RowZ (hp w) v3 fa.length 1 (fa.map u8v)) (h3l : ∀ c ∈ fa, c < 256) :
    Calls Try.prog 4 #[v1, v2, v3] w fun e w' => e = .returned (.bool true) ∧ Below w.heap.size w w' := by
  have KFx := Lib.hid fixed_walk
  have KG := Lib.hid (great_walk v1 re w h1)
  obtain ⟨A1, c1, rfl, hn1, hc1, -, hcl1⟩ := h1.row.one (fun x _ => acs_len x)
  obtain ⟨A2, c2, rfl, hn2, hc2, -, hcl2⟩ := h2.one (fun x _ => ecs_len x)
  obtain ⟨A3, c3, rfl, hn3, hc3, -, hcl3⟩ := h3.val
  have HC1 := Lib.hid hcl1
  have HC2 := Lib.hid hcl2
  have HC3 := Lib.hid hcl3
  have HL2 := Lib.hid h2l
  have HL3 := Lib.hid h3l
  have H1 := Lib.hid h1
  clear hcl1 hcl2 hcl3 h1 h2 h2l h3 h3l
  have hsN := aN_size
  have hsx : ∀ x, (acs x).toArray.size = 27 := fun x => by simp [acs_len]
  by_cases hor : 100 < or.length
  · cases hg : greatL re
    · rw [hg] at KG
      go_enter Try.func4, Try.ntmps4
      go_wp2_with (first
        | (go_at_call 24; refine KG.out.mono ?_; rintro e w1 ⟨rfl, rfl⟩)
        | (go_at_call 8; refine (KFx.out _).mono ?_; rintro e w2 ⟨rfl, b2⟩; have HB2 := Lib.hid b2; clear b2))
      go_ret
      exact ⟨rfl, HB2.out⟩
    · rw [hg] at KG
      go_enter Try.func4, Try.ntmps4
      go_wp2_with (first
        | (go_at_call 24; refine KG.out.mono ?_; rintro e w1 ⟨rfl, rfl⟩)
        | (go_at_call 8; refine (KFx.out _).mono ?_; rintro e w2 ⟨rfl, b2⟩; have HB2 := Lib.hid b2; clear b2))
      go_ret
      exact ⟨rfl, HB2.out⟩
  · cases hg : greatL re
    · rw [hg] at KG
      have HRz := Lib.hid ((small_accs H1.out hg).1)
      have hrl := (small_accs H1.out hg).2
      clear hg
      go_enter Try.func4, Try.ntmps4
      go_upto_region 3 with (go_at_call 24; refine KG.out.mono ?_; rintro e w1 ⟨rfl, rfl⟩)
      clear KG
      go_wp2_with fail
      go_loopw [35] (fun i wr => ∃ j : Nat, j ≤ re.length ∧ i = .int .i64 j ∧ Hid (∀ x ∈ re.take j, rightA x.a = true) ∧ Hid (Below w.heap.size w wr)) (fun i _ => re.length - (intOf i).toNat)
      case atStart => exact ⟨0, Nat.zero_le _, rfl, Lib.hid (fun x hx => by simp at hx), Lib.hid (Below.refl _ _)⟩
      case round =>
        obtain ⟨j, hj, rfl, HRi, HB⟩ := hrel
        by_cases hlt : j < re.length
        · obtain ⟨b1, off1, rfl, -, hi⟩ := HC1.out (by omega)
          obtain ⟨x, hx⟩ : ∃ x, re[j]? = some x := ⟨re[j]'hlt, by simp⟩
          have r1 := ((hi j x hx).sub (hp_below HB.out)).at
          have hxz := HRz.out.each x (List.mem_of_getElem? hx)
          have HXg := Lib.hid hx
          have one := hxz.ones
          have HXz := Lib.hid hxz
          have FN := Lib.hid (heap_alloc_new wr (.cells (acs noneAV).toArray 39))
          clear hi hx hxz
          go_upto_region 6 with (first
            | (refine wpList_load_mid rfl 39 _ rfl b1 _ rfl (acs x) _ r1 Try.underlying39 rfl (infoAcs _) ?_)
            | (refine wpList_alloc_row rfl 39 rfl _ zeroAcc ?_)
            | (refine wpList_store_row rfl 39 _ _ rfl wr.heap.size _ (acs x).toArray rfl rfl FN.out (by simpa using infoAcs _) (by simp [acs_len]) one ?_))
          have b6 : Below wr.heap.size wr ((wr.alloc (.cells (acs noneAV).toArray 39)).setRow wr.heap.size (acs x).toArray) := below_setRow ((Below.refl _ _).alloc (Nat.le_refl _) _) (Nat.le_refl _) _
          have FX := Lib.hid (blk_row FN.out (c' := (acs x).toArray))
          have HB6 := Lib.hid (HB.out.trans (b6.mono HB.out.size))
          clear b6 FN r1 one
          generalize (wr.alloc (.cells (acs noneAV).toArray 39)).setRow wr.heap.size (acs x).toArray = w6 at *
          generalize wr.heap.size = xb at *
          simp only [Act.put]
          have rx := (rng_block FX.out).at
          have KR := Lib.hid (rright_walk x w6 (HXz.out.sub (hp_below HB6.out)))
          unfold aval at KR
          cases hr : rightA x.a
          · rw [hr] at KR
            go_wp2_with (first
              | (refine wpList_load_mid rfl 39 _ rfl xb 0 rfl (acs x) _ rx Try.underlying39 rfl (infoAcs _) ?_)
              | (go_at_call 25; refine KR.out.mono ?_; rintro e w7 ⟨rfl, b7⟩; have HB7 := Lib.hid (HB6.out.trans (b7.mono HB6.out.size)); clear b7)
              | (go_at_call 8; refine (KFx.out _).mono ?_; rintro e w8 ⟨rfl, b8⟩; have HB8 := Lib.hid (HB7.out.trans (b8.mono HB7.out.size)); clear b8))
            go_ret
            exact ⟨rfl, HB8.out⟩
          · have HRx := Lib.hid hr
            rw [hr] at KR
            go_wp2_with (first
              | (refine wpList_load_mid rfl 39 _ rfl xb 0 rfl (acs x) _ rx Try.underlying39 rfl (infoAcs _) ?_)
              | (go_at_call 25; refine KR.out.mono ?_; rintro e w7 ⟨rfl, b7⟩; have HB7 := Lib.hid (HB6.out.trans (b7.mono HB6.out.size)); clear b7))
            exact ⟨⟨j + 1, by omega, by go_num, Lib.hid (fun y hy => by
              rw [List.take_add_one, HXg.out] at hy
              rcases List.mem_append.1 hy with hy | hy
              · exact HRi.out y hy
              · simp at hy
                subst hy
                exact HRx.out), HB7⟩, by simp [intOf]; omega⟩
        · obtain rfl : j = re.length := by omega
          have HRA : Hid (∀ x ∈ re, rightA x.a = true) := Lib.hid fun x hx => HRi.out x (by rw [List.take_of_length_le (Nat.le_refl _)]; exact hx)
          clear HRi
          have KN := Lib.hid fnew_walk
          go_upto_region 10 with (first
            | (go_at_call 7; refine (KN.out wr).mono ?_; rintro e w3 ⟨ca, rfl, ha, hs1, b3⟩; have HCA := Lib.hid ha; have HSA := Lib.hid hs1; have B3 := Lib.hid b3; clear ha hs1 b3)
            | (go_at_call 7; refine (KN.out w3).mono ?_; rintro e w4 ⟨cb, rfl, hb, hs2, b4⟩; have HCB := Lib.hid hb; have HSB := Lib.hid hs2; have B4 := Lib.hid b4; clear hb hs2 b4))
          have HW4 := Lib.hid (Ways.start (w := w) re HCA.out HCB.out (fun b hb => Nat.le_trans HB.out.size (HSA.out b hb)) HSB.out (HB.out.trans (B3.out.mono HB.out.size)) B4.out)
          clear HCA HCB HSA HSB B3 B4 HB KN
          go_upto_region 12 with (go_at_call 8; refine (KFx.out _).mono ?_; rintro e w5 ⟨rfl, b5⟩; have HW5 := Lib.hid (HW4.out.low b5); clear b5)
          clear HW4 KFx
          go_wp2_with fail
          go_loopw [58] (fun i wr => ∃ (i0 : Nat) (Za Zb : Hp) (ka kb : Nat → Option AV) (ta tb : Nat → Option Nat) (na nb : Nat), i0 ≤ or.length ∧ i = .int .i64 i0 ∧ Hid (Ways w wr ca cb Za Zb ka kb ta tb na nb re) ∧ Hid (∀ A, A < 2 ^ 160 → ta A = none ∧ tb A = none) ∧ Hid (na ≤ 100 * i0 ∧ nb ≤ 100 * i0) ∧ Hid (∀ j A, j < i0 → or[j]? = some A → (ka A).isSome = true) ∧ Hid (∀ j A, j < i0 → or[or.length - 1 - j]? = some A → (kb A).isSome = true)) (fun i _ => or.length - (intOf i).toNat)
          case atStart => exact ⟨0, _, _, _, _, _, _, _, _, Nat.zero_le _, rfl, HW5, Lib.hid fun _ _ => ⟨rfl, rfl⟩, Lib.hid ⟨Nat.le_refl _, Nat.le_refl _⟩, Lib.hid fun j A h => by omega, Lib.hid fun j A h => by omega⟩
          case round =>
            obtain ⟨i0, Za, Zb, ka, kb, ta, tb, na, nb, hi0, rfl, HW, HT, HN, HKA, HKB⟩ := hrel
            clear HW5
            by_cases hlt2 : i0 < or.length
            · obtain ⟨A, hA⟩ : ∃ A, or[i0]? = some A := ⟨or[i0]'hlt2, by simp⟩
              obtain ⟨A', hA'⟩ : ∃ A', or[or.length - 1 - i0]? = some A' := ⟨or[or.length - 1 - i0]'(by omega), by simp⟩
              obtain ⟨b2, off2, rfl, -, hi2⟩ := HC2.out (by omega)
              have HAl1 := Lib.hid (HL2.out A (List.mem_of_getElem? hA))
              have HAl2 := Lib.hid (HL2.out A' (List.mem_of_getElem? hA'))
              have HOA := Lib.hid hA
              have HOB := Lib.hid hA'
              have HRA1 := Lib.hid (hi2 i0 A hA)
              have HRA2 := Lib.hid (hi2 _ A' hA')
              have hor' : or.length ≤ 100 := by omega
              clear hi2 hA hA'
              have r2 : wr.rangeAt b2 (off2 + i0 * 20) (aN A).toList := (HRA1.out.sub (hp_below HW.out.below)).at
              have FN := Lib.hid (heap_alloc_new wr (.cells (aN 0) 32))
              have one := aN_one A
              go_upto_region 15 with (first
                | (refine wpList_load_mid rfl 32 _ rfl b2 _ rfl (aN A).toList _ r2 Try.underlying32 rfl (infoAd _) ?_; simp only [Array.toArray_toList])
                | (refine wpList_alloc_row rfl 32 rfl _ zeroAd_run ?_)
                | (refine wpList_store_row rfl 32 _ _ rfl wr.heap.size _ (aN A) rfl rfl FN.out Try.infoAd20 rfl one ?_))
              have b10 : Below wr.heap.size wr ((wr.alloc (.cells (aN 0) 32)).setRow wr.heap.size (aN A)) := below_setRow ((Below.refl _ _).alloc (Nat.le_refl _) _) (Nat.le_refl _) _
              have Fba := Lib.hid (blk_row FN.out (c' := aN A))
              have Hw10 := Lib.hid (HW.out.low b10)
              clear b10 FN r2 one HW
              generalize (wr.alloc (.cells (aN 0) 32)).setRow wr.heap.size (aN A) = w10 at *
              generalize wr.heap.size = ba at *
              simp only [Act.put]
              have ra := adblk Fba.out
              have KF := Lib.hid (rfind_walk (.slice A1 re.length c1) re A w10 (HRz.out.sub (hp_below Hw10.out.below)) (by omega) HAl1.out)
              have one := (findV_z HRz.out A).ones
              unfold aval at KF
              go_upto_region 16 with (first
                | (refine wpList_load_mid rfl 32 _ rfl ba 0 rfl (aN A).toList _ ra Try.underlying32 rfl (infoAd _) ?_; simp only [Array.toArray_toList])
                | (go_at_call 17
                   refine KF.out.mono ?_
                   rintro e w11 ⟨rfl, b11⟩
                   have HW11 := Lib.hid (Hw10.out.low b11)
                   have FA11 := Lib.hid (stay b11 Fba.out)
                   have FN := Lib.hid (heap_alloc_new w11 (.cells (acs noneAV).toArray 39))
                   clear b11)
                | (refine wpList_alloc_row rfl 39 rfl _ zeroAcc ?_)
                | (refine wpList_store_row rfl 39 _ _ rfl w11.heap.size _ (acs (findV re A)).toArray rfl rfl FN.out (by simpa using infoAcs _) (by simp [acs_len]) one ?_))
              have b12 : Below w11.heap.size w11 ((w11.alloc (.cells (acs noneAV).toArray 39)).setRow w11.heap.size (acs (findV re A)).toArray) := below_setRow ((Below.refl _ _).alloc (Nat.le_refl _) _) (Nat.le_refl _) _
              have FX := Lib.hid (blk_row FN.out (c' := (acs (findV re A)).toArray))
              have HB12 := Lib.hid b12
              clear b12 FN ra KF Hw10 Fba
              generalize (w11.alloc (.cells (acs noneAV).toArray 39)).setRow w11.heap.size (acs (findV re A)).toArray = w12 at *
              have HVd := Lib.hid (show findV re A = (findO re A).getD noneAV from rfl)
              have HVz := Lib.hid (findV_z HRz.out A)
              generalize findV re A = y at *
              go_upto_if 70 with fail
              go_cut [14] from 59 to 130 (fun s14 wx => s14 = .bool (findO re A).isSome ∧ ∃ x, Hid (wx.heap[w11.heap.size]? = some (.cells (acs x).toArray 39)) ∧ Hid (x.a = rem re A) ∧ Hid (AccZ (hp w) x) ∧ Hid (Below w11.heap.size w11 wx))
              case first =>
                cases hq : (findO re A).isSome
                · have ra := adblk (stay HB12.out FA11.out)
                  have one' := (bareZ (fun _ => none) HAl1.out).ones
                  have HE : Hid ((bareAV A).a = rem re A) := Lib.hid (by
                    unfold rem
                    cases hf : findO re A with
                    | none => rfl
                    | some z => rw [hf] at hq; cases hq)
                  have hrow : Hid (Below w11.heap.size w11 (w12.setRow w11.heap.size (acs (bareAV A)).toArray)) := Lib.hid (below_setRow HB12.out (Nat.le_refl _) _)
                  have hn' : (findO re A).isNone = true := by rw [← Option.not_isSome, hq]; rfl
                  rw [hn']
                  clear hn'
                  go_wp2_with (first
                    | (refine wpList_load_mid rfl 32 _ rfl ba 0 rfl (aN A).toList _ ra Try.underlying32 rfl (infoAd _) ?_; simp only [Array.toArray_toList])
                    | (refine wpList_buildAd rfl _ rfl A rfl ?_)
                    | (refine wpList_store_row rfl 39 _ _ rfl w11.heap.size _ (acs (bareAV A)).toArray rfl rfl FX.out (by simpa using infoAcs _) (by simp [acs_len]) one' ?_))
                  go_meet
                  exact ⟨by rw [hq], bareAV A, Lib.hid (blk_row FX.out), HE, Lib.hid (bareZ _ HAl1.out), hrow⟩
                · have HE : Hid (y.a = rem re A) := Lib.hid (by
                    rw [HVd.out]
                    unfold rem
                    cases hf : findO re A with
                    | none => rw [hf] at hq; cases hq
                    | some z => rfl)
                  have hn' : (findO re A).isNone = false := by rw [← Option.not_isSome, hq]; rfl
                  rw [hn']
                  clear hn'
                  go_wp2_with fail
                  go_meet
                  exact ⟨by rw [hq], y, FX, HE, HVz, HB12⟩
              case rest =>
              obtain ⟨rfl, x1, FX1, HE1, HX1, HB13⟩ := hcut
              have HW13 := Lib.hid (HW11.out.low HB13.out)
              have FA13 := Lib.hid (stay HB13.out FA11.out)
              clear HW11 FA11 HB12 HB13 FX one HVd HVz
              generalize w11.heap.size = xb1 at *
              have hna := HN.out.1
              have hnb := HN.out.2
              have ra := adblk FA13.out
              have KW := Lib.hid (want_walk HW13.out.a A HAl1.out (by omega))
              obtain ⟨q, hq⟩ : ∃ q : Nat, wantN ka ta A = q := ⟨_, rfl⟩
              unfold WantIs at KW
              rw [hq] at KW
              go_upto_if 76 with (first
                | (refine wpList_load_mid rfl 32 _ rfl ba 0 rfl (aN A).toList _ ra Try.underlying32 rfl (infoAd _) ?_; simp only [Array.toArray_toList])
                | (go_at_call 11
                   refine KW.out.mono ?_
                   rintro e w14 ⟨rfl, hc, ht⟩
                   have HW14 := Lib.hid (HW13.out.goA ht hc (fun b o hb => .inl hb) HW13.out.ra)
                   have FA14 := Lib.hid (softT HW13.out.a ht FA13.out (by decide))
                   have FX14 := Lib.hid (softT HW13.out.a ht FX1.out (by decide))
                   clear hc ht))
              clear KW HW13 FA13 FX1 ra
              go_cut [15] from 59 to 130 (fun s15 wx => ∃ (Za' : Hp) (ka' : Nat → Option AV) (ta' : Nat → Option Nat) (na' : Nat), Hid (Ways w wx ca cb Za' Zb ka' kb ta' tb na' nb re) ∧ Hid (∀ B, B < 2 ^ 160 → ta' B = none) ∧ Hid (na' ≤ 100 * i0 + 60) ∧ Hid (∀ B, (ka B).isSome = true → (ka' B).isSome = true) ∧ Hid ((ka' A).isSome = true))
              case first =>
                cases hk : (ka A).isSome
                · have hta := (HT.out A HAl1.out).1
                  have hq3 : q = 3 := by rw [← hq]; unfold wantN; rw [hk, hta]; rfl
                  have hwt : wantT ka ta A = at1 ta A (some 0) := by unfold wantT; rw [hk, hta]; rfl
                  rw [hwt] at HW14
                  subst hq3
                  go_upto_if 80 with fail
                  go_cut [15] from 77 to 130 (fun s15 wx => ∃ n : Nat, n < 20 ∧ s15 = .int .i64 (n : Int) ∧ wx = w14)
                  case first =>
                    by_cases hf : i0 < fa.length
                    · obtain ⟨b3, off3, rfl, hr3⟩ := HC3.out (by omega)
                      obtain ⟨c, hc⟩ : ∃ c, fa[i0]? = some c := ⟨fa[i0]'hf, by simp⟩
                      have hc256 := HL3.out c (List.mem_of_getElem? hc)
                      have c3' : w14.cell? ⟨b3, off3 + i0, none⟩ = some (.int .u8 (c : Int)) := (hr3.sub (hp_below HW14.out.below)).at i0 _ (by simp [hc, u8v])
                      clear hr3
                      go_wp2_with fail
                      go_meet
                      exact ⟨c % 20, by omega, by go_num, rfl⟩
                    · go_wp2_with fail
                      go_meet
                      exact ⟨0, by omega, rfl, rfl⟩
                  case rest =>
                  obtain ⟨n, hn20, rfl, rfl⟩ := hcut
                  go_wp2_with fail
                  go_loopw [88] (fun i wx => ∃ (j q n' : Nat), j ≤ n ∧ i = .int .i64 (j : Int) ∧ q < 8 ∧ n' ≤ na + 1 + 2 * j ∧ Hid (Ways w wx ca cb Za Zb ka kb (at1 ta A (some q)) tb n' nb re) ∧ Hid (wx.heap[ba]? = some (.cells (aN A) 32)) ∧ Hid (wx.heap[xb1]? = some (.cells (acs x1).toArray 39))) (fun i _ => n - (intOf i).toNat)
                  case atStart => exact ⟨0, 0, na + 1, Nat.zero_le _, rfl, by omega, by omega, HW14, FA14, FX14⟩
                  case round =>
                    obtain ⟨j, q, n', hj', rfl, hq8, hn', HWj, FAj, FXj⟩ := hrel
                    clear HW14 FA14 FX14
                    by_cases hltj : j < n
                    · have ra := adblk FAj.out
                      by_cases hqq : q + 1 < 8
                      · have KA := Lib.hid (fail_again HWj.out.a A HAl1.out q (at1_self _ _ _) hqq (by omega))
                        rw [at1_at1] at KA
                        go_wp2_with (first
                          | (refine wpList_load_mid rfl 32 _ rfl ba 0 rfl (aN A).toList _ ra Try.underlying32 rfl (infoAd _) ?_; simp only [Array.toArray_toList])
                          | (go_at_call 15
                             refine KA.out.mono ?_
                             rintro e w16 ⟨rfl, hc, ht⟩
                             have HW16 := Lib.hid (HWj.out.goA ht hc (fun b o hb => .inl hb) HWj.out.ra)
                             have FA16 := Lib.hid (softT HWj.out.a ht FAj.out (by decide))
                             have FX16 := Lib.hid (softT HWj.out.a ht FXj.out (by decide))
                             clear hc ht))
                        refine ⟨⟨_, _, _, _, _, _, _, _, _, _, ?_, rfl⟩, ?_⟩
                        · exact ⟨j + 1, q + 1, n' + 1, by omega, by go_num, by omega, by omega, HW16, FA16, FX16⟩
                        · simp [intOf]
                          omega
                      · have KA := Lib.hid (fail_lost HWj.out.a A HAl1.out q (at1_self _ _ _) hqq hq8 (by omega))
                        rw [at1_at1] at KA
                        go_upto_if 93 with (first
                          | (refine wpList_load_mid rfl 32 _ rfl ba 0 rfl (aN A).toList _ ra Try.underlying32 rfl (infoAd _) ?_; simp only [Array.toArray_toList])
                          | (go_at_call 15
                             refine KA.out.mono ?_
                             rintro e w16 ⟨rfl, hc, ht⟩
                             have HW16 := Lib.hid (HWj.out.goA ht hc (fun b o hb => .inl hb) HWj.out.ra)
                             have FA16 := Lib.hid (softT HWj.out.a ht FAj.out (by decide))
                             have FX16 := Lib.hid (softT HWj.out.a ht FXj.out (by decide))
                             clear hc ht))
                        clear ra KA
                        have ra := adblk FA16.out
                        have KB := Lib.hid (want_new HW16.out.a A HAl1.out hk (by rw [at1_self]; rfl) (by omega))
                        rw [at1_at1] at KB
                        go_wp2_with (first
                          | (refine wpList_load_mid rfl 32 _ rfl ba 0 rfl (aN A).toList _ ra Try.underlying32 rfl (infoAd _) ?_; simp only [Array.toArray_toList])
                          | (go_at_call 11
                             refine KB.out.mono ?_
                             rintro e w18 ⟨rfl, hc, ht⟩
                             have HW18 := Lib.hid (HW16.out.goA ht hc (fun b o hb => .inl hb) HW16.out.ra)
                             have FA18 := Lib.hid (softT HW16.out.a ht FA16.out (by decide))
                             have FX18 := Lib.hid (softT HW16.out.a ht FX16.out (by decide))
                             clear hc ht))
                        refine ⟨⟨_, _, _, _, _, _, _, _, _, _, ?_, rfl⟩, ?_⟩
                        · exact ⟨j + 1, 0, n' + 1 + 1, by omega, by go_num, by omega, by omega, HW18, FA18, FX18⟩
                        · simp [intOf]
                          omega
                    · obtain rfl : j = n := by omega
                      have rx := (rng_block FXj.out).at
                      have hro := rem_of (A := A) HRA.out
                      have had : x1.a.ad = A := by rw [HE1.out]; exact hro.1
                      have hri : rightA x1.a = true := by rw [HE1.out]; exact hro.2
                      have hb : (((at1 ta A (some q)) x1.a.ad).isSome && rightA x1.a) = true := by rw [had, hri, at1_self]; rfl
                      have KL := Lib.hid (fill_yes HWj.out.a x1 (HX1.out.sub (hp_below HWj.out.below)) (by rw [had, at1_self]; rfl) hri (by omega))
                      unfold aval at KL
                      go_wp2_with (first
                        | (refine wpList_load_mid rfl 39 _ rfl xb1 0 rfl (acs x1) _ rx Try.underlying39 rfl (infoAcs _) ?_)
                        | (go_at_call 13
                           refine KL.out.mono ?_
                           rintro e w17 ⟨Z', k', t', hf⟩
                           obtain ⟨x', hx', hk', ht'⟩ := hf.yes hb
                           have he := hf.ans
                           rw [hb] at he
                           rw [had] at hk' ht'
                           rw [at1_at1] at ht'
                           subst hk'
                           subst ht'
                           subst he
                           have HW17 := Lib.hid (HWj.out.goA hf.tch hf.at' hf.new (ra_at1 HWj.out.ra (hx'.trans HE1.out)))
                           clear hf))
                      go_meet
                      exact ⟨Z', _, _, n' + 1, HW17, Lib.hid (at1_none fun B hB => (HT.out B hB).1), Lib.hid (by omega), Lib.hid at1_keep, Lib.hid (by rw [at1_self]; rfl)⟩
                · have hq1 : q = 1 := by rw [← hq]; unfold wantN; rw [hk]; rfl
                  have hwt : wantT ka ta A = ta := by unfold wantT; rw [hk]; rfl
                  rw [hwt] at HW14
                  subst hq1
                  go_wp2_with fail
                  go_meet
                  exact ⟨Za, ka, ta, na + 1, HW14, Lib.hid fun B hB => (HT.out B hB).1, Lib.hid (by omega), Lib.hid fun B h => h, Lib.hid hk⟩
              case rest =>
              obtain ⟨Za2, ka2, ta2, na2, HW15, HT2, HN2, HK2, HKA2⟩ := hcut
              have r2 : wc.rangeAt b2 (off2 + (or.length - 1 - i0) * 20) (aN A').toList := (HRA2.out.sub (hp_below HW15.out.below)).at
              have FN := Lib.hid (heap_alloc_new wc (.cells (aN 0) 32))
              have one := aN_one A'
              go_upto_region 30 with (first
                | (refine wpList_load_mid rfl 32 _ rfl b2 _ rfl (aN A').toList _ r2 Try.underlying32 rfl (infoAd _) ?_; simp only [Array.toArray_toList])
                | (refine wpList_alloc_row rfl 32 rfl _ zeroAd_run ?_)
                | (refine wpList_store_row rfl 32 _ _ rfl wc.heap.size _ (aN A') rfl rfl FN.out Try.infoAd20 rfl one ?_))
              have b10 : Below wc.heap.size wc ((wc.alloc (.cells (aN 0) 32)).setRow wc.heap.size (aN A')) := below_setRow ((Below.refl _ _).alloc (Nat.le_refl _) _) (Nat.le_refl _) _
              have Fbd := Lib.hid (blk_row FN.out (c' := aN A'))
              have Hw20 := Lib.hid (HW15.out.low b10)
              clear b10 FN r2 one HW15
              generalize (wc.alloc (.cells (aN 0) 32)).setRow wc.heap.size (aN A') = w20 at *
              generalize wc.heap.size = bd at *
              simp only [Act.put]
              have ra := adblk Fbd.out
              have KF := Lib.hid (rfind_walk (.slice A1 re.length c1) re A' w20 (HRz.out.sub (hp_below Hw20.out.below)) (by omega) HAl2.out)
              have one := (findV_z HRz.out A').ones
              unfold aval at KF
              go_upto_region 31 with (first
                | (refine wpList_load_mid rfl 32 _ rfl bd 0 rfl (aN A').toList _ ra Try.underlying32 rfl (infoAd _) ?_; simp only [Array.toArray_toList])
                | (go_at_call 17
                   refine KF.out.mono ?_
                   rintro e w11 ⟨rfl, b11⟩
                   have HV11 := Lib.hid (Hw20.out.low b11)
                   have FD11 := Lib.hid (stay b11 Fbd.out)
                   have FN := Lib.hid (heap_alloc_new w11 (.cells (acs noneAV).toArray 39))
                   clear b11)
                | (refine wpList_alloc_row rfl 39 rfl _ zeroAcc ?_)
                | (refine wpList_store_row rfl 39 _ _ rfl w11.heap.size _ (acs (findV re A')).toArray rfl rfl FN.out (by simpa using infoAcs _) (by simp [acs_len]) one ?_))
              have b12 : Below w11.heap.size w11 ((w11.alloc (.cells (acs noneAV).toArray 39)).setRow w11.heap.size (acs (findV re A')).toArray) := below_setRow ((Below.refl _ _).alloc (Nat.le_refl _) _) (Nat.le_refl _) _
              have FX := Lib.hid (blk_row FN.out (c' := (acs (findV re A')).toArray))
              have HB12 := Lib.hid b12
              clear b12 FN ra KF Hw20 Fbd
              generalize (w11.alloc (.cells (acs noneAV).toArray 39)).setRow w11.heap.size (acs (findV re A')).toArray = w12 at *
              have HVd := Lib.hid (show findV re A' = (findO re A').getD noneAV from rfl)
              have HVz := Lib.hid (findV_z HRz.out A')
              generalize findV re A' = y at *
              go_upto_if 117 with fail
              go_cut [18] from 59 to 130 (fun s14 wx => s14 = .bool (findO re A').isSome ∧ ∃ x, Hid (wx.heap[w11.heap.size]? = some (.cells (acs x).toArray 39)) ∧ Hid (x.a = rem re A') ∧ Hid (AccZ (hp w) x) ∧ Hid (Below w11.heap.size w11 wx))
              case first =>
                cases hq : (findO re A').isSome
                · have ra := adblk (stay HB12.out FD11.out)
                  have one' := (bareZ (fun _ => none) HAl2.out).ones
                  have HE : Hid ((bareAV A').a = rem re A') := Lib.hid (by
                    unfold rem
                    cases hf : findO re A' with
                    | none => rfl
                    | some z => rw [hf] at hq; cases hq)
                  have hrow : Hid (Below w11.heap.size w11 (w12.setRow w11.heap.size (acs (bareAV A')).toArray)) := Lib.hid (below_setRow HB12.out (Nat.le_refl _) _)
                  have hn' : (findO re A').isNone = true := by rw [← Option.not_isSome, hq]; rfl
                  rw [hn']
                  clear hn'
                  go_wp2_with (first
                    | (refine wpList_load_mid rfl 32 _ rfl bd 0 rfl (aN A').toList _ ra Try.underlying32 rfl (infoAd _) ?_; simp only [Array.toArray_toList])
                    | (refine wpList_buildAd rfl _ rfl A' rfl ?_)
                    | (refine wpList_store_row rfl 39 _ _ rfl w11.heap.size _ (acs (bareAV A')).toArray rfl rfl FX.out (by simpa using infoAcs _) (by simp [acs_len]) one' ?_))
                  go_meet
                  exact ⟨by rw [hq], bareAV A', Lib.hid (blk_row FX.out), HE, Lib.hid (bareZ _ HAl2.out), hrow⟩
                · have HE : Hid (y.a = rem re A') := Lib.hid (by
                    rw [HVd.out]
                    unfold rem
                    cases hf : findO re A' with
                    | none => rw [hf] at hq; cases hq
                    | some z => rfl)
                  have hn' : (findO re A').isNone = false := by rw [← Option.not_isSome, hq]; rfl
                  rw [hn']
                  clear hn'
                  go_wp2_with fail
                  go_meet
                  exact ⟨by rw [hq], y, FX, HE, HVz, HB12⟩
              case rest =>
              obtain ⟨rfl, x2, FX2, HE2, HX2, HB13⟩ := hcut
              have HV13 := Lib.hid (HV11.out.low HB13.out)
              have FD13 := Lib.hid (stay HB13.out FD11.out)
              clear HV11 FD11 HB12 HB13 FX one HVd HVz
              generalize w11.heap.size = xb2 at *
              have rd := adblk FD13.out
              have hkb' : ∀ B, B < 2 ^ 160 → tb B = none := fun B hB => (HT.out B hB).2
              have HKAn : Hid (∀ j B, j < i0 + 1 → or[j]? = some B → (ka2 B).isSome = true) := Lib.hid fun j B hj hB => by
                rcases Nat.lt_or_ge j i0 with h | h
                · exact HK2.out B (HKA.out j B h hB)
                · have e : j = i0 := by omega
                  rw [e, HOA.out] at hB
                  cases hB
                  exact HKA2.out
              cases hk : (kb A').isSome
              · have KW := Lib.hid (want_new HV13.out.b A' HAl2.out hk (by rw [hkb' _ HAl2.out]; rfl) (by omega))
                have rx := (rng_block FX2.out).at
                have hro := rem_of (A := A') HRA.out
                have had : x2.a.ad = A' := by rw [HE2.out]; exact hro.1
                have hri : rightA x2.a = true := by rw [HE2.out]; exact hro.2
                have hb : (((at1 tb A' (some 0)) x2.a.ad).isSome && rightA x2.a) = true := by rw [had, hri, at1_self]; rfl
                go_wp2_with (first
                  | (refine wpList_load_mid rfl 32 _ rfl bd 0 rfl (aN A').toList _ rd Try.underlying32 rfl (infoAd _) ?_; simp only [Array.toArray_toList])
                  | (go_at_call 11
                     refine KW.out.mono ?_
                     rintro e w22 ⟨rfl, hc, ht⟩
                     have HW22 := Lib.hid (HV13.out.goB ht hc (fun b o hb => .inl hb) HV13.out.rb)
                     have FX22 := Lib.hid (softT HV13.out.b ht FX2.out (by decide))
                     replace rx := (rng_block FX22.out).at
                     have KL := Lib.hid (fill_yes HW22.out.b x2 (HX2.out.sub (hp_below HW22.out.below)) (by rw [had, at1_self]; rfl) hri (by omega))
                     unfold aval at KL
                     clear hc ht)
                  | (refine wpList_load_mid rfl 39 _ rfl xb2 0 rfl (acs x2) _ rx Try.underlying39 rfl (infoAcs _) ?_)
                  | (refine load_midG (by rfl) 39 _ rfl xb2 0 rfl (acs x2) _ rx Try.underlying39 rfl (infoAcs _) ?_)
                  | (go_at_call 13
                     refine KL.out.mono ?_
                     rintro e w23 ⟨Z', k', t', hf⟩
                     obtain ⟨x', hx', hk', ht'⟩ := hf.yes hb
                     have he := hf.ans
                     rw [hb] at he
                     rw [had] at hk' ht'
                     rw [at1_at1] at ht'
                     subst hk'
                     subst ht'
                     subst he
                     have HW23 := Lib.hid (HW22.out.goB hf.tch hf.at' hf.new (ra_at1 HW22.out.rb (hx'.trans HE2.out)))
                     clear hf))
                exact ⟨⟨i0 + 1, Za2, Z', ka2, _, ta2, _, na2, nb + 1 + 1, by omega, by go_num, HW23, Lib.hid fun B hB => ⟨HT2.out B hB, at1_none hkb' B hB⟩, Lib.hid ⟨by have := HN2.out; omega, by omega⟩, HKAn, Lib.hid fun j B hj hB => by
                  rcases Nat.lt_or_ge j i0 with h | h
                  · exact at1_keep B (HKB.out j B h hB)
                  · have e : j = i0 := by omega
                    rw [e, HOB.out] at hB
                    cases hB
                    rw [at1_self]
                    rfl⟩, by simp [intOf]; omega⟩
              · have KW := Lib.hid (want_known HV13.out.b A' HAl2.out hk)
                go_wp2_with (first
                  | (refine wpList_load_mid rfl 32 _ rfl bd 0 rfl (aN A').toList _ rd Try.underlying32 rfl (infoAd _) ?_; simp only [Array.toArray_toList])
                  | (go_at_call 11
                     refine KW.out.mono ?_
                     rintro e w22 ⟨rfl, b22⟩
                     have HW22 := Lib.hid (HV13.out.low b22)
                     clear b22))
                exact ⟨⟨i0 + 1, Za2, Zb, ka2, kb, ta2, tb, na2, nb, by omega, by go_num, HW22, Lib.hid fun B hB => ⟨HT2.out B hB, hkb' B hB⟩, Lib.hid ⟨by have := HN2.out; omega, by omega⟩, HKAn, Lib.hid fun j B hj hB => by
                  rcases Nat.lt_or_ge j i0 with h | h
                  · exact HKB.out j B h hB
                  · have e : j = i0 := by omega
                    rw [e, HOB.out] at hB
                    cases hB
                    exact hk⟩, by simp [intOf]; omega⟩
            · --END
              obtain rfl : i0 = or.length := by omega
              go_wp2_with fail
              go_loopw [133] (fun i wx => ∃ j : Nat, j ≤ or.length ∧ i = .int .i64 j ∧ Hid (Ways w wx ca cb Za Zb ka kb ta tb na nb re)) (fun i _ => or.length - (intOf i).toNat)
              case atStart => exact ⟨0, Nat.zero_le _, rfl, HW⟩
              case round =>
                obtain ⟨j, hj, rfl, HW1⟩ := hrel
                clear HW
                by_cases hlt3 : j < or.length
                · obtain ⟨A, hA⟩ : ∃ A, or[j]? = some A := ⟨or[j]'hlt3, by simp⟩
                  obtain ⟨b2, off2, rfl, -, hi2⟩ := HC2.out (by omega)
                  have hAl := HL2.out A (List.mem_of_getElem? hA)
                  have HAl := Lib.hid hAl
                  have hka := HKA.out j A hlt3 hA
                  have hkb := HKB.out (or.length - 1 - j) A (by omega) (by rw [show or.length - 1 - (or.length - 1 - j) = j by omega]; exact hA)
                  obtain ⟨xa, hxa⟩ := Option.isSome_iff_exists.1 hka
                  obtain ⟨xb, hxb⟩ := Option.isSome_iff_exists.1 hkb
                  have HEa := Lib.hid (HW1.out.ra A xa hAl hxa)
                  have HEb := Lib.hid (HW1.out.rb A xb hAl hxb)
                  have HXa := Lib.hid hxa
                  have HXb := Lib.hid hxb
                  have r2 : wr.rangeAt b2 (off2 + j * 20) (aN A).toList := ((hi2 j A hA).sub (hp_below HW1.out.below)).at
                  have FN := Lib.hid (heap_alloc_new wr (.cells (aN 0) 32))
                  have one := aN_one A
                  clear hi2 hA hAl hka hkb hxa hxb
                  go_upto_region 39 with (first
                    | (refine wpList_load_mid rfl 32 _ rfl b2 _ rfl (aN A).toList _ r2 Try.underlying32 rfl (infoAd _) ?_; simp only [Array.toArray_toList])
                    | (refine wpList_alloc_row rfl 32 rfl _ zeroAd_run ?_)
                    | (refine wpList_store_row rfl 32 _ _ rfl wr.heap.size _ (aN A) rfl rfl FN.out Try.infoAd20 rfl one ?_))
                  have b10 : Below wr.heap.size wr ((wr.alloc (.cells (aN 0) 32)).setRow wr.heap.size (aN A)) := below_setRow ((Below.refl _ _).alloc (Nat.le_refl _) _) (Nat.le_refl _) _
                  have FA := Lib.hid (blk_row FN.out (c' := aN A))
                  have HW10 := Lib.hid (HW1.out.low b10)
                  clear b10 FN r2 one HW1
                  generalize (wr.alloc (.cells (aN 0) 32)).setRow wr.heap.size (aN A) = w10 at *
                  generalize wr.heap.size = ba at *
                  simp only [Act.put]
                  have ra := adblk FA.out
                  have KA := Lib.hid (account_walk HW10.out.a A HAl.out)
                  rw [HXa.out] at KA
                  go_upto_region 40 with (first
                    | (refine wpList_load_mid rfl 32 _ rfl ba 0 rfl (aN A).toList _ ra Try.underlying32 rfl (infoAd _) ?_; simp only [Array.toArray_toList])
                    | (go_at_call 16
                       refine KA.out.mono ?_
                       rintro e w11 ⟨x, rfl, hxe, hxz, b11⟩
                       have HXe := Lib.hid hxe
                       have HX11 := Lib.hid (hxz.sub (fr_sub _ _))
                       have one := hxz.ones
                       have HW11 := Lib.hid (HW10.out.low b11)
                       have FA11 := Lib.hid (stay b11 FA.out)
                       have FN := Lib.hid (heap_alloc_new w11 (.cells (acs noneAV).toArray 39))
                       unfold aval
                       clear hxe hxz b11)
                    | (refine wpList_alloc_row rfl 39 rfl _ zeroAcc ?_)
                    | (refine wpList_store_row rfl 39 _ _ rfl w11.heap.size _ (acs x).toArray rfl rfl FN.out (by simpa using infoAcs _) (by simp [acs_len]) one ?_))
                  have b12 : Below w11.heap.size w11 ((w11.alloc (.cells (acs noneAV).toArray 39)).setRow w11.heap.size (acs x).toArray) := below_setRow ((Below.refl _ _).alloc (Nat.le_refl _) _) (Nat.le_refl _) _
                  have FX := Lib.hid (blk_row FN.out (c' := (acs x).toArray))
                  have HW12 := Lib.hid (HW11.out.low b12)
                  have HX12 := Lib.hid (HX11.out.sub (hp_below b12))
                  have FA12 := Lib.hid (stay b12 FA11.out)
                  clear b12 FN HW11 HX11 FA11 FA HW10 one ra KA
                  generalize (w11.alloc (.cells (acs noneAV).toArray 39)).setRow w11.heap.size (acs x).toArray = w12 at *
                  generalize w11.heap.size = xbk at *
                  have ra := adblk FA12.out
                  have KB := Lib.hid (account_walk HW12.out.b A HAl.out)
                  rw [HXb.out] at KB
                  go_upto_region 41 with (first
                    | (refine wpList_load_mid rfl 32 _ rfl ba 0 rfl (aN A).toList _ ra Try.underlying32 rfl (infoAd _) ?_; simp only [Array.toArray_toList])
                    | (go_at_call 16
                       refine KB.out.mono ?_
                       rintro e w13 ⟨y, rfl, hye, hyz, b13⟩
                       have HYe := Lib.hid hye
                       have HY13 := Lib.hid (hyz.sub (fr_sub _ _))
                       have one := hyz.ones
                       have HW13 := Lib.hid (HW12.out.low b13)
                       have HX13 := Lib.hid (HX12.out.sub (hp_below b13))
                       have FX13 := Lib.hid (stay b13 FX.out)
                       have FN := Lib.hid (heap_alloc_new w13 (.cells (acs noneAV).toArray 39))
                       unfold aval
                       clear hye hyz b13)
                    | (refine wpList_alloc_row rfl 39 rfl _ zeroAcc ?_)
                    | (refine wpList_store_row rfl 39 _ _ rfl w13.heap.size _ (acs y).toArray rfl rfl FN.out (by simpa using infoAcs _) (by simp [acs_len]) one ?_))
                  have b14 : Below w13.heap.size w13 ((w13.alloc (.cells (acs noneAV).toArray 39)).setRow w13.heap.size (acs y).toArray) := below_setRow ((Below.refl _ _).alloc (Nat.le_refl _) _) (Nat.le_refl _) _
                  have FY := Lib.hid (blk_row FN.out (c' := (acs y).toArray))
                  have HW14 := Lib.hid (HW13.out.low b14)
                  have HX14 := Lib.hid (HX13.out.sub (hp_below b14))
                  have HY14 := Lib.hid (HY13.out.sub (hp_below b14))
                  have FX14 := Lib.hid (stay b14 FX13.out)
                  clear b14 FN HW13 HX13 HY13 FX13 HW12 HX12 FX one ra KB FA12
                  generalize (w13.alloc (.cells (acs noneAV).toArray 39)).setRow w13.heap.size (acs y).toArray = w14 at *
                  generalize w13.heap.size = ybk at *
                  have rx := (rng_block FX14.out).at
                  have ry := (rng_block FY.out).at
                  have KS := Lib.hid (same_walk x y w14 (by rw [HXe.out, HYe.out]; exact HEb.out.trans HEa.out.symm) HX14.out HY14.out)
                  unfold aval at KS
                  go_wp2_with (first
                    | (refine load_midG (by rfl) 39 _ rfl xbk 0 rfl (acs x) _ rx Try.underlying39 rfl (infoAcs _) ?_)
                    | (refine load_midG (by rfl) 39 _ rfl ybk 0 rfl (acs y) _ ry Try.underlying39 rfl (infoAcs _) ?_)
                    | (go_at_call 19; refine KS.out.mono ?_; rintro e w15 ⟨rfl, b15⟩; have HWe := Lib.hid (HW14.out.low b15); clear b15))
                  exact ⟨⟨j + 1, by omega, by go_num, HWe⟩, by simp [intOf]; omega⟩
                · go_wp2_with fail
                  go_ret
                  exact ⟨rfl, HW1.out.below⟩
    · rw [hg] at KG
      go_enter Try.func4, Try.ntmps4
      go_wp2_with (first
        | (go_at_call 24; refine KG.out.mono ?_; rintro e w1 ⟨rfl, rfl⟩)
        | (go_at_call 8; refine (KFx.out _).mono ?_; rintro e w2 ⟨rfl, b2⟩; have HB2 := Lib.hid b2; clear b2))
      go_ret
      exact ⟨rfl, HB2.out⟩
end Go.Proofs.Ytagppndofnbfnaa
