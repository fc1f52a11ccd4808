/- The statements of layer 16, walked. -/
import Derived.Test.YtihefgpicnhdjaaDoorPcE
import Derived.Lib.SlBytesConst
namespace Go.Proofs.YtihefgpicnhdjaaDoor
open Go.RowKit SmWord
set_option maxRecDepth 100000

theorem str_eq (S : ByteArray) : (S == S) = true := by
  cases S with | mk d => exact beq_self_eq_true d
/-- Two bytes: ab. -/
def abF (i : Nat) : Nat := if i = 0 then 97 else 98
theorem ab_conv (w : World) : (convert 22 22 (.slice (some ⟨w.heap.size, 0, none⟩) 2 2)).run Tryd.prog (w.alloc (.cells #[.int .u8 97, .int .u8 98] 5)) = .ok (.slice (some ⟨w.heap.size, 0, none⟩) 2 2) (w.alloc (.cells #[.int .u8 97, .int .u8 98] 5 (2, 3))) :=
  Lib.run_convert_bytes_const w 22 5 #[.int .u8 97, .int .u8 98] 2 2 Tryd.underlying22 Tryd.underlying5
theorem ab_sl (w : World) : Sl (w.alloc (.cells #[.int .u8 97, .int .u8 98] 5 (2, 3))) (some ⟨w.heap.size, 0, none⟩) 2 abF :=
  ⟨by decide, fun _ => ⟨w.heap.size, 0, rfl, by simp, fun i hi => by
    rw [Nat.zero_add, cell_of_row _ w.heap.size i _ 5 (2, 3) (heap_alloc_new _ _)]
    match i, hi with
    | 0, _ => rfl
    | 1, _ => rfl⟩⟩
set_option maxHeartbeats 4000000 in
theorem pfixed_core (w : World) (hT : Tab w)
    (K1 : Hid (∀ b w', Tab w' → Sl w' (some ⟨b, 0, none⟩) 2 abF → Calls Tryd.prog 7 #[.int .i64 4, .slice (some ⟨b, 0, none⟩) 2 2, .int .u64 20] w' (RunIs 2 2 true abF w')))
    (K2 : Hid (∀ b w', Tab w' → Sl w' (some ⟨b, 0, none⟩) 2 abF → Calls Tryd.prog 7 #[.int .i64 4, .slice (some ⟨b, 0, none⟩) 2 2, .int .u64 17] w' (RunIs 0 0 false abF w'))) :
    Calls Tryd.prog 6 #[] w fun e w' => e = .returned (.bool true) ∧ Below w.heap.size w w' := by
  have b0 : Below w.heap.size w (w.alloc (.cells #[.int .u8 97, .int .u8 98] 5 (2, 3))) := (Below.refl _ _).alloc (Nat.le_refl _) _
  have HB := Lib.hid b0
  have R1 := Lib.hid (K1.out _ _ (hT.below b0) (ab_sl w))
  have HT := Lib.hid (hT.below b0)
  have cv := ab_conv w
  clear b0 K1 hT
  go_enter Tryd.func6, Tryd.ntmps6
  go_wp2_with fail
  refine R1.out.mono ?_
  rintro e w1 ⟨X, cx, rfl, s1, b1⟩
  clear cv
  have b0 : Below w1.heap.size w1 (w1.alloc (.cells #[.int .u8 97, .int .u8 98] 5 (2, 3))) := (Below.refl _ _).alloc (Nat.le_refl _) _
  have HB1 := Lib.hid ((HB.out.trans (b1.mono HB.out.size)).trans (b0.mono (HB.out.trans (b1.mono HB.out.size)).size))
  have R2 := Lib.hid (K2.out _ _ ((HT.out.below b1).below b0) (ab_sl w1))
  have HX := Lib.hid (s1.below b0)
  have cv := ab_conv w1
  clear b0 K2 HT HB s1 b1 R1
  go_wp2_with fail
  refine R2.out.mono ?_
  rintro e w2 ⟨Y, cy, rfl, _, b1⟩
  clear cv
  have HB := Lib.hid (HB1.out.trans (b1.mono HB1.out.size))
  have cv := conv_sl (c := cx) (HX.out.below b1)
  rw [show str (bs abF 2) = ⟨#[97, 98]⟩ from rfl] at cv
  clear R2 HB1 HX b1
  go_wp2_with fail
  go_ret
  exact ⟨rfl, HB.out⟩
theorem pfixed_walk (w : World) (hT : Tab w) : Calls Tryd.prog 6 #[] w fun e w' => e = .returned (.bool true) ∧ Below w.heap.size w w' :=
  pfixed_core w hT (Lib.hid fun b w' hT' hs => prun_walk 4 20 2 2 abF _ w' (by decide) (by decide) (by decide) (fun h => by cases h) hs hT')
    (Lib.hid fun b w' hT' hs => prun_walk 4 17 2 2 abF _ w' (by decide) (by decide) (by decide) (fun h => by cases h) hs hT')
theorem has_two (w : World) : Calls Tryd.prog 9 #[.int .i64 2] w fun e w' => e = .returned (.bool true) ∧ w = w' := by
  go_enter Tryd.func9, Tryd.ntmps9
  go_wp2_with fail
  go_ret
  exact ⟨rfl, rfl⟩
theorem has_four (w : World) : Calls Tryd.prog 9 #[.int .i64 4] w fun e w' => e = .returned (.bool true) ∧ w = w' := by
  go_enter Tryd.func9, Tryd.ntmps9
  go_wp2_with fail
  go_ret
  exact ⟨rfl, rfl⟩
theorem has_five (w : World) : Calls Tryd.prog 9 #[.int .i64 5] w fun e w' => e = .returned (.bool true) ∧ w = w' := by
  go_enter Tryd.func9, Tryd.ntmps9
  go_wp2_with fail
  go_ret
  exact ⟨rfl, rfl⟩
theorem has_other (z : Int) (w : World) (e2 : (z == 2) = false) (e4 : (z == 4) = false) (e5 : (z == 5) = false) : Calls Tryd.prog 9 #[.int .i64 z] w fun e w' => e = .returned (.bool false) ∧ w = w' := by
  go_enter Tryd.func9, Tryd.ntmps9
  go_wp2_with fail
  go_ret
  exact ⟨rfl, rfl⟩
set_option maxHeartbeats 8000000 in
theorem pruns_core (z : Int) (G L c m R : Nat) (ok : Bool) (f g : Nat → Nat) (A : Option Addr) (w : World) (hL : L ≤ 1000) (hA : A = none → L = 0 ∧ c = 0) (hs : Sl w A L f) (hT : Tab w)
    (HSh : Hid (∃ s : Bool, ∀ w', Below w.heap.size w w' → Calls Tryd.prog 5 #[.slice A L c] w' fun e w'' => e = .returned (.bool s) ∧ Below w'.heap.size w' w''))
    (K1 : Hid (∀ w' Y d, L ≤ d → (Y = none → L = 0 ∧ d = 0) → Sl w' Y L f → Tab w' → Calls Tryd.prog 7 #[.int .i64 z, .slice Y L d, .int .u64 (G : Int)] w' (RunIs m R ok g w')))
    (K2 : Hid (∀ w', Sl w' A L f → Calls Tryd.prog 8 #[.int .i64 z, .slice A L c, .int .u64 (G : Int)] w' (RunIs m R ok g w'))) :
    Calls Tryd.prog 3 #[.int .i64 z, .slice A L c, .int .u64 (G : Int)] w fun e w' => e = .returned (.bool true) ∧ Below w.heap.size w w' := by
  have HS := Lib.hid hs
  have HT := Lib.hid hT
  have HA := Lib.hid hA
  have HF := Lib.hid fun w' (h : Below w.heap.size w w') => pfixed_walk w' (hT.below h)
  have hl : decide (1000 < (L : Int)) = false := by simp; omega
  have hl' : decide (1000 < L) = false := by simp; omega
  clear hs hT hA
  have key : ∀ W, Below w.heap.size w W → Sl W A L f → Tab W → True := fun _ _ _ _ => trivial
  clear key
  go_enter Tryd.func3, Tryd.ntmps3
  go_upto_region 1 with fail
  go_cut [25] (fun v wx => ∃ b : Bool, v = .bool b ∧ ∃ w0, w0 = wx ∧ Below w.heap.size w wx)
  case first =>
    clear K1 K2 HF
    obtain ⟨s, hsh⟩ := HSh.out
    have KS := Lib.hid (hsh w (Below.refl _ _))
    clear hsh HSh
    cases e5 : (z == 5)
    · go_wp2_with fail
      go_meet
      exact ⟨_, rfl, _, rfl, Below.refl _ _⟩
    · cases s
      · go_wp2_with (go_at_call 5; refine KS.out.mono ?_; rintro e w1 ⟨rfl, b1⟩; have HB := Lib.hid b1; clear b1 KS)
        go_meet
        exact ⟨_, rfl, _, rfl, HB.out⟩
      · go_wp2_with (go_at_call 5; refine KS.out.mono ?_; rintro e w1 ⟨rfl, b1⟩; have HB := Lib.hid b1; clear b1 KS)
        go_meet
        exact ⟨_, rfl, _, rfl, HB.out⟩
  case rest =>
    obtain ⟨b, rfl, w0, rfl, hb⟩ := hcut
    have HB := Lib.hid hb
    clear hb HSh hl hl'
    cases b with
    | true =>
      clear K1 K2
      go_wp2_with (go_at_call 6; refine (HF.out _ HB.out).mono ?_; rintro e w1 ⟨rfl, b1⟩; replace HB := Lib.hid (HB.out.trans (b1.mono HB.out.size)); clear b1)
      go_ret
      exact ⟨rfl, HB.out⟩
    | false =>
      have e1 := empty_own w0 HB.out.size
      have be1 : Below w.heap.size w (w0.alloc (.cells #[] 5)) := HB.out.alloc HB.out.size _
      have z1 : w.heap.size ≤ (w0.alloc (.cells #[] 5)).heap.size := be1.size
      have S1 := HS.out.below be1
      go_upto_region 4 with (at_builtin; refine append_sl rfl _ _ rfl w.heap.size _ 0 [] rfl e1 A L c f rfl HA.out S1 (by omega) z1 ?_; intro v1 x1 o1 q1; refine Hid.out ?_)
      have bx1 : Below w.heap.size w x1 := be1.grown q1 z1 (fun b hb' => (e1.lt b hb').1)
      rw [Nat.zero_add, List.nil_append] at o1
      obtain ⟨Y, d, rfl, hd, hY, sy⟩ := own_sl o1 HS.out.small
      have HSY := Lib.hid sy
      have HRY := Lib.hid (K1.out x1 Y d hd hY sy (HT.out.below bx1))
      have BW := Lib.hid bx1
      clear e1 be1 z1 S1 q1 bx1 o1 hd hY sy K1 HB
      refine Lib.hid ?_
      go_wp2_with fail
      refine HRY.out.mono ?_
      rintro _ w1 ⟨X, cx, rfl, sX, b1⟩
      have HSX := Lib.hid sX
      have HSY2 := Lib.hid (HSY.out.below b1)
      have BW2 := Lib.hid (BW.out.trans (b1.mono BW.out.size))
      have HR2 := Lib.hid (K2.out w1 (HS.out.below BW2.out))
      clear HRY sX b1 HSY BW K2
      go_wp2_with fail
      refine HR2.out.mono ?_
      rintro _ w2 ⟨U, cu, rfl, sU, b1⟩
      have HSU := Lib.hid sU
      have BW := Lib.hid (BW2.out.trans (b1.mono BW2.out.size))
      have HSX2 := Lib.hid (HSX.out.below b1)
      have HSY := Lib.hid (HSY2.out.below b1)
      clear HR2 sU b1 HSX BW2 HSY2
      go_wp2_with fail
      refine (HF.out _ BW.out).mono ?_
      rintro e w3 ⟨rfl, b1⟩
      have BW2 := Lib.hid (BW.out.trans (b1.mono BW.out.size))
      have cx1 := conv_sl (c := cx) (HSX2.out.below b1)
      have cu1 := conv_sl (c := cu) (HSU.out.below b1)
      have cy1 := conv_sl (c := d) (HSY.out.below b1)
      have ca1 := conv_sl (c := c) (HS.out.below BW2.out)
      generalize str (bs f L) = SF at *
      generalize str (bs g m) = SG at *
      clear b1 BW HSX2 HSU HSY HF HS HT HA
      have sf := str_eq SF
      have sg := str_eq SG
      have so : (ok == ok) = true := by cases ok <;> rfl
      by_cases h2 : z = 2
      · subst h2
        go_wp2_with (go_at_call 9; refine (has_two _).mono ?_; rintro e w4 ⟨rfl, rfl⟩)
        go_ret
        exact ⟨rfl, BW2.out⟩
      · by_cases h4 : z = 4
        · subst h4
          go_wp2_with (go_at_call 9; refine (has_four _).mono ?_; rintro e w4 ⟨rfl, rfl⟩)
          go_ret
          exact ⟨rfl, BW2.out⟩
        · by_cases h5 : z = 5
          · subst h5
            go_wp2_with (go_at_call 9; refine (has_five _).mono ?_; rintro e w4 ⟨rfl, rfl⟩)
            go_ret
            exact ⟨rfl, BW2.out⟩
          · have e2 : (z == 2) = false := by rw [beq_eq_false_iff_ne]; exact h2
            have e4 : (z == 4) = false := by rw [beq_eq_false_iff_ne]; exact h4
            have e5 : (z == 5) = false := by rw [beq_eq_false_iff_ne]; exact h5
            have KH := Lib.hid fun w => has_other z w e2 e4 e5
            clear h2 h4 h5
            go_wp2_with (go_at_call 9; refine (KH.out _).mono ?_; rintro e w4 ⟨rfl, rfl⟩)
            go_ret
            exact ⟨rfl, BW2.out⟩
set_option maxHeartbeats 4000000 in
theorem pruns_far (z : Int) (G L c : Nat) (A : Option Addr) (w : World) (hm : L ≤ maxLen) (h : 1000 < L) (hT : Tab w) :
    Calls Tryd.prog 3 #[.int .i64 z, .slice A L c, .int .u64 (G : Int)] w fun e w' => e = .returned (.bool true) ∧ Below w.heap.size w w' := by
  have hm' : L ≤ 9223372036854775807 := hm
  have HF := Lib.hid (pfixed_walk w hT)
  clear hT
  go_enter Tryd.func3, Tryd.ntmps3
  go_wp2_with (go_at_call 6; refine HF.out.mono ?_; rintro e w1 ⟨rfl, b1⟩)
  go_ret
  exact ⟨rfl, b1⟩
theorem pruns_walk (z : Int) (G L c : Nat) (f : Nat → Nat) (A : Option Addr) (w : World) (hG : G < B) (hm : L ≤ maxLen) (hA : A = none → L = 0 ∧ c = 0) (hs : Sl w A L f) (hT : Tab w) :
    Calls Tryd.prog 3 #[.int .i64 z, .slice A L c, .int .u64 (G : Int)] w fun e w' => e = .returned (.bool true) ∧ Below w.heap.size w w' := by
  by_cases h : 1000 < L
  · exact pruns_far z G L c A w hm h hT
  · exact pruns_core z G L c _ _ _ f _ A w (by omega) hA hs hT (Lib.hid (short_walk L c f A w (by omega) hs)) (Lib.hid fun w' Y d hd hY hsY hT' => prun_walk z G L d f Y w' hG (by omega) hd hY hsY hT')
      (Lib.hid fun w' hs' => rrun_walk z G L c f A w' hG (by omega) hA hs')
end Go.Proofs.YtihefgpicnhdjaaDoor
