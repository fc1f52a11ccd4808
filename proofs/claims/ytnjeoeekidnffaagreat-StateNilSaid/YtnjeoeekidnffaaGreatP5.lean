/- Stage 14: the statements' do on a nil state, whatever the call. -/
import Derived.Test.YtnjeoeekidnffaaGreatNt
import Derived.Test.YtnjeoeekidnffaaGreatNu
import Derived.Test.YtnjeoeekidnffaaGreatNv
import Derived.Test.YtnjeoeekidnffaaGreatNw
import Derived.Test.YtnjeoeekidnffaaGreatNx
import Derived.Test.YtnjeoeekidnffaaGreatNy
import Derived.Test.YtnjeoeekidnffaaGreatNz
import Derived.Test.YtnjeoeekidnffaaGreatP0
import Derived.Test.YtnjeoeekidnffaaGreatP1
import Derived.Test.YtnjeoeekidnffaaGreatP2
import Derived.Test.YtnjeoeekidnffaaGreatP3
import Derived.Test.YtnjeoeekidnffaaGreatP4
import Derived.Test.YtnjeoeekidnffaaGreatNr
namespace Go.Proofs.YtnjeoeekidnffaaGreat
open Go.RowKit SmWord Go.Maps
set_option maxRecDepth 100000

theorem dst0_one : dst0.One := ⟨rfl, rfl, rfl, rfl, rfl, rfl⟩
/-- No memory. -/
def Zn : Hp := fun _ => none
theorem Zn_sub (Z : Hp) : Sub Zn Z := fun b o h => by cases h
theorem ensZ_nil (Z : Hp) : EnsZ Z (.slice none 0 0) [] := ⟨RowZ.nil Z 29, fun e he => by cases he⟩
theorem keep0 (w : World) : ∀ w1, Below w.heap.size w w1 → Calls Tryz.prog 88 #[.agg (dC dst0)] w1 fun e w2 => ∃ v, e = .returned (.agg (dC { dst0 with ps := v })) ∧ v.oneCell' = true ∧ (∃ Zk, (fun (_ : Hp) (_ : Value) => True) Zk v ∧ Sub Zk (fr w1.heap.size w2)) ∧ Below w1.heap.size w1 w2 := fun w1 _ => by
  refine (keep_no dst0 w1 dst0_one rfl).mono ?_
  rintro e w2 ⟨rfl, hb⟩
  exact ⟨dst0.ps, rfl, rfl, ⟨Zn, trivial, Zn_sub _⟩, hb⟩
theorem at0 (A : Nat) : (atV [] [] A).x.a.so.length ≤ 400000 := by
  show ([] : List (Nat × Nat)).length ≤ 400000
  simp
theorem codeNil {f : FuncId} {args : Array Value} {v0 : Value} {w : World} (h : ∀ w1, Calls Tryz.prog f args w1 fun e w2 => e = .returned v0 ∧ Below w1.heap.size w1 w2) (w1 : World) (b1 : Below w.heap.size w w1) :
    Calls Tryz.prog f args w1 (CodeIs w.heap.size w.heap.size (fun v w2 => v = v0 ∧ Sub (hp w) (hp w2)) w1) := by
  refine (h w1).mono ?_
  rintro e w2 ⟨rfl, hb⟩
  exact ⟨v0, rfl, Hold.ofBelow hb, hb.mono b1.size, rfl, (hp_below b1).trans (hp_below hb)⟩
/-- What a document's call that hands on entries answers, as do asks for it. -/
theorem docEns {w : World} {e : Ending} {w' : World} {Z : Hp} {l : List EnV} (h : ∃ v l' Zk, e = .returned (.agg (dC { dst0 with ps := v, l := l' })) ∧ v.oneCell' = true ∧ EnsZ (orH Z (fr w.heap.size w')) l' l ∧ (fun (_ : Hp) (_ : Value) => True) Zk v ∧ Sub Zk (fr w.heap.size w') ∧ Below w.heap.size w w') : DocIs (fun _ _ => True) w e w' := by
  obtain ⟨v, l', Zk, rfl, hv, hE, -, -, hb⟩ := h
  exact ⟨_, rfl, ⟨rfl, hE.row.oneCell, rfl, rfl, rfl, hv⟩, hb, trivial⟩
def NilIs (w : World) (e : Ending) (w' : World) : Prop := ∃ b d' mk, e = .returned (.tuple #[.bool b, .agg (dC d'), mk]) ∧ Below w.heap.size w w'
theorem nilOf {w : World} {ok : Bool} {mk : Value} {Q : Dst → World → Prop} {e : Ending} {w' : World} (h : DoIs w.heap.size ok mk Q w e w') : NilIs w e w' := by
  obtain ⟨d', w3, rfl, -, -, -, hb⟩ := h
  exact ⟨_, _, _, rfl, hb⟩
theorem do_nil (o : OpD) (w : World) (hoz : OpZ (hp w) o) : Calls Tryz.prog 13 #[.pointer none, .agg (dC dst0), .slice none 0 0, .agg (oC o).toArray] w (NilIs w) := by
  have hmk : ∃ A n c, (.slice none 0 0 : Value) = .slice A n c := ⟨_, _, _, rfl⟩
  have hacc : AccsZ Zn dst0.w [] := AccsZ.nil Zn
  have hens : EnsZ Zn dst0.l [] := ensZ_nil Zn
  obtain ⟨dA, dc, hdv, -⟩ := hoz.dr.val
  have hlz : ([] : List EnV).length ≤ 1000000 := by simp
  have hlv : ([] : List AV).length ≤ 1000000 := by simp
  by_cases h0 : o.kd = 0
  · exact (do_0 (base := w.heap.size) (.pointer none) _ dst0 o w (fun w2 => Sub (hp w) (hp w2)) (fun _ _ => True) h0 (Nat.le_refl _) hmk (Lib.hid (codeNil (fun w1 => nil_SetNonce o.A o.N w1)))
      (Lib.hid fun w1 w2 _ _ hP => (setNonce_walk (Z := Zn) (V0 := []) (W := []) (fun _ _ => True) dst0 o.A o.N w2 dst0_one hacc hens (Zn_sub _) hoz.A hoz.N hlz hlv (Lib.hid (keep0 w2))).mono fun e w' h => docEns h)).mono fun e w' h => nilOf h
  by_cases h1 : o.kd = 1
  · exact (do_1 (base := w.heap.size) (.pointer none) _ dst0 o w (fun w2 => Sub (hp w) (hp w2)) (fun _ _ => True) h1 (Nat.le_refl _) hmk (Lib.hid (codeNil (fun w1 => nil_SetBalance o.A o.V w1)))
      (Lib.hid fun w1 w2 _ _ hP => (setBalance_walk (Z := Zn) (V0 := []) (W := []) (fun _ _ => True) dst0 o.A o.V w2 dst0_one hacc hens (Zn_sub _) hoz.A hoz.V hlz hlv (Lib.hid (keep0 w2))).mono fun e w' h => docEns h)).mono fun e w' h => nilOf h
  by_cases h2 : o.kd = 2
  · exact (do_2 (base := w.heap.size) (.pointer none) _ dst0 o w (fun w2 => Sub (hp w) (hp w2)) (fun _ _ => True) h2 (Nat.le_refl _) hmk (Lib.hid (codeNil (fun w1 => by rw [hdv]; exact nil_SetCode o.A _ _ _ w1)))
      (Lib.hid fun w1 w2 _ _ hP => (setCode_walk (Z := Zn) (V0 := []) (W := []) (fun _ _ => True) dst0 o.A o.dv o.da w2 dst0_one hacc hens (Zn_sub _) hoz.A hlz hlv (hoz.dr.sub hP) hoz.d8 hoz.dl (Lib.hid (keep0 w2))).mono fun e w' h => by
        obtain ⟨v, l', Zk, p, h⟩ := h
        exact docEns ⟨v, l', Zk, h⟩)).mono fun e w' h => nilOf h
  by_cases h3 : o.kd = 3
  · exact (do_3 (base := w.heap.size) (.pointer none) _ dst0 o w (fun w2 => Sub (hp w) (hp w2)) (fun _ _ => True) h3 (Nat.le_refl _) hmk (Lib.hid (codeNil (fun w1 => nil_Make o.A w1)))
      (Lib.hid fun w1 w2 _ _ hP => (make_walk (Z := Zn) (V0 := []) (W := []) (fun _ _ => True) dst0 o.A w2 dst0_one hacc hens (Zn_sub _) hoz.A hlz hlv (Lib.hid (keep0 w2))).mono fun e w' h => by
        obtain ⟨v, l', Zk, p, h⟩ := h
        exact docEns ⟨v, l', Zk, h⟩)).mono fun e w' h => nilOf h
  by_cases h4 : o.kd = 4
  · exact (do_4 (base := w.heap.size) (.pointer none) _ dst0 o w (fun w2 => Sub (hp w) (hp w2)) (fun _ _ => True) h4 (Nat.le_refl _) hmk (Lib.hid (codeNil (fun w1 => nil_Set o.A o.K o.V w1)))
      (Lib.hid fun w1 w2 _ _ hP => (rset_walk (Z := Zn) (V0 := []) (W := []) (fun _ _ => True) dst0 o.A o.K o.V w2 dst0_one hacc hens (Zn_sub _) hoz.A hoz.K hoz.V hlz hlv (at0 o.A) (Lib.hid (keep0 w2))).mono fun e w' h => by
        obtain ⟨v, l', Zk, p, h⟩ := h
        exact docEns ⟨v, l', Zk, h⟩)).mono fun e w' h => nilOf h
  by_cases h5 : o.kd = 5
  · exact (do_5 (base := w.heap.size) (.pointer none) _ dst0 o w true false (fun _ _ => True) (fun _ _ => True) h5 (Nat.le_refl _) hmk
      (Lib.hid fun w1 _ => (touch_yes (Z := Zn) (L := []) (fun _ _ => True) dst0 o.A w1 dst0_one (RowZ.nil Zn 20) (fun _ h => by cases h) (Zn_sub _) hoz.A (by simp) (fun h => by cases h) (Lib.hid (keep0 w1))).mono fun e w' h => by
        obtain ⟨v, wm', Zk, rfl, hv, hR, -, -, hb⟩ := h
        exact ⟨_, rfl, ⟨rfl, rfl, hR.oneCell, rfl, rfl, hv⟩, hb, trivial⟩)
      (Lib.hid fun w1 w2 d' b1 b2 _ => (nil_Touch o.A _).mono fun e w' h => by
        obtain ⟨rfl, hb⟩ := h
        have hs := b1.size
        have hs2 := b2.size
        exact ⟨_, rfl, Hold.ofBelow hb, hb.mono (by rw [setRow_size]; omega), rfl, trivial⟩)).mono fun e w' h => nilOf h
  by_cases h6 : o.kd = 6
  · exact (do_6 (base := w.heap.size) (.pointer none) _ dst0 o w true false (fun _ _ => True) (fun _ _ => True) h6 (Nat.le_refl _) hmk
      (Lib.hid fun w1 _ => (touchSlot_yes (Z := Zn) (L := []) (fun _ _ => True) dst0 o.A o.K w1 dst0_one (RowZ.nil Zn 24) (fun _ h => by cases h) (Zn_sub _) hoz.A hoz.K (by simp) (fun h => by cases h) (Lib.hid (keep0 w1))).mono fun e w' h => by
        obtain ⟨v, wm', Zk, rfl, hv, hR, -, -, hb⟩ := h
        exact ⟨_, rfl, ⟨rfl, rfl, rfl, hR.oneCell, rfl, hv⟩, hb, trivial⟩)
      (Lib.hid fun w1 w2 d' b1 b2 _ => (nil_TouchSlot o.A o.K _).mono fun e w' h => by
        obtain ⟨rfl, hb⟩ := h
        have hs := b1.size
        have hs2 := b2.size
        exact ⟨_, rfl, Hold.ofBelow hb, hb.mono (by rw [setRow_size]; omega), rfl, trivial⟩)).mono fun e w' h => nilOf h
  by_cases h7 : o.kd = 7
  · exact (do_7 (base := w.heap.size) (.pointer none) _ dst0 o w (fun w2 => Sub (hp w) (hp w2)) (fun _ _ => True) _ rfl h7 (Nat.le_refl _) hmk (Lib.hid (codeNil (fun w1 => nil_Add _ w1)))
      (Lib.hid fun w1 w2 _ _ hP => (add_walk (fun _ _ => True) dst0 _ w2 dst0_one (Lib.hid (keep0 w2))).mono fun e w' h => by
        obtain ⟨v, Zk, rfl, hv, -, -, hb⟩ := h
        exact ⟨_, rfl, ⟨rfl, rfl, rfl, rfl, rfl, hv⟩, hb, trivial⟩)).mono fun e w' h => nilOf h
  by_cases h8 : o.kd = 8
  · exact (do_8 (base := w.heap.size) (.pointer none) _ dst0 o w (fun x w2 => LgZ (hp w2) x) (fun _ _ _ => True) h8 (Nat.le_refl _) hmk hoz
      (Lib.hid fun w1 x b1 _ _ _ hx => (nil_Log _ w1).mono fun e w2 h => by
        obtain ⟨rfl, hb⟩ := h
        exact ⟨_, rfl, Hold.ofBelow hb, hb.mono b1.size, rfl, hx.sub (hp_below hb)⟩)
      (Lib.hid fun w1 w2 x _ _ _ _ _ _ hx => (rlog_walk (Z := Zn) (L := []) (fun _ _ => True) dst0 x w2 dst0_one ⟨RowZ.nil Zn 22, fun _ h => by cases h⟩ (Zn_sub _) hx (by simp) (Lib.hid (keep0 w2))).mono fun e w' h => by
        obtain ⟨v, lg', Zk, rfl, hv, hR, -, -, hb⟩ := h
        exact ⟨_, rfl, ⟨rfl, rfl, rfl, rfl, hR.oneCell, hv⟩, hb, trivial⟩)).mono fun e w' h => nilOf h
  by_cases h9 : o.kd = 9
  · exact (do_9 (base := w.heap.size) (.pointer none) _ dst0 o w (fun w2 => Sub (hp w) (hp w2)) (fun _ _ => True) h9 (Nat.le_refl _) hmk (Lib.hid (codeNil (fun w1 => nil_Destroy o.A w1)))
      (Lib.hid fun w1 w2 _ _ hP => (destroy_walk (Z := Zn) (V0 := []) (W := []) (fun _ _ => True) dst0 o.A w2 dst0_one hacc hens (Zn_sub _) hoz.A hlz hlv (Lib.hid (keep0 w2))).mono fun e w' h => docEns h)).mono fun e w' h => nilOf h
  by_cases h10 : o.kd = 10
  · refine (do_10 (base := w.heap.size) (base0 := w.heap.size) (.pointer none) (.slice none 0 0) dst0 o w 0 0 0 0 none [] dst0_one rfl h10 (Nat.le_refl _) (Nat.le_refl _) (World.ownsRow_nil _ _ _ _) (by omega) (Lib.hid fun w1 _ => mark_nil w1)).mono ?_
    rintro e w' ⟨mk', rfl, -, -, hb⟩
    exact ⟨_, _, _, rfl, hb⟩
  · exact (do_none (base := w.heap.size) (.pointer none) dst0 o w none 0 dst0_one (by omega) (Nat.le_refl _)).mono fun e w' h => nilOf h
end Go.Proofs.YtnjeoeekidnffaaGreat
