/- Stage 14: an account more in a state. -/
import Derived.Test.YtnjeoeekidnffaaGreatNg
namespace Go.Proofs.YtnjeoeekidnffaaGreat
open Go.RowKit SmWord Go.Maps
set_option maxRecDepth 100000

/-- An account as the world has it. -/
def ent0 (y : AV) (sp wm : Nat) : Ent := ⟨y, y.a.no, y.a.ba, strC y.a.co, sp, false, wm, 0, fun _ => false, false⟩
/-- A state that has been asked for A. -/
def newG (G : Gs) (A ap sp sm wm c : Nat) (qa : Option Addr) (y : AV) : Gs :=
  { G with
    na := G.na + 1
    ab := fun B => if B = A then some ap else G.ab B
    en := fun B => if B = A then ent0 y sp wm else G.en B
    st := fun q => if q = sp then some ⟨qa, c, y.a.so, fun _ => none, 0, sm⟩ else G.st q
    own := fun b => if b = ap then some (.acc A) else if b = sp then some .sto else if b = sm then some (.now sp) else if b = wm then some (.warm A) else G.own b }
theorem upd_ptr (ab : Nat → Option Nat) (A ap : Nat) : upd (fun B => (ab B).map fun p => Value.pointer (some ⟨p, 0, none⟩)) A (.pointer (some ⟨ap, 0, none⟩)) = fun B => (if B = A then some ap else ab B).map fun p => Value.pointer (some ⟨p, 0, none⟩) := by
  funext B
  unfold upd
  by_cases e : B = A
  · simp [e]
  · simp [e]
theorem Core.asked {Z Zn : Hp} {base : Nat} {w1 w2 w3 : World} {G : Gs} {A ap sp sm wm c : Nat} {qa : Option Addr} {y : AV} (h : Core Z base w1 G) (hA : A < 2 ^ 160) (hab : G.ab A = none) (hz : AccZ Zn y) (hq : y.q = .slice qa y.a.so.length c) (had : y.a.ad = A) (hr : rightS y.a.so = true)
    (hzn : Sub Zn (fr w1.heap.size w2)) (b2 : Below w1.heap.size w1 w2) (f1 : w2.heap[ap]? = some (.cells (entC (ent0 y sp wm)).toArray 120)) (f2 : w2.heap[sp]? = some (.cells #[.slice qa y.a.so.length c, .map (some sm)] 164))
    (f3 : mapIsW w2 sm 0 (fun _ => none)) (f4 : mapIsW w2 wm 0 (fun _ => none)) (g1 : w1.heap.size ≤ ap) (g2 : w1.heap.size ≤ sp) (g3 : w1.heap.size ≤ sm) (g4 : w1.heap.size ≤ wm) (hne : sm ≠ wm) (n1 : Zn ap = none) (n2 : Zn sp = none) (n3 : Zn sm = none) (n4 : Zn wm = none)
    (hm : mapIs w3 G.am (G.na + 1) (upd (fun B => (G.ab B).map fun p => .pointer (some ⟨p, 0, none⟩)) A (.pointer (some ⟨ap, 0, none⟩)))) (hg : w2.grownBy w3 (some G.am)) :
    Core (orH Z Zn) base w3 (newG G A ap sp sm wm c qa y) ∧ Tch (fun b => b = G.am) w1 w3 ∧ Sub Zn (fr w1.heap.size w3) := by
  have hlt : ∀ b r, G.own b = some r → b < w1.heap.size := fun b r hb => h.lt hb
  have hsz := b2.size
  have ham := hlt _ _ h.oam
  have e12 : ap ≠ sp := fun e => by rw [e, f2] at f1; simp at f1
  obtain ⟨es3, c3, m3⟩ := map_blkW f3
  obtain ⟨es4, c4, m4⟩ := map_blkW f4
  have e13 : ap ≠ sm := fun e => by rw [e, m3] at f1; cases f1
  have e14 : ap ≠ wm := fun e => by rw [e, m4] at f1; cases f1
  have e23 : sp ≠ sm := fun e => by rw [e, m3] at f2; cases f2
  have e24 : sp ≠ wm := fun e => by rw [e, m4] at f2; cases f2
  have l1 := (Array.getElem?_eq_some_iff.1 f1).1
  have l2 := (Array.getElem?_eq_some_iff.1 f2).1
  have l3 := (Array.getElem?_eq_some_iff.1 m3).1
  have l4 := (Array.getElem?_eq_some_iff.1 m4).1
  have k2 : ∀ b, b < w2.heap.size → b ≠ G.am → w3.heap[b]? = w2.heap[b]? := fun b hb hn => hg.block b hb fun e => hn (by cases e; rfl)
  have k1 : ∀ b, b < w1.heap.size → b ≠ G.am → w3.heap[b]? = w1.heap[b]? := fun b hb hn => (k2 b (by omega) hn).trans (b2.block b hb)
  have hZn : ∀ b, w1.heap.size ≤ b → Z b = none := fun b hb => by
    cases hz : Z b with
    | none => rfl
    | some o =>
      have := (Array.getElem?_eq_some_iff.1 (h.sub b o hz)).1
      omega
  have hZo : ∀ b, b < w1.heap.size → Zn b = none := fun b hb => by
    cases hz : Zn b with
    | none => rfl
    | some o =>
      have := hzn b o hz
      unfold fr at this
      rw [if_neg (by omega)] at this
      cases this
  have hold' : ∀ b, b < w1.heap.size → (newG G A ap sp sm wm c qa y).own b = G.own b := fun b hb => by
    show (if b = ap then some (Role.acc A) else if b = sp then some .sto else if b = sm then some (.now sp) else if b = wm then some (.warm A) else G.own b) = G.own b
    rw [if_neg (by omega), if_neg (by omega), if_neg (by omega), if_neg (by omega)]
  have o1 : (newG G A ap sp sm wm c qa y).own ap = some (.acc A) := if_pos rfl
  have o2 : (newG G A ap sp sm wm c qa y).own sp = some .sto := (if_neg (Ne.symm e12)).trans (if_pos rfl)
  have o3 : (newG G A ap sp sm wm c qa y).own sm = some (.now sp) := (if_neg (Ne.symm e13)).trans ((if_neg (Ne.symm e23)).trans (if_pos rfl))
  have o4 : (newG G A ap sp sm wm c qa y).own wm = some (.warm A) := (if_neg (Ne.symm e14)).trans ((if_neg (Ne.symm e24)).trans ((if_neg (Ne.symm hne)).trans (if_pos rfl)))
  have cases4 : ∀ b r, (newG G A ap sp sm wm c qa y).own b = some r → (b = ap ∧ r = .acc A) ∨ (b = sp ∧ r = .sto) ∨ (b = sm ∧ r = .now sp) ∨ (b = wm ∧ r = .warm A) ∨ (b < w1.heap.size ∧ G.own b = some r) := fun b r hb => by
    by_cases x1 : b = ap
    · subst x1; rw [o1] at hb; injection hb with hb; exact .inl ⟨rfl, hb.symm⟩
    · by_cases x2 : b = sp
      · subst x2; rw [o2] at hb; injection hb with hb; exact .inr (.inl ⟨rfl, hb.symm⟩)
      · by_cases x3 : b = sm
        · subst x3; rw [o3] at hb; injection hb with hb; exact .inr (.inr (.inl ⟨rfl, hb.symm⟩))
        · by_cases x4 : b = wm
          · subst x4; rw [o4] at hb; injection hb with hb; exact .inr (.inr (.inr (.inl ⟨rfl, hb.symm⟩)))
          · have hb' : G.own b = some r := by
              have : (newG G A ap sp sm wm c qa y).own b = G.own b := (if_neg x1).trans ((if_neg x2).trans ((if_neg x3).trans (if_neg x4)))
              rw [← this]; exact hb
            exact .inr (.inr (.inr (.inr ⟨hlt _ _ hb', hb'⟩)))
  have sen : ∀ B, B ≠ A → (newG G A ap sp sm wm c qa y).en B = G.en B := fun B hB => if_neg hB
  have sst : ∀ q, q < w1.heap.size → (newG G A ap sp sm wm c qa y).st q = G.st q := fun q hq => if_neg (by omega)
  refine ⟨?_, ⟨hg.os.trans b2.os, hg.tape.trans b2.tape, hg.output.trans b2.output, by have := hg.size; omega, k1⟩, fun b o ho => ?_⟩
  rotate_left
  · have h1 := hzn b o ho
    unfold fr at h1 ⊢
    split at h1
    · rename_i hn
      rw [if_pos hn, k2 b (Array.getElem?_eq_some_iff.1 h1).1 (by omega)]
      exact h1
    · cases h1
  exact
  { sub := fun b o ho => by
      rcases orH_some ho with h1 | h1
      · have h2 := h.sub b o h1
        have h3 := (Array.getElem?_eq_some_iff.1 h2).1
        unfold hp
        rw [k1 b h3 fun e => by rw [e, h.zs _ _ h.oam] at h1; cases h1]
        exact h2
      · have h2 := hzn b o h1
        unfold fr at h2
        split at h2
        · unfold hp
          rw [k2 b (Array.getElem?_eq_some_iff.1 h2).1 (by omega)]
          exact h2
        · cases h2
    zs := fun b r hb => by
      rcases cases4 b r hb with ⟨rfl, _⟩ | ⟨rfl, _⟩ | ⟨rfl, _⟩ | ⟨rfl, _⟩ | ⟨h1, h2⟩
      · exact orH_none (hZn _ g1) n1
      · exact orH_none (hZn _ g2) n2
      · exact orH_none (hZn _ g3) n3
      · exact orH_none (hZn _ g4) n4
      · exact orH_none (h.zs _ _ h2) (hZo _ h1)
    ge := fun b r hb => by
      have hb0 := h.ge _ _ h.osb
      have hb1 := hlt _ _ h.osb
      rcases cases4 b r hb with ⟨rfl, _⟩ | ⟨rfl, _⟩ | ⟨rfl, _⟩ | ⟨rfl, _⟩ | ⟨h1, h2⟩
      · omega
      · omega
      · omega
      · omega
      · exact h.ge _ _ h2
    hold := fun b r hb => by
      rcases cases4 b r hb with ⟨rfl, rfl⟩ | ⟨rfl, rfl⟩ | ⟨rfl, rfl⟩ | ⟨rfl, rfl⟩ | ⟨h1, h2⟩
      · show w3.heap[b]? = some (.cells (entC ((newG G A b sp sm wm c qa y).en A)).toArray 120)
        rw [k2 b l1 (by omega), show (newG G A b sp sm wm c qa y).en A = ent0 y sp wm from if_pos rfl]
        exact f1
      · exact ⟨_, if_pos rfl, by rw [k2 b l2 (by omega)]; exact f2⟩
      · exact ⟨_, if_pos rfl, f3.same (k2 b l3 (by omega))⟩
      · show mapIsW w3 b ((newG G A ap sp sm b c qa y).en A).wn (wset ((newG G A ap sp sm b c qa y).en A).wf)
        rw [show (newG G A ap sp sm b c qa y).en A = ent0 y sp b from if_pos rfl]
        exact f4.same (k2 b l4 (by omega))
      · have hh := h.hold b r h2
        by_cases hb' : b = G.am
        · have hr' : r = .amap := by
            rw [hb', h.oam] at h2
            injection h2 with h2
            exact h2.symm
          subst hr'
          rw [hb']
          show mapIs w3 G.am (G.na + 1) (fun B => (if B = A then some ap else G.ab B).map fun p => Value.pointer (some ⟨p, 0, none⟩))
          rw [← upd_ptr]
          exact hm
        · have hs := hh.same (k1 b h1 hb')
          cases r with
          | stb => exact hs
          | amap => exact absurd (h.uniq b G.am _ h2 h.oam rfl) hb'
          | acc B =>
            have hB : B ≠ A := fun e => by
              have := h.accs b B h2
              rw [e, hab] at this
              cases this
            show w3.heap[b]? = some (.cells (entC ((newG G A ap sp sm wm c qa y).en B)).toArray 120)
            rw [sen B hB]
            exact hs
          | sto =>
            obtain ⟨s, hs1, hs2⟩ := hs
            exact ⟨s, (sst b h1).trans hs1, hs2⟩
          | now p =>
            obtain ⟨s, hs1, hs2⟩ := hs
            exact ⟨s, (sst p (hlt _ _ (h.sto p s hs1).1)).trans hs1, hs2⟩
          | warm B =>
            have hB : B ≠ A := fun e => by
              have := h.warms b B h2
              rw [e, hab] at this
              cases this
            show mapIsW w3 b ((newG G A ap sp sm wm c qa y).en B).wn (wset ((newG G A ap sp sm wm c qa y).en B).wf)
            rw [sen B hB]
            exact hs
          | lgs => exact hs
          | und => exact hs
    osb := (hold' _ (hlt _ _ h.osb)).trans h.osb
    oam := (hold' _ ham).trans h.oam
    mi := h.mi
    uniq := fun b b' r hb hb' hu => by
      have noacc : ∀ b, G.own b ≠ some (.acc A) := fun b hb => by
        have := h.accs b A hb
        rw [hab] at this
        cases this
      have nowarm : ∀ b, G.own b ≠ some (.warm A) := fun b hb => by
        have := h.warms b A hb
        rw [hab] at this
        cases this
      have nonow : ∀ b, G.own b ≠ some (.now sp) := fun b hb => by
        obtain ⟨s, hs1, _⟩ := h.hold b _ hb
        have := hlt _ _ (h.sto sp s hs1).1
        omega
      rcases cases4 b r hb with ⟨rfl, rfl⟩ | ⟨rfl, rfl⟩ | ⟨rfl, rfl⟩ | ⟨rfl, rfl⟩ | ⟨h1, h2⟩
      · rcases cases4 b' _ hb' with ⟨rfl, _⟩ | ⟨_, e⟩ | ⟨_, e⟩ | ⟨_, e⟩ | ⟨_, e⟩
        · rfl
        · cases e
        · cases e
        · cases e
        · exact absurd e (noacc _)
      · cases hu
      · rcases cases4 b' _ hb' with ⟨_, e⟩ | ⟨_, e⟩ | ⟨rfl, _⟩ | ⟨_, e⟩ | ⟨_, e⟩
        · cases e
        · cases e
        · rfl
        · cases e
        · exact absurd e (nonow _)
      · rcases cases4 b' _ hb' with ⟨_, e⟩ | ⟨_, e⟩ | ⟨_, e⟩ | ⟨rfl, _⟩ | ⟨_, e⟩
        · cases e
        · cases e
        · cases e
        · rfl
        · exact absurd e (nowarm _)
      · rcases cases4 b' _ hb' with ⟨_, rfl⟩ | ⟨_, rfl⟩ | ⟨_, rfl⟩ | ⟨_, rfl⟩ | ⟨_, h3⟩
        · exact absurd h2 (noacc _)
        · cases hu
        · exact absurd h2 (nonow _)
        · exact absurd h2 (nowarm _)
        · exact h.uniq b b' r h2 h3 hu
    accs := fun b B hb => by
      rcases cases4 b _ hb with ⟨rfl, e⟩ | ⟨_, e⟩ | ⟨_, e⟩ | ⟨_, e⟩ | ⟨h1, h2⟩
      · injection e with e
        exact if_pos e
      · cases e
      · cases e
      · cases e
      · have := h.accs b B h2
        refine (if_neg fun e => ?_).trans this
        rw [e, hab] at this
        cases this
    warms := fun b B hb => by
      by_cases e : B = A
      · show (if B = A then some ap else G.ab B).isSome = true
        rw [if_pos e]
        rfl
      · rcases cases4 b _ hb with ⟨_, e'⟩ | ⟨_, e'⟩ | ⟨_, e'⟩ | ⟨_, e'⟩ | ⟨h1, h2⟩
        · cases e'
        · cases e'
        · cases e'
        · injection e' with e'
          exact absurd e' e
        · show (if B = A then some ap else G.ab B).isSome = true
          rw [if_neg e]
          exact h.warms b B h2
    acc := fun B b hb => by
      have hb' : (if B = A then some ap else G.ab B) = some b := hb
      by_cases e : B = A
      · rw [if_pos e] at hb'
        injection hb' with hb'
        subst hb' e
        refine ⟨hA, o1, ?_⟩
        rw [show (newG G B ap sp sm wm c qa y).en B = ent0 y sp wm from if_pos rfl]
        exact ⟨hz.sub (orH_right fun b o o' h1 h2 => by
          have hb1 := (Array.getElem?_eq_some_iff.1 (h.sub b o h1)).1
          rw [hZo b hb1] at h2
          cases h2), had, hz.no, hz.ba, by
          show (if sp = sp then _ else _ : Option Sto).isSome = true
          rw [if_pos rfl]
          rfl, o4⟩
      · rw [if_neg e] at hb'
        obtain ⟨h1, h2, h3⟩ := h.acc B b hb'
        refine ⟨h1, (hold' _ (hlt _ _ h2)).trans h2, ?_⟩
        rw [sen B e]
        refine ⟨h3.z.sub (orH_left _ _), h3.ad, h3.no, h3.ba, ?_, (hold' _ (hlt _ _ h3.wm)).trans h3.wm⟩
        obtain ⟨s, hs⟩ := Option.isSome_iff_exists.1 h3.sp
        rw [sst _ (hlt _ _ (h.sto _ s hs).1)]
        exact h3.sp
    sto := fun p s hs => by
      have hs' : (if p = sp then some ⟨qa, c, y.a.so, fun _ => none, 0, sm⟩ else G.st p) = some s := hs
      by_cases e : p = sp
      · rw [if_pos e] at hs'
        injection hs' with hs'
        subst hs' e
        refine ⟨o2, o3, ⟨hz.sl, hz.sM, hr, (fun k v hk => by cases hk), fun hn => ?_⟩⟩
        have hz' := hz.sto
        rw [hq] at hz'
        obtain ⟨Q3, Q4, hqe, -, -, -, hqc⟩ := hz'.one (fun s _ => scs_len s)
        simp only [Value.slice.injEq] at hqe
        obtain ⟨rfl, -, rfl⟩ := hqe
        obtain ⟨b, off, e, -, hi⟩ := hqc hn
        exact ⟨b, off, e, fun i k hk => (hi i k hk).sub (orH_right fun b o o' h1 h2 => by
          have hb1 := (Array.getElem?_eq_some_iff.1 (h.sub b o h1)).1
          rw [hZo b hb1] at h2
          cases h2)⟩
      · rw [if_neg e] at hs'
        obtain ⟨h1, h2, h3⟩ := h.sto p s hs'
        refine ⟨(hold' _ (hlt _ _ h1)).trans h1, (hold' _ (hlt _ _ h2)).trans h2, { h3 with at' := fun hn => ?_ }⟩
        obtain ⟨b, off, e, hi⟩ := h3.at' hn
        exact ⟨b, off, e, fun i k hk => (hi i k hk).sub (orH_left _ _)⟩ }
end Go.Proofs.YtnjeoeekidnffaaGreat
/- Stage 14: an account of a state. -/
namespace Go.Proofs.YtnjeoeekidnffaaGreat
open Go.RowKit SmWord Go.Maps
set_option maxRecDepth 100000

section
variable (G : Gs) (fk : Nat → Bool) (A : Nat)
theorem askG_own : (askG G fk A).own = G.own := by unfold askG; split <;> rfl
theorem askG_ab : (askG G fk A).ab = G.ab := by unfold askG; split <;> rfl
theorem askG_en : (askG G fk A).en = G.en := by unfold askG; split <;> rfl
theorem askG_st : (askG G fk A).st = G.st := by unfold askG; split <;> rfl
theorem askG_na : (askG G fk A).na = G.na := by unfold askG; split <;> rfl
theorem askG_am : (askG G fk A).am = G.am := by unfold askG; split <;> rfl
theorem askG_sb : (askG G fk A).sb = G.sb := by unfold askG; split <;> rfl
end
theorem zeroPacc (w : World) : (zeroValue 115).run Tryz.prog w = .ok (.pointer none) w := by kernel_rfl
/-- What an address is in a state that has been asked for it. -/
inductive AtIs (fa : Nat → Acc) (fk : Nat → Bool) (N : Nat) (G : Gs) (A : Nat) : Gs → Nat → Prop where
  | old {ap : Nat} (h : G.ab A = some ap) : AtIs fa fk N G A G ap
  | new {ap sp sm wm c : Nat} {qa : Option Addr} {y : AV} (h : G.ab A = none) (hy : y.a = askA fa fk A) (h1 : G.own ap = none) (h2 : G.own sp = none) (h3 : G.own sm = none) (h4 : G.own wm = none) (j1 : N ≤ ap) (j2 : N ≤ sp) (j3 : N ≤ sm) (j4 : N ≤ wm) :
      AtIs fa fk N G A (newG (askG G fk A) A ap sp sm wm c qa y) ap
theorem Tch.up {s s' : Nat → Prop} {w w' : World} (h : Tch s w w') (_ : 0 ≤ 0) (k : ∀ b, s b → s' b) : Tch s' w w' :=
  ⟨h.os, h.tape, h.output, h.size, fun b hb hs => h.block b hb fun e => hs (k b e)⟩
theorem old_walk {Z : Hp} {base : Nat} {w : World} {G : Gs} (h : Core Z base w G) (A : Nat) (hA : A < 2 ^ 160) {ap : Nat} (hap : G.ab A = some ap) :
    Calls Tryz.prog 63 #[.pointer (some ⟨G.sb, 0, none⟩), .agg (aN A)] w fun e w' => e = .returned (.pointer (some ⟨ap, 0, none⟩)) ∧ Below w.heap.size w w' := by
  obtain ⟨W, hW⟩ : ∃ W, w.alloc (.cells (aN A) 41) = W := ⟨_, rfl⟩
  have F0 := Lib.hid (show W.heap[w.heap.size]? = some (.cells (aN A) 41) from hW ▸ heap_alloc_new _ _)
  have HB := Lib.hid (show Below w.heap.size w W from hW ▸ (Below.refl _ _).alloc (Nat.le_refl _) _)
  have HC := Lib.hid (h.below HB.out)
  have LK := Lib.hid fun w' (hb : Below W.heap.size W w') => show (Instr.lookup 85 (.map (some G.am)) (.agg (aN A)) true).run Tryz.prog w' = .ok (.tuple #[.pointer (some ⟨ap, 0, none⟩), .bool true]) w' by
    have := (HC.out.below hb).amp.look_ok Tryz.underlying85 (zeroPacc w') hA
    rw [this, hap]
    rfl
  clear h hap hA
  have hsN := aN_size A
  go_enter Tryz.func63, Tryz.ntmps63
  go_upto_region 1 with fail
  clear hW
  · skip
    obtain ⟨-, c1, -, -, -, -, -⟩ := stc_cells HC.out.stc
    have C0 := Lib.hid fun w' (hb : Below W.heap.size W w') => (hb.cell (p := ⟨G.sb, 1, none⟩) (HC.out.lt HC.out.osb)).trans c1
    have R0 := Lib.hid fun w' (hb : Below W.heap.size W w') => adblk (stay hb F0.out)
    have D0 : Hid (Below W.heap.size W W.drew) := Lib.hid (Below.refl _ _).drew
    clear c1
    refine wp_region_held_drew (S := fun w' => Below W.heap.size W w') (by kernel_rfl) D0.out (fun hHeld => ?_)
    refine wpAnyH_take (i := 0) (oi := ⟨_, _, _, _, _, _⟩) (v := ?_) rfl (by kernel_rfl) (by kernel_rfl) (by kernel_rfl) (fun _ _ _ h => h) (Or.inl ⟨by rfl, ?_⟩) (by assumption) ?_
    rotate_left
    · (intro w hSw; first | (go_simp; done) | (go_simp; with_reducible rfl))
    try simp only [Act.put, List.setIfInBounds_toArray, List.set_cons_zero, List.set_cons_succ]
    refine wpAnyH_take (i := 1) (oi := ⟨_, _, _, _, _, _⟩) (v := ?_) rfl (by kernel_rfl) (by kernel_rfl) (by kernel_rfl) (fun _ _ _ h => h) (Or.inl ⟨by rfl, ?_⟩) (by assumption) ?_
    rotate_left
    · (intro w hSw; first | (go_simp; done) | (go_simp; with_reducible rfl))
    try simp only [Act.put, List.setIfInBounds_toArray, List.set_cons_zero, List.set_cons_succ]
    refine wpAnyH_take (i := 2) (oi := ⟨_, _, _, _, _, _⟩) (v := ?_) rfl (by kernel_rfl) (by kernel_rfl) (by kernel_rfl) (fun _ _ _ h => h) (Or.inl ⟨by rfl, ?_⟩) (by assumption) ?_
    rotate_left
    · (intro w hSw; first | (go_simp; done) | (go_simp; with_reducible rfl))
    try simp only [Act.put, List.setIfInBounds_toArray, List.set_cons_zero, List.set_cons_succ]
    refine wpAnyH_take (i := 3) (oi := ⟨_, _, _, _, _, _⟩) (v := ?_) rfl (by kernel_rfl) (by kernel_rfl) (by kernel_rfl) (fun _ _ _ h => h) (Or.inl ⟨by rfl, ?_⟩) (by assumption) ?_
    rotate_left
    · (intro w hSw; have hc := C0.out w hSw; first | (go_simp; done) | (go_simp; with_reducible rfl))
    try simp only [Act.put, List.setIfInBounds_toArray, List.set_cons_zero, List.set_cons_succ]
    refine wpAnyH_take (i := 4) (oi := ⟨_, _, _, _, _, _⟩) rfl (by kernel_rfl) (by kernel_rfl) (by kernel_rfl) (fun _ _ _ h => h) (yieldsIf_load_mid (by rfl) 41 _ rfl w.heap.size 0 rfl (aN A).toList _ (R0.out) Tryz.underlying41 rfl (infoAd _)) (by assumption) ?_
    try simp only [Act.put, List.setIfInBounds_toArray, List.set_cons_zero, List.set_cons_succ, Array.toArray_toList]
    refine wpAnyH_take (i := 5) (oi := ⟨_, _, _, _, _, _⟩) (v := ?_) rfl (by kernel_rfl) (by kernel_rfl) (by kernel_rfl) (fun _ _ _ h => h) (Or.inl ⟨by rfl, ?_⟩) (by assumption) ?_
    rotate_left
    · (intro w hSw; have hc := LK.out w hSw; first | (go_simp; done) | (go_simp; with_reducible rfl))
    try simp only [Act.put, List.setIfInBounds_toArray, List.set_cons_zero, List.set_cons_succ]
    refine wpAnyH_take (i := 6) (oi := ⟨_, _, _, _, _, _⟩) (v := ?_) rfl (by kernel_rfl) (by kernel_rfl) (by kernel_rfl) (fun _ _ _ h => h) (Or.inl ⟨by rfl, ?_⟩) (by assumption) ?_
    rotate_left
    · (intro w hSw; first | (go_simp; done) | (go_simp; with_reducible rfl))
    try simp only [Act.put, List.setIfInBounds_toArray, List.set_cons_zero, List.set_cons_succ]
    refine wpAnyH_take (i := 7) (oi := ⟨_, _, _, _, _, _⟩) (v := ?_) rfl (by kernel_rfl) (by kernel_rfl) (by kernel_rfl) (fun _ _ _ h => h) (Or.inl ⟨by rfl, ?_⟩) (by assumption) ?_
    rotate_left
    · (intro w hSw; first | (go_simp; done) | (go_simp; with_reducible rfl))
    try simp only [Act.put, List.setIfInBounds_toArray, List.set_cons_zero, List.set_cons_succ]
    refine wpAnyH_take (i := 8) (oi := ⟨_, _, _, _, _, _⟩) (v := ?_) rfl (by kernel_rfl) (by kernel_rfl) (by kernel_rfl) (fun _ _ _ h => h) (Or.inl ⟨by rfl, ?_⟩) (by assumption) ?_
    rotate_left
    · (intro w hSw; first | (go_simp; done) | (go_simp; with_reducible rfl))
    try simp only [Act.put, List.setIfInBounds_toArray, List.set_cons_zero, List.set_cons_succ]
    refine wpAnyH_take (i := 9) (oi := ⟨_, _, _, _, _, _⟩) (v := ?_) rfl (by kernel_rfl) (by kernel_rfl) (by kernel_rfl) (fun _ _ _ h => h) (Or.inl ⟨by rfl, ?_⟩) (by assumption) ?_
    rotate_left
    · (intro w hSw; first | (go_simp; done) | (go_simp; with_reducible rfl))
    try simp only [Act.put, List.setIfInBounds_toArray, List.set_cons_zero, List.set_cons_succ]
    refine wpAnyH_take (i := 10) (oi := ⟨_, _, _, _, _, _⟩) (v := ?_) rfl (by kernel_rfl) (by kernel_rfl) (by kernel_rfl) (fun _ _ _ h => h) (Or.inl ⟨by rfl, ?_⟩) (by assumption) ?_
    rotate_left
    · (intro w hSw; first | (go_simp; done) | (go_simp; with_reducible rfl))
    try simp only [Act.put, List.setIfInBounds_toArray, List.set_cons_zero, List.set_cons_succ]
    refine wpAnyH_done (by kernel_rfl) ?_ _
    clear hHeld
    clear LK R0 C0
    go_upto_region 2 with fail
    go_upto_if 17 with fail
    go_upto_region 5 with fail
    go_wp2_with fail
    go_ret
    exact ⟨rfl, HB.out.trans (D0.out.mono HB.out.size)⟩
set_option maxHeartbeats 4000000 in
theorem new_walk {Z : Hp} {base : Nat} {w : World} {G : Gs} {fa : Nat → Acc} {fk : Nat → Bool} (h : Core Z base w G) (hw : WorldOk Z G.wv fa fk) (A : Nat) (hA : A < 2 ^ 160) (hap : G.ab A = none) (hn : G.na < 1000000) (hr : rightS (askA fa fk A).so = true) (hris : RisIs (askA fa fk A).so) (had : (askA fa fk A).ad = A) :
    Calls Tryz.prog 63 #[.pointer (some ⟨G.sb, 0, none⟩), .agg (aN A)] w fun e w' => ∃ (Z' : Hp) (G' : Gs) (ap : Nat), e = .returned (.pointer (some ⟨ap, 0, none⟩)) ∧ AtIs fa fk w.heap.size G A G' ap ∧ Sub Z Z' ∧ Core Z' base w' G' ∧ Tch (fun b => G.own b = some .stb ∨ b = G.am) w w' ∧ ∀ b o, Z' b = some o → Z b = some o ∨ w.heap.size ≤ b := by
  obtain ⟨W, hW⟩ : ∃ W, w.alloc (.cells (aN A) 41) = W := ⟨_, rfl⟩
  have F0 := Lib.hid (show W.heap[w.heap.size]? = some (.cells (aN A) 41) from hW ▸ heap_alloc_new _ _)
  have HB := Lib.hid (show Below w.heap.size w W from hW ▸ (Below.refl _ _).alloc (Nat.le_refl _) _)
  have HH := Lib.hid h
  have HC := Lib.hid (h.below HB.out)
  have LK := Lib.hid fun w' (hb : Below W.heap.size W w') => show (Instr.lookup 85 (.map (some G.am)) (.agg (aN A)) true).run Tryz.prog w' = .ok (.tuple #[.pointer none, .bool false]) w' by
    have := (HC.out.below hb).amp.look_ok Tryz.underlying85 (zeroPacc w') hA
    rw [this, hap]
    rfl
  have HAP := Lib.hid hap
  have HN := Lib.hid hn
  have HA := Lib.hid hA
  have HR := Lib.hid hr
  have HRIS := Lib.hid hris
  have HAD := Lib.hid had
  have KA := Lib.hid (ask_walk (HC.out.below (Below.refl _ _).drew) hw A hA)
  clear h hap hA hw hn hr hris had
  have hsN := aN_size A
  go_enter Tryz.func63, Tryz.ntmps63
  go_upto_region 1 with fail
  clear hW
  · skip
    obtain ⟨-, c1, -, -, -, -, -⟩ := stc_cells HC.out.stc
    have C0 := Lib.hid fun w' (hb : Below W.heap.size W w') => (hb.cell (p := ⟨G.sb, 1, none⟩) (HC.out.lt HC.out.osb)).trans c1
    have R0 := Lib.hid fun w' (hb : Below W.heap.size W w') => adblk (stay hb F0.out)
    have D0 : Hid (Below W.heap.size W W.drew) := Lib.hid (Below.refl _ _).drew
    clear c1
    refine wp_region_held_drew (S := fun w' => Below W.heap.size W w') (by kernel_rfl) D0.out (fun hHeld => ?_)
    refine wpAnyH_take (i := 0) (oi := ⟨_, _, _, _, _, _⟩) (v := ?_) rfl (by kernel_rfl) (by kernel_rfl) (by kernel_rfl) (fun _ _ _ h => h) (Or.inl ⟨by rfl, ?_⟩) (by assumption) ?_
    rotate_left
    · (intro w hSw; first | (go_simp; done) | (go_simp; with_reducible rfl))
    try simp only [Act.put, List.setIfInBounds_toArray, List.set_cons_zero, List.set_cons_succ]
    refine wpAnyH_take (i := 1) (oi := ⟨_, _, _, _, _, _⟩) (v := ?_) rfl (by kernel_rfl) (by kernel_rfl) (by kernel_rfl) (fun _ _ _ h => h) (Or.inl ⟨by rfl, ?_⟩) (by assumption) ?_
    rotate_left
    · (intro w hSw; first | (go_simp; done) | (go_simp; with_reducible rfl))
    try simp only [Act.put, List.setIfInBounds_toArray, List.set_cons_zero, List.set_cons_succ]
    refine wpAnyH_take (i := 2) (oi := ⟨_, _, _, _, _, _⟩) (v := ?_) rfl (by kernel_rfl) (by kernel_rfl) (by kernel_rfl) (fun _ _ _ h => h) (Or.inl ⟨by rfl, ?_⟩) (by assumption) ?_
    rotate_left
    · (intro w hSw; first | (go_simp; done) | (go_simp; with_reducible rfl))
    try simp only [Act.put, List.setIfInBounds_toArray, List.set_cons_zero, List.set_cons_succ]
    refine wpAnyH_take (i := 3) (oi := ⟨_, _, _, _, _, _⟩) (v := ?_) rfl (by kernel_rfl) (by kernel_rfl) (by kernel_rfl) (fun _ _ _ h => h) (Or.inl ⟨by rfl, ?_⟩) (by assumption) ?_
    rotate_left
    · (intro w hSw; have hc := C0.out w hSw; first | (go_simp; done) | (go_simp; with_reducible rfl))
    try simp only [Act.put, List.setIfInBounds_toArray, List.set_cons_zero, List.set_cons_succ]
    refine wpAnyH_take (i := 4) (oi := ⟨_, _, _, _, _, _⟩) rfl (by kernel_rfl) (by kernel_rfl) (by kernel_rfl) (fun _ _ _ h => h) (yieldsIf_load_mid (by rfl) 41 _ rfl w.heap.size 0 rfl (aN A).toList _ (R0.out) Tryz.underlying41 rfl (infoAd _)) (by assumption) ?_
    try simp only [Act.put, List.setIfInBounds_toArray, List.set_cons_zero, List.set_cons_succ, Array.toArray_toList]
    refine wpAnyH_take (i := 5) (oi := ⟨_, _, _, _, _, _⟩) (v := ?_) rfl (by kernel_rfl) (by kernel_rfl) (by kernel_rfl) (fun _ _ _ h => h) (Or.inl ⟨by rfl, ?_⟩) (by assumption) ?_
    rotate_left
    · (intro w hSw; have hc := LK.out w hSw; first | (go_simp; done) | (go_simp; with_reducible rfl))
    try simp only [Act.put, List.setIfInBounds_toArray, List.set_cons_zero, List.set_cons_succ]
    refine wpAnyH_take (i := 6) (oi := ⟨_, _, _, _, _, _⟩) (v := ?_) rfl (by kernel_rfl) (by kernel_rfl) (by kernel_rfl) (fun _ _ _ h => h) (Or.inl ⟨by rfl, ?_⟩) (by assumption) ?_
    rotate_left
    · (intro w hSw; first | (go_simp; done) | (go_simp; with_reducible rfl))
    try simp only [Act.put, List.setIfInBounds_toArray, List.set_cons_zero, List.set_cons_succ]
    refine wpAnyH_take (i := 7) (oi := ⟨_, _, _, _, _, _⟩) (v := ?_) rfl (by kernel_rfl) (by kernel_rfl) (by kernel_rfl) (fun _ _ _ h => h) (Or.inl ⟨by rfl, ?_⟩) (by assumption) ?_
    rotate_left
    · (intro w hSw; first | (go_simp; done) | (go_simp; with_reducible rfl))
    try simp only [Act.put, List.setIfInBounds_toArray, List.set_cons_zero, List.set_cons_succ]
    refine wpAnyH_take (i := 8) (oi := ⟨_, _, _, _, _, _⟩) (v := ?_) rfl (by kernel_rfl) (by kernel_rfl) (by kernel_rfl) (fun _ _ _ h => h) (Or.inl ⟨by rfl, ?_⟩) (by assumption) ?_
    rotate_left
    · (intro w hSw; first | (go_simp; done) | (go_simp; with_reducible rfl))
    try simp only [Act.put, List.setIfInBounds_toArray, List.set_cons_zero, List.set_cons_succ]
    refine wpAnyH_take (i := 9) (oi := ⟨_, _, _, _, _, _⟩) (v := ?_) rfl (by kernel_rfl) (by kernel_rfl) (by kernel_rfl) (fun _ _ _ h => h) (Or.inl ⟨by rfl, ?_⟩) (by assumption) ?_
    rotate_left
    · (intro w hSw; first | (go_simp; done) | (go_simp; with_reducible rfl))
    try simp only [Act.put, List.setIfInBounds_toArray, List.set_cons_zero, List.set_cons_succ]
    refine wpAnyH_take (i := 10) (oi := ⟨_, _, _, _, _, _⟩) (v := ?_) rfl (by kernel_rfl) (by kernel_rfl) (by kernel_rfl) (fun _ _ _ h => h) (Or.inl ⟨by rfl, ?_⟩) (by assumption) ?_
    rotate_left
    · (intro w hSw; first | (go_simp; done) | (go_simp; with_reducible rfl))
    try simp only [Act.put, List.setIfInBounds_toArray, List.set_cons_zero, List.set_cons_succ]
    refine wpAnyH_done (by kernel_rfl) ?_ _
    clear hHeld
    clear LK R0 C0
    go_upto_region 2 with fail
    go_upto_if 17 with fail
    go_upto_region 4 with (first
      | (refine wpList_load_mid rfl 41 _ rfl w.heap.size 0 rfl (aN A).toList _ (adblk (stay D0.out F0.out)) Tryz.underlying41 rfl (infoAd _) ?_; simp only [Array.toArray_toList])
      | (go_at_call 96; refine KA.out.mono ?_; rintro e w1 ⟨y, rfl, hya, hyz, h1, t1⟩)
      | (go_at_call 95; refine (newAcc_walk y w1 (hyz.sub (orH_sub h1.sub (fr_sub _ _))) (hya ▸ HRIS)).mono ?_; rintro e w2 ⟨ap, sp, sm, wm, c, p, qa, Zn, rfl, f1, hz, hzn, f2, f3, f4, ⟨g1, g2, g3, g4⟩, hne, ⟨n1, n2, n3, n4⟩, b2⟩))
    have hlt : ∀ b r, G.own b = some r → b < w.heap.size := fun b r hb => HH.out.lt hb
    have sW : w.heap.size < W.heap.size := (Array.getElem?_eq_some_iff.1 F0.out).1
    have st1 : W.heap.size ≤ w1.heap.size := t1.size
    obtain ⟨-, c1, -, -, -, -, -⟩ := stc_cells h1.stc
    rw [askG_sb, askG_am] at c1
    have lsb : G.sb < w1.heap.size := by have := hlt _ _ HH.out.osb; omega
    have lam : G.am < w1.heap.size := by have := hlt _ _ HH.out.oam; omega
    have c2 : w2.drew.cell? ⟨G.sb, 1, none⟩ = some (.map (some G.am)) := (b2.drew.cell (p := ⟨G.sb, 1, none⟩) lsb).trans c1
    have e1 : w1.heap[w.heap.size]? = some (.cells (aN A) 41) := (t1.block _ sW fun hb => by have := hlt _ _ hb; omega).trans F0.out
    have e2 : w2.drew.heap[w.heap.size]? = some (.cells (aN A) 41) := stay b2.drew e1
    have m2 : mapIs w2.drew (askG G fk A).am (askG G fk A).na (fun B => ((askG G fk A).ab B).map fun p => .pointer (some ⟨p, 0, none⟩)) := h1.amp.same (b2.drew.block _ (by rw [askG_am]; exact lam))
    obtain ⟨w3, hU, hm3, g33⟩ := m2.update Tryz.underlying85 (by unfold maxLen; rw [askG_na]; have := HN.out; omega) HA.out (.pointer (some ⟨ap, 0, none⟩))
    obtain ⟨es, clock, hmb⟩ := map_blkA m2
    rw [askG_am] at hU
    have e3 : w3.heap[w.heap.size]? = some (.cells (aN A) 41) := (g33.block _ (Array.getElem?_eq_some_iff.1 e2).1 (fun e => by
      rw [askG_am] at e
      have := hlt _ _ HH.out.oam
      injection e with e
      omega)).trans e2
    have c3 : w3.cell? ⟨G.sb, 1, none⟩ = some (.map (some G.am)) := by
      have hne : G.sb ≠ G.am := HH.out.ne HH.out.osb HH.out.oam (by intro e; cases e)
      have hb2 := b2.size
      have := g33.block G.sb (show G.sb < w2.heap.size by omega) (fun e => by
        rw [askG_am] at e
        injection e with e
        omega)
      unfold World.cell? at c2 ⊢
      rw [this]
      exact c2
    have HY : Hid ((⟨y.a, p, .slice qa y.a.so.length c⟩ : AV).a = askA fa fk A) := Lib.hid hya
    have HFIN : Hid (Core (orH Z Zn) base w3 (newG (askG G fk A) A ap sp sm wm c qa ⟨y.a, p, .slice qa y.a.so.length c⟩) ∧ Tch (fun b => b = (askG G fk A).am) w1 w3 ∧ Sub Zn (fr w1.heap.size w3)) := Lib.hid
      (Core.asked (w2 := w2.drew) h1 HA.out (by rw [askG_ab]; exact HAP.out) hz rfl (by show y.a.ad = A; rw [hya]; exact HAD.out) (by show rightS y.a.so = true; rw [hya]; exact HR.out) hzn b2.drew f1 f2 (f3.same rfl) (f4.same rfl) g1 g2 g3 g4 hne n1 n2 n3 n4 hm3 g33)
    have HT := Lib.hid t1
    have HG := Lib.hid (And.intro g1 (And.intro g2 (And.intro g3 g4)))
    have HL := Lib.hid hlt
    have HS := Lib.hid (And.intro sW st1)
    have HU := Lib.hid hU
    have C4 : Hid (∀ w' : World, (fun w' : World => w'.cell? ⟨G.sb, 1, none⟩ = some (.map (some G.am)) ∧ w'.rangeAt w.heap.size 0 (aN A).toList) w' → w'.cell? ⟨G.sb, 1, none⟩ = some (.map (some G.am))) := Lib.hid fun w' h => h.1
    have R4 : Hid (∀ w' : World, (fun w' : World => w'.cell? ⟨G.sb, 1, none⟩ = some (.map (some G.am)) ∧ w'.rangeAt w.heap.size 0 (aN A).toList) w' → w'.rangeAt w.heap.size 0 (aN A).toList) := Lib.hid fun w' h => h.2
    have D4 := Lib.hid (And.intro c2 (adblk e2))
    have D5 := Lib.hid (And.intro c3 (adblk e3))
    clear c1 c2 c3 e1 e2 e3 m2 hU hm3 g33 hmb hya hz hzn f1 f2 f3 f4 g1 g2 g3 g4 hne b2 n1 n2 n3 n4 h1 t1 hyz hlt sW st1 lsb lam KA HN HRIS HR HAD
    refine wp_region_held_drew (S := fun w' : World => w'.cell? ⟨G.sb, 1, none⟩ = some (.map (some G.am)) ∧ w'.rangeAt w.heap.size 0 (aN A).toList) (by kernel_rfl) D4.out (fun hHeld => ?_)
    refine wpAnyH_take (i := 0) (oi := ⟨_, _, _, _, _, _⟩) (v := ?_) rfl (by kernel_rfl) (by kernel_rfl) (by kernel_rfl) (fun _ _ _ h => h) (Or.inl ⟨by rfl, ?_⟩) (by assumption) ?_
    rotate_left
    · (intro w hSw; first | (go_simp; done) | (go_simp; with_reducible rfl))
    try simp only [Act.put, List.setIfInBounds_toArray, List.set_cons_zero, List.set_cons_succ]
    refine wpAnyH_take (i := 1) (oi := ⟨_, _, _, _, _, _⟩) (v := ?_) rfl (by kernel_rfl) (by kernel_rfl) (by kernel_rfl) (fun _ _ _ h => h) (Or.inl ⟨by rfl, ?_⟩) (by assumption) ?_
    rotate_left
    · (intro w hSw; first | (go_simp; done) | (go_simp; with_reducible rfl))
    try simp only [Act.put, List.setIfInBounds_toArray, List.set_cons_zero, List.set_cons_succ]
    refine wpAnyH_take (i := 2) (oi := ⟨_, _, _, _, _, _⟩) (v := ?_) rfl (by kernel_rfl) (by kernel_rfl) (by kernel_rfl) (fun _ _ _ h => h) (Or.inl ⟨by rfl, ?_⟩) (by assumption) ?_
    rotate_left
    · (intro w hSw; first | (go_simp; done) | (go_simp; with_reducible rfl))
    try simp only [Act.put, List.setIfInBounds_toArray, List.set_cons_zero, List.set_cons_succ]
    refine wpAnyH_take (i := 3) (oi := ⟨_, _, _, _, _, _⟩) (v := ?_) rfl (by kernel_rfl) (by kernel_rfl) (by kernel_rfl) (fun _ _ _ h => h) (Or.inl ⟨by rfl, ?_⟩) (by assumption) ?_
    rotate_left
    · (intro w hSw; have hc := C4.out w hSw; first | (go_simp; done) | (go_simp; with_reducible rfl))
    try simp only [Act.put, List.setIfInBounds_toArray, List.set_cons_zero, List.set_cons_succ]
    refine wpAnyH_take (i := 4) (oi := ⟨_, _, _, _, _, _⟩) rfl (by kernel_rfl) (by kernel_rfl) (by kernel_rfl) (fun _ _ _ h => h) (yieldsIf_load_mid (by rfl) 41 _ rfl w.heap.size 0 rfl (aN A).toList _ (R4.out) Tryz.underlying41 rfl (infoAd _)) (by assumption) ?_
    try simp only [Act.put, List.setIfInBounds_toArray, List.set_cons_zero, List.set_cons_succ, Array.toArray_toList]
    refine wpAnyH_take (i := 5) (oi := ⟨_, _, _, _, _, _⟩) (v := ?_) rfl (by kernel_rfl) (by kernel_rfl) (by kernel_rfl) (fun _ _ _ h => h) (Or.inl ⟨by rfl, ?_⟩) (by assumption) ?_
    rotate_left
    · (intro w hSw; first | (go_simp; done) | (go_simp; with_reducible rfl))
    try simp only [Act.put, List.setIfInBounds_toArray, List.set_cons_zero, List.set_cons_succ]
    refine wpAnyH_ready (rs := [6]) (by kernel_rfl) (by simp) ?_
    refine AllReadyH.cons (o := ⟨_, _, _, _, _, _⟩) rfl (fun K hK => ?_) AllReadyH.nil
    have hU := HU.out
    go_simp
    clear hU
    refine hK.out _ _ (D5.out) (fun hHeld => ?_)
    clear hK K
    try simp only [Act.put, List.setIfInBounds_toArray, List.set_cons_zero, List.set_cons_succ]
    refine wpAnyH_done (by kernel_rfl) ?_ _
    clear hHeld C4 R4 D4 D5 HU
    go_upto_region 5 with fail
    go_wp2_with fail
    go_ret
    have own0 : ∀ b, w1.heap.size ≤ b → G.own b = none := fun b hb => by
      cases ho : G.own b with
      | none => rfl
      | some r =>
        have := HL.out b r ho
        have := HS.out
        omega
    obtain ⟨g1, g2, g3, g4⟩ := HG.out
    exact ⟨orH Z Zn, _, ap, rfl, AtIs.new (c := c) (qa := qa) (y := ⟨y.a, p, .slice qa y.a.so.length c⟩) HAP.out HY.out (own0 _ g1) (own0 _ g2) (own0 _ g3) (own0 _ g4) (Nat.le_trans (by have := HS.out; omega) g1) (Nat.le_trans (by have := HS.out; omega) g2) (Nat.le_trans (by have := HS.out; omega) g3) (Nat.le_trans (by have := HS.out; omega) g4), orH_left _ _, HFIN.out.1,
      ((Tch.of_below (HB.out.trans (D0.out.mono HB.out.size))).trans ((HT.out.up (Nat.le_refl 0) fun b hb => .inl hb) : Tch _ W.drew w1)).trans (HFIN.out.2.1.up (Nat.le_refl 0) fun b hb => .inr (hb.trans (askG_am G fk A))), fun b o hb => by
        rcases orH_some hb with h1 | h1
        · exact .inl h1
        · have h2 := HFIN.out.2.2 b o h1
          have := HS.out
          unfold fr at h2
          split at h2
          · exact .inr (by omega)
          · cases h2⟩
end Go.Proofs.YtnjeoeekidnffaaGreat
