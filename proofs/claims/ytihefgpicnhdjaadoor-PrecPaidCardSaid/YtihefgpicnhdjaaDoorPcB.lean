/- What the functions answered and Run of package prec do. -/
import Derived.Test.YtihefgpicnhdjaaDoorPcA
import Derived.Test.YtihefgpicnhdjaaDoorGe
import Derived.Test.YtihefgpicnhdjaaDoorGg
namespace Go.Proofs.YtihefgpicnhdjaaDoor
open Go.RowKit SmWord
set_option maxRecDepth 100000

/-- What is answered: m bytes, and whether. -/
def AnsIs (m : Nat) (ok : Bool) (g : Nat → Nat) (w : World) (e : Ending) (w' : World) : Prop := ∃ A c, e = .returned (.tuple #[.slice A m c, .bool ok]) ∧ Sl w' A m g ∧ Below w.heap.size w w'
/-- So with the gas that is left. -/
def RunIs (m left : Nat) (ok : Bool) (g : Nat → Nat) (w : World) (e : Ending) (w' : World) : Prop := ∃ A c, e = .returned (.tuple #[.slice A m c, .int .u64 (left : Int), .bool ok]) ∧ Sl w' A m g ∧ Below w.heap.size w w'
section
variable (L c : Nat) (f : Nat → Nat) (A : Option Addr) (w : World) (hL : L ≤ 100000) (hc : L ≤ c) (hA : A = none → L = 0 ∧ c = 0) (hs : Sl w A L f)
include hL hc hA hs
omit hA in
set_option maxHeartbeats 4000000 in
theorem ans_two (hT : Tab w) : Calls Tryd.prog 13 #[.int .i64 2, .slice A L c] w (AnsIs 32 true (shh f L) w) := by
  have K := Lib.hid (sum_walk A L c f w (by unfold maxLen; omega) hc hT hs)
  have hlt : ∀ i, shh f L i < 256 := shh_lt f L
  obtain ⟨H, hH⟩ : ∃ H, shh f L = H := ⟨_, rfl⟩
  rw [hH] at K hlt ⊢
  have HL := Lib.hid hlt
  clear hs hc hH hL hT hlt
  go_enter Tryd.func13, Tryd.ntmps13
  go_upto_region 4 with (first | (go_at_call 21; refine K.out.mono ?_; rintro e w1 ⟨rfl, b1⟩; have HB := Lib.hid b1; clear b1) | (refine wpList_alloc_row rfl 42 rfl zH zH_run ?_) | (refine wpList_store_row rfl 42 (.tmp 6) _ rfl _ zH (ha H) rfl rfl (heap_alloc_new _ _) (infoArrH _) rfl (arr_one _ _ _) ?_))
  rw [World.setRow_alloc_new]
  simp only [Act.put, List.setIfInBounds_toArray, List.set_cons_succ, List.set_cons_zero]
  have f3 : (w1.alloc (.cells (ha H) 42)).heap[w1.heap.size]? = some (.cells (ha H) 42) := heap_alloc_new _ _
  have bW : Below w.heap.size w (w1.alloc (.cells (ha H) 42)) := HB.out.alloc HB.out.size _
  have HS := Lib.hid (sl_cells f3 fun i _ => HL.out i)
  replace HB := Lib.hid bW
  clear f3 bW K
  generalize w1.alloc (.cells (ha H) 42) = w2 at *
  generalize w1.heap.size = b2 at *
  go_wp2_with fail
  go_ret2
  exact ⟨_, _, rfl, HS.out, HB.out⟩
omit hc in
set_option maxHeartbeats 4000000 in
theorem ans_four : Calls Tryd.prog 13 #[.int .i64 4, .slice A L c] w (AnsIs L true f w) := by
  have o0 := World.ownsRow_nil w w.heap.size 5 1
  go_enter Tryd.func13, Tryd.ntmps13
  go_wp2_with (at_builtin; refine append_sl rfl _ _ rfl w.heap.size _ 0 [] rfl o0 A L c f rfl hA hs (by omega) (Nat.le_refl _) ?_; intro v1 w2 hown hgrow)
  rw [Nat.zero_add, List.nil_append] at hown
  have hb1 : Below w.heap.size w w2 := (Below.refl _ _).grown hgrow (by simp) (fun b hb' => by cases hb')
  obtain ⟨A1, c1, rfl, hc1, hA1, hs1⟩ := own_sl hown hs.small
  go_ret2
  exact ⟨_, _, rfl, hs1, hb1⟩
omit hL hc hA hs in
theorem ans_other (z : Int) (h2 : z ≠ 2) (h4 : z ≠ 4) (h5 : z ≠ 5) : Calls Tryd.prog 13 #[.int .i64 z, .slice A L c] w (AnsIs 0 true f w) := by
  have e2 : (z == 2) = false := by rw [beq_eq_false_iff_ne]; exact h2
  have e4 : (z == 4) = false := by rw [beq_eq_false_iff_ne]; exact h4
  have e5 : (z == 5) = false := by rw [beq_eq_false_iff_ne]; exact h5
  clear h2 h4 h5
  go_enter Tryd.func13, Tryd.ntmps13
  go_wp2_with fail
  go_ret2
  exact ⟨_, _, rfl, sl_none _ _, Below.refl _ _⟩
end
set_option maxHeartbeats 4000000 in
theorem ans_five_core (L c m : Nat) (E : Int) (b : Bool) (g : Nat → Nat) (A : Option Addr) (w : World) (hE : (E == 0) = b)
    (HR : Hid (Calls Tryd.prog 22 #[.slice A L c] w fun e w' => ∃ X cx, e = .returned (.tuple #[.slice X m cx, .int .i64 E]) ∧ Sl w' X m g ∧ Below w.heap.size w w')) :
    Calls Tryd.prog 13 #[.int .i64 5, .slice A L c] w (AnsIs m b g w) := by
  go_enter Tryd.func13, Tryd.ntmps13
  go_wp2_with (go_at_call 22; refine HR.out.mono ?_; rintro e w1 ⟨X, cx, rfl, hs1, b1⟩)
  go_ret2
  exact ⟨_, _, rfl, hs1, b1⟩
/-- What contract 5 answers: how many bytes, whether, which. -/
def a5m (f : Nat → Nat) (L : Nat) : Nat := if askV f L 0 = 0 ∧ askV f L 2 = 0 then 0 else if okL (askV f L) 64 = true then askV f L 2 else 0
def a5o (f : Nat → Nat) (L : Nat) : Bool := decide (askV f L 0 = 0 ∧ askV f L 2 = 0) || okL (askV f L) 64
def a5g (f : Nat → Nat) (L : Nat) : Nat → Nat := fun i => dig (pw (bvl (pf f L 96) (askV f L 0)) (bvl (pf f L (96 + askV f L 0)) (askV f L 1)) (bvl (pf f L (96 + (askV f L 0 + askV f L 1))) (askV f L 2))) (askV f L 2 - 1 - i)
theorem ans_five (L c : Nat) (f : Nat → Nat) (A : Option Addr) (w : World) (hL : L ≤ 100000) (hc : L ≤ c) (hA : A = none → L = 0 ∧ c = 0) (hs : Sl w A L f) :
    Calls Tryd.prog 13 #[.int .i64 5, .slice A L c] w (AnsIs (a5m f L) (a5o f L) (a5g f L) w) := by
  by_cases hz : askV f L 0 = 0 ∧ askV f L 2 = 0
  · rw [a5m, a5o, if_pos hz, decide_eq_true hz, Bool.true_or]
    refine ans_five_core L c 0 0 true _ A w rfl (Lib.hid ((run_is_none A L c f w hL hc hs hz).mono fun e w' h => ?_))
    obtain ⟨rfl, hb⟩ := h
    exact ⟨_, _, rfl, sl_none _ _, hb⟩
  · cases hk : okL (askV f L) 64 with
    | true =>
      rw [a5m, a5o, if_neg hz, hk, if_pos rfl, Bool.or_true]
      refine ans_five_core L c _ 0 true _ A w rfl (Lib.hid ((run_is_near A L c f w hL hc hA hs hz hk).mono fun e w' h => ?_))
      obtain ⟨X, rfl, _, hS, hb⟩ := h
      exact ⟨_, _, rfl, hS, hb⟩
    | false =>
      rw [a5m, a5o, if_neg hz, hk, if_neg (by decide), decide_eq_false hz, Bool.or_false]
      refine ans_five_core L c 0 4 false _ A w rfl (Lib.hid ((run_is_long A L c f w hL hc hs hz hk).mono fun e w' h => ?_))
      obtain ⟨rfl, hb⟩ := h
      exact ⟨_, _, rfl, sl_none _ _, hb⟩
/-- What any contract answers. -/
def am (z : Int) (f : Nat → Nat) (L : Nat) : Nat := if z = 2 then 32 else if z = 4 then L else if z = 5 then a5m f L else 0
def ao (z : Int) (f : Nat → Nat) (L : Nat) : Bool := if z = 5 then a5o f L else true
def ag (z : Int) (f : Nat → Nat) (L : Nat) : Nat → Nat := if z = 2 then shh f L else if z = 4 then f else if z = 5 then a5g f L else f
theorem ans_any (z : Int) (L c : Nat) (f : Nat → Nat) (A : Option Addr) (w : World) (hL : L ≤ 100000) (hc : L ≤ c) (hA : A = none → L = 0 ∧ c = 0) (hs : Sl w A L f) (hT : Tab w) :
    Calls Tryd.prog 13 #[.int .i64 z, .slice A L c] w (AnsIs (am z f L) (ao z f L) (ag z f L) w) := by
  unfold am ao ag
  by_cases h2 : z = 2
  · subst h2; exact ans_two L c f A w hL hc hs hT
  · rw [if_neg h2, if_neg h2]
    by_cases h4 : z = 4
    · subst h4; exact ans_four L c f A w hL hA hs
    · rw [if_neg h4, if_neg h4]
      by_cases h5 : z = 5
      · subst h5; exact ans_five L c f A w hL hc hA hs
      · rw [if_neg h5, if_neg h5, if_neg h5]; exact ans_other L c f A w z h2 h4 h5
theorem a5m_no (f : Nat → Nat) (L : Nat) (h : a5o f L = false) : a5m f L = 0 := by
  unfold a5o at h
  unfold a5m
  rw [Bool.or_eq_false_iff] at h
  rw [if_neg (of_decide_eq_false h.1), h.2]
  rfl
theorem am_no (z : Int) (f : Nat → Nat) (L : Nat) (h : ao z f L = false) : am z f L = 0 := by
  unfold ao at h
  unfold am
  by_cases h5 : z = 5
  · subst h5; exact a5m_no f L h
  · rw [if_neg h5] at h; cases h
set_option maxHeartbeats 4000000 in
theorem run_core (z : Int) (G P m L c : Nat) (ok : Bool) (g : Nat → Nat) (A : Option Addr) (w : World) (hG : G < B)
    (HP : Hid (Calls Tryd.prog 10 #[.int .i64 z, .slice A L c] w fun e w' => e = .returned (.int .u64 (P : Int)) ∧ Below w.heap.size w w'))
    (HA : Hid (∀ w', Below w.heap.size w w' → Calls Tryd.prog 13 #[.int .i64 z, .slice A L c] w' (AnsIs m ok g w'))) (hm : ok = false → m = 0) :
    Calls Tryd.prog 7 #[.int .i64 z, .slice A L c, .int .u64 (G : Int)] w (RunIs (if P ≤ G then m else 0) (if P ≤ G ∧ ok = true then G - P else 0) (decide (P ≤ G) && ok) g w) := by
  simp only [B] at hG
  by_cases hp : P ≤ G
  · have e1 : decide ((G : Int) < (P : Int)) = false := by simp; omega
    have e1' : decide (G < P) = false := by simp; omega
    rw [if_pos hp, decide_eq_true hp, Bool.true_and]
    cases ok with
    | true =>
      rw [if_pos ⟨hp, rfl⟩]
      have e2 : (G : Int) - (P : Int) = ((G - P : Nat) : Int) := by omega
      have e3 : IntKind.u64.wrap ((G - P : Nat) : Int) = ((G - P : Nat) : Int) := by rw [IntKind.wrap_u64]; omega
      obtain ⟨R, hR⟩ : ∃ R, G - P = R := ⟨_, rfl⟩
      rw [hR] at e2 e3 ⊢
      clear hp hm hR
      go_enter Tryd.func7, Tryd.ntmps7
      go_upto_region 2 with (go_at_call 10; refine HP.out.mono ?_; rintro e w1 ⟨rfl, b1⟩; have HB := Lib.hid b1; clear b1)
      go_wp2_with (go_at_call 13; refine (HA.out _ HB.out).mono ?_; rintro e w2 ⟨X, cx, rfl, hs, b2⟩)
      go_ret3
      exact ⟨_, _, rfl, hs, HB.out.trans (b2.mono HB.out.size)⟩
    | false =>
      obtain rfl := hm rfl
      rw [if_neg (by simp)]
      clear hp hm
      go_enter Tryd.func7, Tryd.ntmps7
      go_upto_region 2 with (go_at_call 10; refine HP.out.mono ?_; rintro e w1 ⟨rfl, b1⟩; have HB := Lib.hid b1; clear b1)
      go_wp2_with (go_at_call 13; refine (HA.out _ HB.out).mono ?_; rintro e w2 ⟨X, cx, rfl, hs, b2⟩)
      go_ret3
      exact ⟨_, _, rfl, sl_none _ _, HB.out.trans (b2.mono HB.out.size)⟩
  · have e1 : decide ((G : Int) < (P : Int)) = true := by simp; omega
    have e1' : decide (G < P) = true := by simp; omega
    rw [if_neg hp, decide_eq_false hp, Bool.false_and, if_neg (fun h => hp h.1)]
    clear hp hm HA
    go_enter Tryd.func7, Tryd.ntmps7
    go_upto_region 2 with (go_at_call 10; refine HP.out.mono ?_; rintro e w1 ⟨rfl, b1⟩; have HB := Lib.hid b1; clear b1)
    go_wp2_with fail
    go_ret3
    exact ⟨_, _, rfl, sl_none _ _, HB.out⟩
/-- How many bytes, how much is left, and whether, by a price P. -/
def rm (z : Int) (G : Nat) (f : Nat → Nat) (L : Nat) : Nat := if pP z L f ≤ G then am z f L else 0
def rl' (z : Int) (G : Nat) (f : Nat → Nat) (L : Nat) : Nat := if pP z L f ≤ G ∧ ao z f L = true then G - pP z L f else 0
def ro (z : Int) (G : Nat) (f : Nat → Nat) (L : Nat) : Bool := decide (pP z L f ≤ G) && ao z f L
theorem prun_walk (z : Int) (G L c : Nat) (f : Nat → Nat) (A : Option Addr) (w : World) (hG : G < B) (hL : L ≤ 100000) (hc : L ≤ c) (hA : A = none → L = 0 ∧ c = 0) (hs : Sl w A L f) (hT : Tab w) :
    Calls Tryd.prog 7 #[.int .i64 z, .slice A L c, .int .u64 (G : Int)] w (RunIs (rm z G f L) (rl' z G f L) (ro z G f L) (ag z f L) w) :=
  run_core z G (pP z L f) (am z f L) L c (ao z f L) (ag z f L) A w hG (Lib.hid (price_any L c f A w hL hc hA hs z)) (Lib.hid fun w' hb => ans_any z L c f A w' hL hc hA (hs.below hb) (hT.below hb)) (am_no z f L)
end Go.Proofs.YtihefgpicnhdjaaDoor
