/- What end of the document's layer 7 does: where the item at a place of a row ends. -/
import Derived.Test.YtfpeliolngfkpaaRld
namespace Go.Proofs.Ytfpeliolngfkpaa
open Go.RowKit SmWord
set_option maxRecDepth 100000

/-- An item lies at the front of a row. -/
def Front (Y : List Nd) (F : Fo) : Prop := One F ∧ ∃ Z, Y = rows F ++ Z
theorem isF_nil_iff {Y : List Nd} : IsF Y → Y = [] ∨ ∃ F, Front Y F ∧ IsF (Y.drop (rows F).length) := by
  rintro ⟨G, rfl⟩
  cases G with
  | no => exact .inl rfl
  | st b nx => exact .inr ⟨.st b .no, ⟨rfl, rows nx, rfl⟩, nx, rfl⟩
  | li k nx => exact .inr ⟨.li k .no, ⟨rfl, rows nx, by simp [rows]⟩, nx, by simp [rows]⟩
theorem one_inj {F G : Fo} (hF : One F) (hG : One G) {Z Z' : List Nd} (h : rows F ++ Z = rows G ++ Z') : F = G := by
  cases F with
  | no => cases hF
  | st b nx =>
    cases (hF : nx = .no)
    cases G with
    | no => cases hG
    | st b' nx' => cases (hG : nx' = .no); simp [rows] at h; rw [h.1]
    | li k' nx' => simp [rows] at h
  | li k nx =>
    cases (hF : nx = .no)
    cases G with
    | no => cases hG
    | st b' nx' => simp [rows] at h
    | li k' nx' =>
      cases (hG : nx' = .no)
      simp only [rows, List.append_nil, List.cons_append, List.cons.injEq, Nd.mk.injEq, true_and] at h
      obtain ⟨h1, h2⟩ := h
      rw [rows_inj k k' (List.append_inj h2 (by omega)).1]
theorem front_inj {Y : List Nd} {F G : Fo} (hF : Front Y F) (hG : Front Y G) : F = G := by
  obtain ⟨h1, Z, rfl⟩ := hF
  obtain ⟨h2, Z', h3⟩ := hG
  exact one_inj h1 h2 h3
/-- Which rows begin with an item. -/
theorem front_st {x : Nd} {Y : List Nd} (h : x.ls = false) : (∃ F, Front (x :: Y) F) ↔ x.sz = 0 := by
  constructor
  · rintro ⟨F, h1, Z, h2⟩
    cases F with
    | no => cases h1
    | st b nx => cases (h1 : nx = .no); simp [rows] at h2; rw [h2.1]
    | li k nx => simp only [rows, List.cons_append, List.cons.injEq] at h2; rw [h2.1] at h; cases h
  · intro hs
    refine ⟨.st x.by' .no, rfl, Y, ?_⟩
    cases x
    simp only at h hs
    subst h hs
    rfl
theorem front_li {x : Nd} {Y : List Nd} (h : x.ls = true) (n : Nat) (hs : x.sz = (n : Int)) (hn : n ≤ Y.length) (hb : x.by' = []) : (∃ F, Front (x :: Y) F) ↔ IsF (Y.take n) := by
  constructor
  · rintro ⟨F, h1, Z, h2⟩
    cases F with
    | no => cases h1
    | st b nx => simp only [rows, List.cons_append, List.cons.injEq] at h2; rw [h2.1] at h; cases h
    | li k nx =>
      cases (h1 : nx = .no)
      simp only [rows, List.append_nil, List.cons_append, List.cons.injEq] at h2
      obtain ⟨rfl, rfl⟩ := h2
      have : n = (rows k).length := by simp only at hs; omega
      rw [this, List.take_left']
      · exact ⟨k, rfl⟩
      · rfl
  · rintro ⟨k, hk⟩
    refine ⟨.li k .no, rfl, Y.drop n, ?_⟩
    have e : (rows k).length = n := by rw [hk, List.length_take, Nat.min_eq_left hn]
    cases x
    simp only at h hs hb
    subst h hs hb
    simp only [rows, List.append_nil, List.cons_append]
    rw [e, hk, List.take_append_drop]
theorem front_bad {x : Nd} {Y : List Nd} (h : x.ls = true) (hb : x.by' ≠ [] ∨ x.sz < 0 ∨ (Y.length : Int) < x.sz) : ¬ ∃ F, Front (x :: Y) F := by
  rintro ⟨F, h1, Z, h2⟩
  cases F with
  | no => cases h1
  | st b nx => simp only [rows, List.cons_append, List.cons.injEq] at h2; rw [h2.1] at h; cases h
  | li k nx =>
    cases (h1 : nx = .no)
    simp only [rows, List.append_nil, List.cons_append, List.cons.injEq] at h2
    obtain ⟨rfl, rfl⟩ := h2
    simp only [List.length_append] at hb
    rcases hb with hb | hb | hb
    · exact hb rfl
    · omega
    · omega
theorem front_len {x : Nd} {Y : List Nd} {F : Fo} (h : Front (x :: Y) F) : (x.ls = false → (rows F).length = 1) ∧ (x.ls = true → ((rows F).length : Int) = 1 + x.sz) := by
  obtain ⟨h1, Z, h2⟩ := h
  cases F with
  | no => cases h1
  | st b nx => cases (h1 : nx = .no); simp [rows] at h2; exact ⟨(fun _ => by simp [rows]), (fun h => by rw [h2.1] at h; cases h)⟩
  | li k nx => cases (h1 : nx = .no); simp only [rows, List.append_nil, List.cons_append, List.cons.injEq] at h2; exact ⟨(fun h => by rw [h2.1] at h; cases h), (fun _ => by rw [h2.1]; simp [rows]; omega)⟩
/-- What the document's end answers. -/
def EndIs (X : List Nd) (k : Nat) (z : Int) : Prop := (∀ F, Front (X.drop k) F → z = ((k + (rows F).length : Nat) : Int)) ∧ ((¬ ∃ F, Front (X.drop k) F) → z = -1)
theorem hop_front {Y : List Nd} {K : Fo} {j s : Nat} (hK : rows K = Y.take j) (hj : j < s) (hs : s ≤ Y.length) (hI : IsF (Y.take s)) : ∃ F, Front (Y.drop j) F ∧ j + (rows F).length ≤ s := by
  have e1 : Y.take s = rows K ++ (Y.drop j).take (s - j) := by
    rw [hK, ← List.take_add, Nat.add_sub_cancel' (Nat.le_of_lt hj)]
  rw [e1, isF_app ⟨K, rfl⟩] at hI
  rcases isF_nil_iff hI with h | ⟨F, ⟨h1, Z, h2⟩, _⟩
  · have := congrArg List.length h
    simp at this
    omega
  · refine ⟨F, ⟨h1, Z ++ (Y.drop j).drop (s - j), ?_⟩, ?_⟩
    · rw [← List.append_assoc, ← h2, List.take_append_drop]
    · have := congrArg List.length h2
      rw [List.length_take, List.length_append] at this
      omega
/-- The place of the document's end within a list. -/
inductive Way (Y : List Nd) (p s : Nat) (z : Int) : Prop where
  | on (j : Nat) (K : Fo) (hz : z = ((p + j : Nat) : Int)) (hj : j ≤ Y.length) (hK : rows K = Y.take j) (h : j ≤ s ∨ ¬ IsF (Y.take s))
  | off (hz : z = -1) (h : ¬ IsF (Y.take s))
theorem Way.step {X Y : List Nd} {p s j : Nat} {K : Fo} {z : Int} (hY : X.drop p = Y) (hj : j < s) (hs : s ≤ Y.length) (hK : rows K = Y.take j) (hz : EndIs X (p + j) z) : Way Y p s z ∧ (z = -1 ∨ ∃ d : Nat, 0 < d ∧ z = ((p + j + d : Nat) : Int)) := by
  have hd : X.drop (p + j) = Y.drop j := by rw [← hY, List.drop_drop]
  obtain ⟨h1, h2⟩ := hz
  rw [hd] at h1 h2
  by_cases hF : ∃ F, Front (Y.drop j) F
  · obtain ⟨F, hF⟩ := hF
    have hz := h1 F hF
    obtain ⟨hone, Z, hZ⟩ := hF
    have hpos := one_pos hone
    have hlen := congrArg List.length hZ
    rw [List.length_drop, List.length_append] at hlen
    refine ⟨.on (j + (rows F).length) (app K F) (by rw [hz]; omega) (by omega) ?_ ?_, .inr ⟨(rows F).length, hpos, hz⟩⟩
    · rw [rows_app, hK, List.take_add, hZ, List.take_left']
      rfl
    · by_cases hle : j + (rows F).length ≤ s
      · exact .inl hle
      · refine .inr fun hI => hle ?_
        obtain ⟨F2, hF2, hle2⟩ := hop_front hK hj hs hI
        rw [front_inj ⟨hone, Z, hZ⟩ hF2]
        exact hle2
  · refine ⟨.off (h2 hF) fun hI => hF ?_, .inl (h2 hF)⟩
    obtain ⟨F2, hF2, _⟩ := hop_front hK hj hs hI
    exact ⟨F2, hF2⟩
end Go.Proofs.Ytfpeliolngfkpaa
/- What end of the document's layer 7 does: the walk. -/
namespace Go.Proofs.Ytfpeliolngfkpaa
open Go.RowKit SmWord
set_option maxRecDepth 100000

set_option maxHeartbeats 2000000 in
theorem end_out (A : Option Addr) (n c : Nat) (p : Nat) (hp : n ≤ p) (w : World) :
    Calls Try.prog 19 #[.slice A n c, .int .i64 (p : Int)] w fun e w' => e = .returned (.int .i64 (-1)) ∧ Below w.heap.size w w' := by
  go_enter Try.func19, Try.ntmps19
  go_wp2_with fail
  go_ret
  exact ⟨rfl, Below.refl _ _⟩
set_option maxHeartbeats 2000000 in
theorem end_st (b off n c p : Nat) (A1 : Option Addr) (nb k1 : Nat) (sz z : Int) (hn : n ≤ 1000000) (hp : p < n) (hz : z = if sz = 0 then (p : Int) + 1 else -1) (w : World)
    (d1 : w.cell? ⟨b, off + p * 3, none⟩ = some (.bool false)) (d2 : w.cell? ⟨b, off + p * 3 + 1, none⟩ = some (.slice A1 nb k1)) (d3 : w.cell? ⟨b, off + p * 3 + 2, none⟩ = some (.int .i64 sz)) :
    Calls Try.prog 19 #[.slice (some ⟨b, off, none⟩) n c, .int .i64 (p : Int)] w fun e w' => e = .returned (.int .i64 z) ∧ Below w.heap.size w w' := by
  by_cases hs : sz = 0
  · subst hs
    rw [if_pos rfl] at hz
    subst hz
    go_enter Try.func19, Try.ntmps19
    go_wp2_with fail
    go_ret
    exact ⟨rfl, (Below.refl _ _).alloc (Nat.le_refl _) _⟩
  · rw [if_neg hs] at hz
    subst hz
    have h1 : (sz != 0) = true := by rw [bne_iff_ne]; exact hs
    go_enter Try.func19, Try.ntmps19
    go_wp2_with fail
    go_ret
    exact ⟨rfl, (Below.refl _ _).alloc (Nat.le_refl _) _⟩
set_option maxHeartbeats 2000000 in
theorem end_bad (b off n c p : Nat) (A1 : Option Addr) (nb k1 : Nat) (sz : Int) (hn : n ≤ 1000000) (hp : p < n) (hs2 : sz ≤ 9223372036854775807) (hs1 : -9223372036854775808 ≤ sz) (hnb : nb ≤ maxLen) (hbad : 0 < nb ∨ sz < 0 ∨ ((n - 1 - p : Nat) : Int) < sz) (w : World)
    (d1 : w.cell? ⟨b, off + p * 3, none⟩ = some (.bool true)) (d2 : w.cell? ⟨b, off + p * 3 + 1, none⟩ = some (.slice A1 nb k1)) (d3 : w.cell? ⟨b, off + p * 3 + 2, none⟩ = some (.int .i64 sz)) :
    Calls Try.prog 19 #[.slice (some ⟨b, off, none⟩) n c, .int .i64 (p : Int)] w fun e w' => e = .returned (.int .i64 (-1)) ∧ Below w.heap.size w w' := by
  have hnb' : nb ≤ 9223372036854775807 := hnb
  have e0 : ((n - 1 - p : Nat) : Int) = (n : Int) - 1 - (p : Int) := by omega
  rw [e0] at hbad
  clear e0
  by_cases h1 : 0 < nb
  · have q1 : decide ((0 : Int) < (nb : Int)) = true := decide_eq_true (by omega)
    clear hbad
    go_enter Try.func19, Try.ntmps19
    go_wp2_with fail
    go_ret
    exact ⟨rfl, (Below.refl _ _).alloc (Nat.le_refl _) _⟩
  · obtain rfl : nb = 0 := by omega
    by_cases h2 : sz < 0
    · have q2 : decide (sz < 0) = true := decide_eq_true h2
      clear hbad
      go_enter Try.func19, Try.ntmps19
      go_wp2_with fail
      go_ret
      exact ⟨rfl, (Below.refl _ _).alloc (Nat.le_refl _) _⟩
    · have q2 : decide (sz < 0) = false := decide_eq_false h2
      have q3 : decide ((n : Int) - 1 - (p : Int) < sz) = true := decide_eq_true (by omega)
      clear hbad
      go_enter Try.func19, Try.ntmps19
      go_wp2_with fail
      go_ret
      exact ⟨rfl, (Below.refl _ _).alloc (Nat.le_refl _) _⟩
/-- How much is left to go. -/
def mE (n : Nat) (z : Int) : Nat := if z < 0 then 0 else n + 1 - z.toNat
set_option maxHeartbeats 4000000 in
theorem end_li (X : List Nd) (b off n c p s : Nat) (A1 : Option Addr) (k1 : Nat) (hX : X.length = n) (hn : n ≤ 1000000) (hp : p < n) (hs : p + 1 + s ≤ n) (w : World)
    (d1 : w.cell? ⟨b, off + p * 3, none⟩ = some (.bool true)) (d2 : w.cell? ⟨b, off + p * 3 + 1, none⟩ = some (.slice A1 0 k1)) (d3 : w.cell? ⟨b, off + p * 3 + 2, none⟩ = some (.int .i64 (s : Int)))
    (IH : Hid (∀ (k : Nat) (w' : World), p < k → k ≤ n → Below w.heap.size w w' → Calls Try.prog 19 #[.slice (some ⟨b, off, none⟩) n c, .int .i64 (k : Int)] w' fun e w2 => (∃ z, e = .returned (.int .i64 z) ∧ EndIs X k z) ∧ Below w'.heap.size w' w2)) :
    Calls Try.prog 19 #[.slice (some ⟨b, off, none⟩) n c, .int .i64 (p : Int)] w fun e w' => (IsF ((X.drop (p + 1)).take s) → e = .returned (.int .i64 ((p + 1 + s : Nat) : Int))) ∧ (¬ IsF ((X.drop (p + 1)).take s) → e = .returned (.int .i64 (-1))) ∧ Below w.heap.size w w' := by
  have q0 : decide (n ≤ p) = false := decide_eq_false (by omega)
  have q2 : decide ((s : Int) < 0) = false := decide_eq_false (by omega)
  have q3 : decide ((n : Int) - 1 - (p : Int) < (s : Int)) = false := decide_eq_false (by omega)
  obtain ⟨p1, hp1⟩ : ∃ p1, p + 1 = p1 := ⟨_, rfl⟩
  obtain ⟨pe, hpe⟩ : ∃ pe, p1 + s = pe := ⟨_, rfl⟩
  have e1 : (p : Int) + 1 = (p1 : Int) := by omega
  have e2 : (p1 : Int) + (s : Int) = (pe : Int) := by omega
  rw [hp1, hpe]
  have HP := Lib.hid hpe
  have HX := Lib.hid hX
  have hpp : p < p1 := by omega
  have hpn : pe ≤ n := by omega
  clear hp1 hpe hX
  go_enter Try.func19, Try.ntmps19
  go_wp2_with fail
  clear d1 d2 d3 q2 q3
  have bW : Below w.heap.size w (w.alloc (.cells #[.bool true, .slice A1 0 k1, .int .i64 (s : Int)] 43)) := (Below.refl _ _).alloc (Nat.le_refl _) _
  have f0 : (w.alloc (.cells #[.bool true, .slice A1 0 k1, .int .i64 (s : Int)] 43)).heap[w.heap.size]? = some (.cells #[.bool true, .slice A1 0 k1, .int .i64 (s : Int)] 43) := heap_alloc_new _ _
  generalize (w.alloc (.cells #[.bool true, .slice A1 0 k1, .int .i64 (s : Int)] 43)) = W at *
  go_loopw [6] (fun i wr => ∃ z, i = .int .i64 z ∧ Way (X.drop p1) p1 s z ∧ Below w.heap.size w wr ∧ wr.heap[w.heap.size]? = some (.cells #[.bool true, .slice A1 0 k1, .int .i64 (s : Int)] 43)) (fun i _ => mE n (intOf i))
  case atStart => exact ⟨(p1 : Int), rfl, .on 0 .no (by simp) (by omega) (by simp [rows]) (.inl (by omega)), bW, f0⟩
  case round =>
    obtain ⟨z, rfl, hway, hb, hf⟩ := hrel
    clear f0 bW
    have y2 : wr.cell? ⟨w.heap.size, 2, none⟩ = some (.int .i64 (s : Int)) := blk_cell (j := 2) hf rfl
    rcases hway with ⟨j, K, rfl, hj, hK, hjs⟩ | ⟨rfl, hno⟩
    · have hjl : j ≤ n - p1 := by rw [List.length_drop, HX.out] at hj; exact hj
      obtain ⟨pj, hpj⟩ : ∃ pj, p1 + j = pj := ⟨_, rfl⟩
      rw [hpj]
      by_cases hlt : j < s
      · have hlp : pj < pe := by have := HP.out; omega
        have hlp2 : p < pj := by omega
        have HK := Lib.hid hK
        have HF := Lib.hid hf
        have HB := Lib.hid hb
        have HJ := Lib.hid hpj
        clear hK hf hb hpj hjs hj
        go_wp2_with fail
        refine (IH.out pj wr hlp2 (by omega) HB.out).mono ?_
        rintro e w2 ⟨⟨z, rfl, hz⟩, b2⟩
        have hz' := hz
        rw [← HJ.out] at hz'
        obtain ⟨hw, hd⟩ := Way.step (X := X) (Y := X.drop p1) (p := p1) (s := s) rfl hlt (by rw [List.length_drop, HX.out]; have := HP.out; omega) HK.out hz'
        have HW := Lib.hid hw
        have HD := Lib.hid hd
        have HB2 := Lib.hid (HB.out.trans (b2.mono HB.out.size))
        have HF2 := Lib.hid (stay b2 HF.out)
        clear hw hd hz hz' b2
        go_wp2_with fail
        refine ⟨⟨z, rfl, HW.out, HB2.out, HF2.out⟩, ?_⟩
        show mE n z < mE n ((pj : Nat) : Int)
        unfold mE
        have hj2 := HJ.out
        rcases HD.out with rfl | ⟨d, hd, rfl⟩
        · rw [if_pos (by omega), if_neg (by omega)]
          omega
        · rw [if_neg (by omega), if_neg (by omega)]
          omega
      · have hlp : ¬ pj < pe := by have := HP.out; omega
        have HB := Lib.hid hb
        have hI1 : pj = pe → IsF ((X.drop p1).take s) := fun e => ⟨K, by have := HP.out; rw [hK, show j = s by omega]⟩
        have hI2 : pj ≠ pe → ¬ IsF ((X.drop p1).take s) := fun e => by
          have := HP.out
          rcases hjs with h | h
          · omega
          · exact h
        have HI := Lib.hid (And.intro hI1 hI2)
        clear hI1 hI2
        clear hb hf hK hj hjs
        by_cases he : pj = pe
        · subst he
          have HY := Lib.hid (HI.out.1 rfl)
          clear HI
          go_wp2_with fail
          go_ret
          exact ⟨fun _ => rfl, fun h => absurd HY.out h, HB.out⟩
        · have HY := Lib.hid (HI.out.2 he)
          have hne : (((pj : Nat) : Int) != (pe : Int)) = true := by rw [bne_iff_ne]; omega
          clear HI
          go_wp2_with fail
          go_ret
          exact ⟨fun h => absurd h HY.out, fun _ => rfl, HB.out⟩
    · have HB := Lib.hid hb
      have HY := Lib.hid hno
      have hne : ((-1 : Int) != (pe : Int)) = true := by rw [bne_iff_ne]; omega
      clear hb hf hno
      go_wp2_with fail
      go_ret
      exact ⟨fun h => absurd h HY.out, fun _ => rfl, HB.out⟩
theorem end_walk (X : List Nd) (n c : Nat) (A : Option Addr) (hn : n ≤ 1000000) : ∀ (N p : Nat) (w : World), n ≤ p + N → p ≤ n → Arg w A n c X →
    Calls Try.prog 19 #[.slice A n c, .int .i64 (p : Int)] w fun e w' => (∃ z, e = .returned (.int .i64 z) ∧ EndIs X p z) ∧ Below w.heap.size w w' := by
  intro N
  induction N with
  | zero =>
    intro p w h1 h2 ha
    have hno : ¬ ∃ F, Front (X.drop p) F := by
      rw [List.drop_eq_nil_of_le (by rw [ha.len]; omega)]
      rintro ⟨F, h, Z, hZ⟩
      have := one_pos h
      have := congrArg List.length hZ
      simp at this
      omega
    exact (end_out A n c p (by omega) w).mono fun e w' h => ⟨⟨-1, h.1, fun F hF => absurd ⟨F, hF⟩ hno, fun _ => rfl⟩, h.2⟩
  | succ N ih =>
    intro p w h1 h2 ha
    by_cases hp : p < n
    · obtain ⟨b, off, rfl, hb, hc⟩ := ha.at (by omega)
      obtain ⟨x, hx⟩ : ∃ x, X[p]? = some x := ⟨_, List.getElem?_eq_getElem (by rw [ha.len]; exact hp)⟩
      have hdr : X.drop p = x :: X.drop (p + 1) := by
        obtain ⟨hlt, e⟩ := List.getElem?_eq_some_iff.1 hx
        rw [List.drop_eq_getElem_cons hlt, e]
      have hl : (X.drop (p + 1)).length = n - 1 - p := by rw [List.length_drop, ha.len]; omega
      obtain ⟨d1, ⟨A1, k1, d2, g1, g2, g3, g4⟩, d3⟩ := hc p x hx
      obtain ⟨_, z1, z2⟩ := ha.small p x hx
      rw [Nat.mul_comm 3 p] at d1 d2 d3
      cases hls : x.ls with
      | false =>
        rw [hls] at d1
        refine (end_st b off n c p A1 x.by'.length k1 x.sz _ hn hp rfl w d1 d2 d3).mono fun e w' h => ⟨⟨_, h.1, ?_, ?_⟩, h.2⟩
        · intro F hF
          rw [hdr] at hF
          rw [if_pos ((front_st hls).1 ⟨F, hF⟩), (front_len hF).1 hls]
          omega
        · intro hno
          rw [hdr, front_st hls] at hno
          rw [if_neg hno]
      | true =>
        rw [hls] at d1
        by_cases hbad : 0 < x.by'.length ∨ x.sz < 0 ∨ ((n - 1 - p : Nat) : Int) < x.sz
        · have hno : ¬ ∃ F, Front (X.drop p) F := by
            rw [hdr]
            refine front_bad hls ?_
            rw [hl]
            rcases hbad with h | h
            · exact .inl (fun e => by rw [e] at h; simp at h)
            · exact .inr h
          exact (end_bad b off n c p A1 x.by'.length k1 x.sz hn hp z2 z1 g2 hbad w d1 d2 d3).mono fun e w' h => ⟨⟨-1, h.1, fun F hF => absurd ⟨F, hF⟩ hno, fun _ => rfl⟩, h.2⟩
        · obtain ⟨s, hs⟩ : ∃ s : Nat, x.sz = (s : Int) := ⟨x.sz.toNat, by omega⟩
          have hb0 : x.by'.length = 0 := by omega
          rw [hs] at d3
          rw [hb0] at d2
          have hsn : p + 1 + s ≤ n := by omega
          refine (end_li X b off n c p s A1 k1 ha.len hn hp hsn w d1 d2 d3 (Lib.hid fun k w' hk1 hk2 hb' => ih k w' (by omega) hk2 (ha.below hb'))).mono fun e w' h => ?_
          have hiff := front_li (Y := X.drop (p + 1)) hls s hs (by rw [hl]; omega) (List.length_eq_zero_iff.1 hb0)
          by_cases hI : IsF ((X.drop (p + 1)).take s)
          · refine ⟨⟨_, h.1 hI, ?_, ?_⟩, h.2.2⟩
            · intro F hF
              rw [hdr] at hF
              have := (front_len hF).2 hls
              omega
            · intro hno
              rw [hdr] at hno
              exact absurd (hiff.2 hI) hno
          · refine ⟨⟨_, h.2.1 hI, ?_, fun _ => rfl⟩, h.2.2⟩
            intro F hF
            rw [hdr] at hF
            exact absurd (hiff.1 ⟨F, hF⟩) hI
    · exact ih p w (by omega) h2 ha
end Go.Proofs.Ytfpeliolngfkpaa
/- What deep of the document's layer 7 does: how deep lists stand in lists. -/
namespace Go.Proofs.Ytfpeliolngfkpaa
open Go.RowKit SmWord
set_option maxRecDepth 100000

/-- One list that a node lies in. -/
def tm (X : List Nd) (i k : Nat) : Nat := match X[k]? with | some x => if x.ls = true ∧ (i : Int) ≤ (k : Int) + x.sz then 1 else 0 | none => 0
def cp (X : List Nd) (i : Nat) : Nat → Nat
  | 0 => 0
  | k + 1 => cp X i k + tm X i k
theorem tm_cons (x : Nd) (X : List Nd) (i k : Nat) : tm (x :: X) (i + 1) (k + 1) = tm X i k := by
  unfold tm
  rw [List.getElem?_cons_succ]
  cases X[k]? with
  | none => rfl
  | some y =>
    simp only
    congr 1
    rw [eq_iff_iff]
    refine and_congr_right fun _ => ?_
    omega
theorem cp_cons (x : Nd) (X : List Nd) (i : Nat) : ∀ k, cp (x :: X) (i + 1) (k + 1) = tm (x :: X) (i + 1) 0 + cp X i k
  | 0 => by simp [cp]
  | k + 1 => by rw [cp, cp_cons x X i k, cp, tm_cons, Nat.add_assoc]
theorem cp_cn : ∀ (X : List Nd) (i : Nat), i < X.length → cp X i (i + 1) = cn X i
  | [], _, h => by cases h
  | x :: X, 0, _ => by rw [cn_zero, cp, cp]; simp [tm]
  | x :: X, i + 1, h => by
    rw [cp_cons, cp_cn X i (by simpa using h), cn_succ]
    congr 1
    simp [tm]
theorem tm_le (X : List Nd) (i k : Nat) : tm X i k ≤ 1 := by
  unfold tm
  split
  · split <;> omega
  · omega
theorem cp_le (X : List Nd) (i : Nat) : ∀ k, cp X i k ≤ k
  | 0 => Nat.le_refl _
  | k + 1 => by have := cp_le X i k; have := tm_le X i k; rw [cp]; omega
theorem dmu_small (X : List Nd) : ∀ m, m ≤ X.length → dmu X m ≤ m := fun m hm => dmu_le m fun i hi => by
  rw [← cp_cn X i (by omega)]
  have := cp_le X i (i + 1)
  omega
set_option maxHeartbeats 4000000 in
theorem deep_walk (X : List Nd) (n c b off : Nat) (hX : X.length = n) (hn : n ≤ 1000000) (hsz : ∀ (i : Nat) (x : Nd), X[i]? = some x → 0 ≤ x.sz ∧ x.sz ≤ (n : Int)) (w : World)
    (hN : ∀ (i : Nat) (x : Nd), X[i]? = some x → NodeAt w b (off + 3 * i) x) :
    Calls Try.prog 20 #[.slice (some ⟨b, off, none⟩) n c] w fun e w' => e = .returned (.int .i64 ((dmu X n : Nat) : Int)) ∧ w' = w := by
  have HN := Lib.hid hN
  have HS := Lib.hid hsz
  have HX := Lib.hid hX
  clear hN hsz hX
  go_enter Try.func20, Try.ntmps20
  go_wp2_with fail
  go_loopw [3, 9] (fun m i wr => ∃ k : Nat, k ≤ n ∧ i = .int .i64 (k : Int) ∧ m = .int .i64 ((dmu X k : Nat) : Int) ∧ wr = w) (fun _ i _ => n - (intOf i).toNat)
  case atStart => exact ⟨0, by omega, rfl, rfl, rfl⟩
  case round =>
    obtain ⟨k, hk, rfl, rfl, rfl⟩ := hrel
    have hdm := dmu_small X k (by rw [HX.out]; exact hk)
    by_cases hlt : k < n
    · obtain ⟨m0, hm0⟩ : ∃ m0, dmu X k = m0 := ⟨_, rfl⟩
      rw [hm0] at hdm
      rw [hm0]
      have HM := Lib.hid hm0
      clear hm0
      go_wp2_with fail
      go_loopw [5, 6] (fun m i w2 => ∃ j : Nat, j ≤ k + 1 ∧ i = .int .i64 (j : Int) ∧ m = .int .i64 ((cp X k j : Nat) : Int) ∧ w2 = wr) (fun _ i _ => k + 1 - (intOf i).toNat)
      case atStart => exact ⟨0, by omega, rfl, rfl, rfl⟩
      case round =>
        obtain ⟨j, hj, rfl, rfl, rfl⟩ := hrel
        have hcj := cp_le X k j
        by_cases hjl : j < k + 1
        · obtain ⟨x, hx⟩ : ∃ x, X[j]? = some x := ⟨_, List.getElem?_eq_getElem (by rw [HX.out]; omega)⟩
          have hnode := HN.out j x hx
          have d1 := hnode.ls
          have d3 := hnode.sz
          obtain ⟨z1, z2⟩ := HS.out j x hx
          rw [Nat.mul_comm 3 j] at d1 d3
          have htm : tm X k j = if x.ls = true ∧ (k : Int) ≤ (j : Int) + x.sz then 1 else 0 := by unfold tm; rw [hx]
          have hst : cp X k (j + 1) = cp X k j + tm X k j := rfl
          rw [htm] at hst
          clear hnode hx htm
          obtain ⟨ls, hls⟩ : ∃ ls, x.ls = ls := ⟨_, rfl⟩
          obtain ⟨sz, hsz⟩ : ∃ sz, x.sz = sz := ⟨_, rfl⟩
          rw [hls] at d1 hst
          rw [hsz] at d3 hst z1 z2
          obtain ⟨q, hq⟩ : ∃ q, cp X k j = q := ⟨_, rfl⟩
          rw [hq] at hst hcj
          rw [hq]
          have HST := Lib.hid hst
          have hjl2 : j ≤ k := by omega
          clear hls hsz hq hst
          cases ls
          · go_wp2_with fail
            refine ⟨⟨j + 1, by omega, by go_num, ?_, trivial⟩, by simp [intOf]; omega⟩
            have := HST.out
            simp only [Bool.false_eq_true, false_and, if_false, Nat.add_zero] at this
            rw [this]
          · by_cases hle : (k : Int) ≤ (j : Int) + sz
            · have q1 : decide ((k : Int) ≤ (j : Int) + sz) = true := decide_eq_true hle
              have HQ : Hid (cp X k (j + 1) = q + 1) := Lib.hid (by have := HST.out; rwa [if_pos ⟨rfl, hle⟩] at this)
              clear HST hle
              go_wp2_with fail
              refine ⟨⟨j + 1, by omega, by go_num, ?_, trivial⟩, by simp [intOf]; omega⟩
              rw [HQ.out]
              go_num
            · have q1 : decide ((k : Int) ≤ (j : Int) + sz) = false := decide_eq_false hle
              have HQ : Hid (cp X k (j + 1) = q) := Lib.hid (by have := HST.out; rwa [if_neg (fun h => hle h.2)] at this)
              clear HST hle
              go_wp2_with fail
              refine ⟨⟨j + 1, by omega, by go_num, ?_, trivial⟩, by simp [intOf]; omega⟩
              rw [HQ.out]
        · obtain rfl : j = k + 1 := by omega
          have hcn := cp_cn X k (by rw [HX.out]; exact hlt)
          obtain ⟨q, hq⟩ : ∃ q, cp X k (k + 1) = q := ⟨_, rfl⟩
          rw [hq] at hcn hcj
          rw [hq]
          obtain ⟨m1, hm1⟩ : ∃ m1, dmu X (k + 1) = m1 := ⟨_, rfl⟩
          have e1 : max (m0 : Int) (q : Int) = (m1 : Int) := by
            rw [← hm1, dmu, HM.out, ← hcn]
            omega
          have HM1 := Lib.hid hm1
          obtain ⟨k1, hk1⟩ : ∃ k1, k + 1 = k1 := ⟨_, rfl⟩
          have e2 : (k : Int) + 1 = (k1 : Int) := by omega
          have HK1 := Lib.hid hk1
          clear hq hm1 hcn
          have hkk : ¬ k1 ≤ k := by omega
          rw [hk1]
          clear hk1 hj hjl
          go_wp2_with fail
          have hk2 := HK1.out
          refine ⟨⟨k1, by omega, rfl, ?_, trivial⟩, by simp [intOf]; omega⟩
          rw [← hk2, HM1.out]
    · obtain rfl : k = n := by omega
      go_wp2_with fail
      go_ret
      exact ⟨rfl, rfl⟩
end Go.Proofs.Ytfpeliolngfkpaa
