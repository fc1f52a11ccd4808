/- Items in bytes, there and back, in plain words: what is written is read as it was, and what is read is written as it stood. -/
import Derived.Test.YtfpeliolngfkpaaRpN
namespace Go.Proofs.Ytfpeliolngfkpaa.SmWord
set_option maxRecDepth 100000

theorem rd_str (sub : Option (List Nat → Nat → Res)) (b X : List Nat) (room : Nat) (hb : b.length ≤ 1048576) (hr : (ws b).length ≤ room) : rdStep sub (ws b ++ X) room = .ok [⟨false, b, 0⟩] (ws b).length := by
  by_cases h : b.length = 1 ∧ b.getD 0 0 < 128
  · obtain ⟨x, rfl⟩ : ∃ x, b = [x] := by
      cases b with
      | nil => simp at h
      | cons x b => cases b with
        | nil => exact ⟨x, rfl⟩
        | cons y b => simp at h
    have hx : x < 128 := by simpa using h.2
    have e : ws [x] = [x] := by rw [ws, if_pos h]
    rw [e]
    simp [rdStep, hx]
  · have e : ws b = hea b.length 0 ++ b := by rw [ws, if_neg h]
    obtain ⟨c, T, hcT, hc, hh⟩ := hea_read (.inl rfl) hb (b ++ X)
    have hl : (c :: T).length = (hea b.length 0).length + (b.length + X.length) := by rw [← hcT]; simp
    have hdr : (c :: T).drop (hea b.length 0).length = b ++ X := by rw [← hcT]; simp
    have hg : (c :: T).getD (hea b.length 0).length 0 = (b ++ X).getD 0 0 := by
      rw [← hcT, List.getD, List.getElem?_append_right (Nat.le_refl _), Nat.sub_self]
      rfl
    rw [e, List.append_assoc, hcT]
    rw [e, List.length_append] at hr
    unfold rdStep
    simp only [hh]
    rw [if_neg (by omega), if_neg (by omega), if_neg (by omega)]
    simp only [show decide ((0 : Nat) = 64) = false from rfl, if_true]
    rw [if_neg ?_, hdr, List.take_left' rfl, List.length_append]
    rintro ⟨h1, h2⟩
    rw [hg, getD_left _ _ (by omega)] at h2
    exact h ⟨h1, h2⟩
theorem rd_li (k : Fo) (d : Nat) (Y : List Nat) (room : Nat) (hl : (wrs k).length ≤ 1048576) (hr : (hea (wrs k).length 64).length + (wrs k).length ≤ room) (hk : lop (rd d) ((wrs k).length + 1) (wrs k ++ Y) (wrs k).length [] = .ok (rows k) 0) :
    rd (d + 1) (hea (wrs k).length 64 ++ (wrs k ++ Y)) room = .ok (⟨true, [], ((rows k).length : Int)⟩ :: rows k) ((hea (wrs k).length 64).length + (wrs k).length) := by
  obtain ⟨c, T, hcT, hc, hh⟩ := hea_read (.inr rfl) hl (wrs k ++ Y)
  have hll : (c :: T).length = (hea (wrs k).length 64).length + ((wrs k).length + Y.length) := by rw [← hcT]; simp
  have hdr : (c :: T).drop (hea (wrs k).length 64).length = wrs k ++ Y := by rw [← hcT]; simp
  rw [hcT, rd]
  unfold rdStep
  simp only [hh]
  rw [if_neg (by omega), if_neg (by omega), if_neg (by omega)]
  simp only [decide_true, Bool.true_eq_false, if_false]
  rw [hdr, hk]
theorem lop_rows : ∀ (F : Fo) (d : Nat) (X : List Nat) (acc : List Nd) (fuel : Nat), dps F ≤ d → (wrs F).length ≤ 1048576 → (wrs F).length < fuel → lop (rd d) fuel (wrs F ++ X) (wrs F).length acc = .ok (acc ++ rows F) 0
  | .no, d, X, acc, fuel + 1, _, _, _ => by simp [wrs, rows, lop]
  | .st b nx, d, X, acc, fuel + 1, hd, hl, hf => by
    have hw := ws_long b
    simp only [wrs, List.length_append] at hl hf
    have hb : b.length ≤ 1048576 := by
      have : b.length ≤ (ws b).length := by unfold ws; split <;> simp
      omega
    have h1 : rd d (ws b ++ (wrs nx ++ X)) ((ws b).length + (wrs nx).length) = .ok [⟨false, b, 0⟩] (ws b).length := by
      cases d with
      | zero => exact rd_str _ _ _ _ hb (by omega)
      | succ d => exact rd_str _ _ _ _ hb (by omega)
    have h2 := lop_rows nx d X (acc ++ [⟨false, b, 0⟩]) fuel (by simpa [dps] using hd) (by omega) (by omega)
    simp only [wrs, rows, List.length_append, List.append_assoc]
    rw [lop, if_neg (by omega), h1]
    simp only
    rw [List.drop_left' rfl, Nat.add_sub_cancel_left, h2, List.append_assoc]
    rfl
  | .li k nx, d, X, acc, fuel + 1, hd, hl, hf => by
    have hw := hea_long (wrs k).length 64
    simp only [wrs, List.length_append] at hl hf
    simp only [dps] at hd
    obtain ⟨d', rfl⟩ : ∃ d', d = d' + 1 := ⟨d - 1, by omega⟩
    have hk := lop_rows k d' (wrs nx ++ X) [] ((wrs k).length + 1) (by omega) (by omega) (by omega)
    have h1 := rd_li k d' (wrs nx ++ X) ((hea (wrs k).length 64).length + (wrs k).length + (wrs nx).length) (by omega) (by omega) hk
    have h2 := lop_rows nx (d' + 1) X (acc ++ (⟨true, [], ((rows k).length : Int)⟩ :: rows k)) fuel (by omega) (by omega) (by omega)
    simp only [wrs, rows, List.length_append, List.append_assoc]
    rw [lop, if_neg (by omega), ← Nat.add_assoc, h1]
    simp only
    rw [← List.append_assoc, List.drop_left' (by simp), Nat.add_sub_cancel_left, h2]
    simp
theorem rd_one {S : Fo} (h1 : One S) (d : Nat) (X : List Nat) (room : Nat) (hd : dps S ≤ d) (hl : (wrs S).length ≤ 1048576) (hr : (wrs S).length ≤ room) : rd d (wrs S ++ X) room = .ok (rows S) (wrs S).length := by
  cases S with
  | no => exact h1.elim
  | st b nx =>
    obtain rfl : nx = .no := h1
    simp only [wrs, List.append_nil] at hl hr ⊢
    have hb : b.length ≤ 1048576 := by
      have : b.length ≤ (ws b).length := by unfold ws; split <;> simp
      omega
    cases d with
    | zero => exact rd_str _ _ _ _ hb hr
    | succ d => exact rd_str _ _ _ _ hb hr
  | li k nx =>
    obtain rfl : nx = .no := h1
    simp only [wrs, List.append_nil, List.length_append] at hl hr ⊢
    simp only [dps] at hd
    obtain ⟨d', rfl⟩ : ∃ d', d = d' + 1 := ⟨d - 1, by omega⟩
    have hk := lop_rows k d' X [] ((wrs k).length + 1) (by omega) (by omega) (by omega)
    rw [List.append_assoc, rd_li k d' X room (by omega) hr hk]
    simp [rows]
theorem bval_ge : ∀ l : List Nat, l.getD 0 0 ≠ 0 → 256 ^ (l.length - 1) ≤ bval l := fun l => by
  refine snoc_ind (P := fun l => l.getD 0 0 ≠ 0 → 256 ^ (l.length - 1) ≤ bval l) (fun h => absurd rfl h) (fun l x ih => ?_) l
  intro h
  by_cases hl : l.length = 0
  · obtain rfl := List.length_eq_zero_iff.1 hl
    simp only [List.nil_append, List.getD_cons_zero] at h
    simp [bval]
    omega
  · rw [getD_left _ _ (by omega)] at h
    have := ih h
    rw [bval_snoc, List.length_append, List.length_singleton, Nat.add_sub_cancel, show l.length = (l.length - 1) + 1 by omega, Nat.pow_succ]
    omega
theorem hdp_sound {c : Nat} {T : List Nat} {ls : Bool} {u n : Nat} (h : hdp c T = .got ls u n) (hc : 128 ≤ c) (hc2 : c < 256) (hT : ∀ x ∈ T, x < 256) (hn : n < 1000000000) :
    hea n (if ls = true then 64 else 0) = (c :: T).take u ∧ u ≤ (c :: T).length := by
  unfold hdp at h
  simp only at h
  obtain ⟨m, c', hm, hc', hcm, hls⟩ : ∃ m c', (if 192 ≤ c then c - 64 else c) = c' ∧ c' < 192 ∧ c = c' + m ∧ (if decide (192 ≤ c) = true then 64 else 0) = m := by
    by_cases h192 : 192 ≤ c
    · exact ⟨64, c - 64, by rw [if_pos h192], by omega, by omega, by simp [h192]⟩
    · exact ⟨0, c, by rw [if_neg h192], by omega, by omega, by simp [h192]⟩
  rw [hm] at h
  have hc1 : 128 ≤ c' := by
    rw [← hm]
    split <;> omega
  split at h
  · rename_i h1
    cases h
    rw [hls]
    refine ⟨?_, by simp⟩
    rw [hea, if_pos (by omega), show 128 + m + (c' - 128) = c by omega]
    simp
  · rename_i h1
    split at h
    · cases h
    · rename_i h2
      split at h
      · cases h
      · rename_i h3
        split at h
        · cases h
        · rename_i h4
          cases h
          rw [hls]
          obtain ⟨k, hk⟩ : ∃ k, c' - 183 = k + 1 := ⟨c' - 184, by omega⟩
          rw [hk] at h2 h4 hn ⊢
          have hD : (T.take (k + 1)).length = k + 1 := by rw [List.length_take]; omega
          have hb : ∀ x ∈ T.take (k + 1), x < 256 := fun x hx => hT x (List.mem_of_mem_take hx)
          have hg : (T.take (k + 1)).getD 0 0 ≠ 0 := by
            cases T with
            | nil => simp at h2
            | cons y T => simpa using h3
          have hv : cval (T.take (k + 1)) = bval (T.take (k + 1)) := by
            have := cval_bval (T.take (k + 1))
            omega
          rw [hv] at h4 ⊢
          have g1 := bval_ge _ hg
          have g2 := bval_lt _ hb
          have g3 := bdig_bval _ hb
          rw [hD] at g1 g2 g3
          have hnb : nbl (bval (T.take (k + 1))) = k + 1 := nbl_of (by simpa using g1) g2
          refine ⟨?_, by simp; omega⟩
          rw [hea, if_neg h4, hnb, g3, show 183 + m + (k + 1) = c by omega, Nat.add_comm 1 (k + 1), List.take_succ_cons]
/-- What an item that was read is. -/
def Was (d : Nat) (R : List Nat) (room : Nat) (l : List Nd) (u : Nat) : Prop := ∃ S, One S ∧ rows S = l ∧ dps S ≤ d ∧ u ≤ room ∧ u = (wrs S).length ∧ ∃ X, R = wrs S ++ X
theorem lop_sound {one : List Nat → Nat → Res} {d : Nat} {R0 : Nat} (h1 : ∀ R room l u, (∀ x ∈ R, x < 256) → R.length ≤ R0 → 0 < room → one R room = .ok l u → Was d R room l u) :
    ∀ (fuel : Nat) (R : List Nat) (room : Nat) (acc l : List Nd) (u : Nat), (∀ x ∈ R, x < 256) → R.length ≤ R0 → lop one fuel R room acc = .ok l u → ∃ F X, l = acc ++ rows F ∧ R = wrs F ++ X ∧ (wrs F).length = room ∧ dps F ≤ d
  | 0, _, _, _, _, _, _, _, h => by simp [lop] at h
  | fuel + 1, R, room, acc, l, u, hR, hl, h => by
    rw [lop] at h
    by_cases h0 : room = 0
    · rw [if_pos h0] at h
      cases h
      exact ⟨.no, R, by simp [rows], by simp [wrs], by simp [wrs, h0], by simp [dps]⟩
    · rw [if_neg h0] at h
      cases ho : one R room with
      | err e => rw [ho] at h; cases h
      | ok l1 u1 =>
        rw [ho] at h
        simp only at h
        obtain ⟨S, hS1, rfl, hS2, hu, rfl, X, rfl⟩ := h1 R room l1 u1 hR hl (by omega) ho
        rw [List.drop_left' rfl] at h
        obtain ⟨F, Y, rfl, rfl, hlen, hd⟩ := lop_sound h1 fuel X _ _ l u (fun x hx => hR x (by simp [hx])) (by simp at hl; omega) h
        cases S with
        | no => exact hS1.elim
        | st b nx =>
          obtain rfl : nx = .no := hS1
          refine ⟨.st b F, Y, by simp [rows], by simp [wrs], ?_, by simpa [dps] using hd⟩
          simp [wrs] at hlen hu ⊢
          omega
        | li k nx =>
          obtain rfl : nx = .no := hS1
          refine ⟨.li k F, Y, by simp [rows], by simp [wrs], ?_, ?_⟩
          · simp [wrs] at hlen hu ⊢
            omega
          · simp [dps] at hS2 ⊢
            omega
theorem rd_sound : ∀ (d : Nat) (R : List Nat) (room : Nat) (l : List Nd) (u : Nat), (∀ x ∈ R, x < 256) → R.length ≤ 1048576 → 0 < room → rd d R room = .ok l u → Was d R room l u := by
  have key : ∀ (d : Nat) (sub : Option (List Nat → Nat → Res)), (∀ one, sub = some one → ∃ e, d = e + 1 ∧ ∀ R room l u, (∀ x ∈ R, x < 256) → R.length ≤ 1048576 → 0 < room → one R room = .ok l u → Was e R room l u) →
      ∀ (R : List Nat) (room : Nat) (l : List Nd) (u : Nat), (∀ x ∈ R, x < 256) → R.length ≤ 1048576 → 0 < room → rdStep sub R room = .ok l u → Was d R room l u := by
    intro d sub hsub R room l u hR hl hr h
    cases R with
    | nil => cases h
    | cons c T =>
      unfold rdStep at h
      simp only at h
      have hc2 : c < 256 := hR c (by simp)
      by_cases hc : c < 128
      · rw [if_pos hc] at h
        cases h
        have hw : ws [c] = [c] := by simp [ws, hc]
        exact ⟨.st [c] .no, rfl, rfl, Nat.zero_le _, hr, by simp [wrs, hw], T, by simp [wrs, hw]⟩
      · rw [if_neg hc] at h
        cases hh : hdp c T with
        | bad e => rw [hh] at h; cases h
        | got ls v n =>
          rw [hh] at h
          simp only at h
          split at h
          · cases h
          · rename_i h1
            split at h
            · cases h
            · rename_i h2
              have hT : ∀ x ∈ T, x < 256 := fun x hx => hR x (by simp [hx])
              obtain ⟨he, hv⟩ := hdp_sound hh (by omega) hc2 hT (by omega)
              have hlen : (hea n (if ls = true then 64 else 0)).length = v := by rw [he, List.length_take]; omega
              have hsplit : (c :: T) = hea n (if ls = true then 64 else 0) ++ (c :: T).drop v := by rw [he, List.take_append_drop]
              have hn : n ≤ ((c :: T).drop v).length := by rw [List.length_drop]; omega
              split at h
              · rename_i hf
                subst hf
                split at h
                · cases h
                · rename_i h3
                  cases h
                  obtain ⟨b, hb⟩ : ∃ b, ((c :: T).drop v).take n = b := ⟨_, rfl⟩
                  have hbl : b.length = n := by rw [← hb, List.length_take]; omega
                  have hw : ws b = hea n 0 ++ b := by
                    rw [ws, if_neg ?_, hbl]
                    rintro ⟨q1, q2⟩
                    refine h3 ⟨by omega, ?_⟩
                    rw [← hb] at q2
                    have e1 : (c :: T).getD v 0 = ((c :: T).drop v).getD 0 0 := by simp [List.getD]
                    rw [e1]
                    cases hx : (c :: T).drop v with
                    | nil => rw [hx] at hn; simp at hn; omega
                    | cons y Y =>
                      rw [hx, show n = 0 + 1 by omega] at q2
                      simpa using q2
                  rw [hb]
                  refine ⟨.st b .no, rfl, rfl, Nat.zero_le _, by omega, ?_, ((c :: T).drop v).drop n, ?_⟩
                  · simp only [wrs, hw, List.append_nil, List.length_append]
                    simp only [Bool.false_eq_true, if_false] at hlen
                    omega
                  · simp only [wrs, hw, List.append_nil, List.append_assoc]
                    rw [← hb, List.take_append_drop]
                    exact hsplit
              · rename_i hf
                have hls : ls = true := by
                  cases ls with
                  | true => rfl
                  | false => exact absurd rfl hf
                subst hls
                cases sub with
                | none => cases h
                | some one =>
                  obtain ⟨e, rfl, hone⟩ := hsub one rfl
                  simp only at h
                  cases hlop : lop one (n + 1) ((c :: T).drop v) n [] with
                  | err x => rw [hlop] at h; cases h
                  | ok l1 u1 =>
                    rw [hlop] at h
                    cases h
                    obtain ⟨F, X, rfl, hX, hF, hd⟩ := lop_sound hone (n + 1) _ n [] l1 u1 (fun x hx => hR x (List.mem_of_mem_drop hx)) (by rw [List.length_drop]; omega) hlop
                    refine ⟨.li F .no, rfl, by simp [rows], ?_, by omega, ?_, X, ?_⟩
                    · simp [dps]; omega
                    · simp only [if_true] at hlen
                      simp only [wrs, List.append_nil, List.length_append, hF]
                      omega
                    · simp only [wrs, List.append_nil, hF, List.append_assoc]
                      rw [← hX]
                      simpa using hsplit
  intro d
  induction d with
  | zero => exact key 0 none (fun one h => by cases h)
  | succ d ih => exact key (d + 1) (some (rd d)) (fun one h => by cases h; exact ⟨d, rfl, ih⟩)
/-- What decoding answers: the row, or an error. -/
def dec (R : List Nat) : Res := if 1048576 < R.length then .err 4 else match rd 64 R R.length with
  | .err e => .err e
  | .ok l u => if u < R.length then .err 2 else .ok l u
theorem dec_wrs {S : Fo} (h1 : One S) (hd : dps S ≤ 64) (hl : (wrs S).length ≤ 1048576) : dec (wrs S) = .ok (rows S) (wrs S).length := by
  have h := rd_one h1 64 [] (wrs S).length hd hl (Nat.le_refl _)
  rw [List.append_nil] at h
  rw [dec, if_neg (by omega), h]
  simp only
  rw [if_neg (by omega)]
theorem dec_sound {R : List Nat} {l : List Nd} {u : Nat} (hR : ∀ x ∈ R, x < 256) (h : dec R = .ok l u) : ∃ S, One S ∧ rows S = l ∧ dps S ≤ 64 ∧ wrs S = R := by
  unfold dec at h
  split at h
  · cases h
  · rename_i h1
    cases hr : rd 64 R R.length with
    | err e => rw [hr] at h; cases h
    | ok l1 u1 =>
      rw [hr] at h
      simp only at h
      split at h
      · cases h
      · rename_i h2
        cases h
        have hp : 0 < R.length := by
          cases R with
          | nil => cases hr
          | cons _ _ => simp
        obtain ⟨S, hS, rfl, hd, hu, rfl, X, rfl⟩ := rd_sound 64 R R.length l u hR (by omega) hp hr
        have : X = [] := by
          rw [List.length_append] at h2
          exact List.length_eq_zero_iff.1 (by omega)
        subst this
        exact ⟨S, hS, rfl, hd, by simp⟩
end Go.Proofs.Ytfpeliolngfkpaa.SmWord
