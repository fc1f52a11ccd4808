/- What the document's Part, Length, top and digits do. -/
import Derived.Test.YtflpdlpfclbcgaaGa
namespace Go.Proofs.Ytflpdlpfclbcgaa
open Go.RowKit SmWord
set_option maxRecDepth 100000

set_option maxHeartbeats 1000000 in
theorem rpart_walk (A : Option Addr) (n c at' m : Nat) (f : Nat → Nat) (w : World) (hn : n ≤ 100000) (hm : m ≤ 1000) (ha : at' ≤ 2000000000000) (hs : Sl w A n f) :
    Calls Try.prog 21 #[.slice A n c, .int .i64 (at' : Int), .int .i64 (m : Int)] w (RetB m (pf f n at') w) := by
  have hpf : ∀ i, pf f n at' i < 256 := pf_lt hs.small at'
  go_enter Try.func21, Try.ntmps21
  go_wp2_with fail
  go_loopw [7, 8] (fun v i wr => ∃ k : Nat, k ≤ m ∧ i = .int .i64 (k : Int) ∧ wr.ownsRow w.heap.size 5 1 v k (bb (pf f n at') k) ∧ Below w.heap.size w wr) (fun _ i _ => m - (intOf i).toNat)
  case atStart => exact ⟨0, Nat.zero_le _, rfl, ⟨rfl, .inr ⟨w.heap.size, 0, #[], rfl, Nat.le_refl _, heap_alloc_new _ _, Nat.le_refl _, Nat.zero_le _, rfl, rfl⟩⟩, (Below.refl _ _).alloc (Nat.le_refl _) _⟩
  case round =>
    obtain ⟨k, hk, rfl, hown, bW⟩ := hrel
    by_cases hlt : k < m
    · have hb : bb (pf f n at') k ++ [.int .u8 ((pf f n at' k : Nat) : Int)] = bb (pf f n at') (k + 1) := by simp [bb, List.range_succ]
      have HB := Lib.hid hb
      have hp := hpf k
      clear hb
      by_cases hin : at' + k < n
      · obtain ⟨b, off, rfl, hbl, hc⟩ := (hs.below bW).cells (by omega)
        have c1 := hc (at' + k) hin
        have hpk : pf f n at' k = f (at' + k) := if_pos hin
        rw [hpk] at HB hp
        have e1 : (at' : Int) + (k : Int) = ((at' + k : Nat) : Int) := by omega
        have hw : IntKind.u8.wrap ((f (at' + k) : Nat) : Int) = ((f (at' + k) : Nat) : Int) := by rw [IntKind.wrap_u8]; omega
        have hq : at' + k ≤ 100000 := by omega
        have HPF := Lib.hid hpf
        have HS := Lib.hid hs
        clear hc hs hpk hpf
        generalize at' + k = j at *
        go_wp2_with (at_builtin; refine append_one rfl _ _ rfl w.heap.size _ k _ rfl (hown.alloc _) ⟨wr.heap.size, 0, none⟩ ((f j : Nat) : Int) rfl (one_new _ _ _) (by omega) (by have := bW.size; simp; omega) ?_)
        intro v' w3 hown' hgrow
        rw [HB.out] at hown'
        have hr := fun g hg => (hown.lt g hg).1
        have hsz := bW.size
        have bX : Below w.heap.size w w3 := (bW.alloc (o := .cells #[.int .u8 ((f j : Nat) : Int)] 5) hsz).grown hgrow (by simp; omega) (fun g hg => hr g hg)
        clear hown hgrow bW hr
        go_wp2_with fail
        exact ⟨⟨k + 1, by omega, by go_num, hown', bX⟩, by simp only [intOf]; omega⟩
      · have hpk : pf f n at' k = 0 := if_neg hin
        rw [hpk] at HB
        have HPF := Lib.hid hpf
        have HS := Lib.hid hs
        have e1 : (at' : Int) + (k : Int) = ((at' + k : Nat) : Int) := by omega
        have hq : at' + k ≤ 2000000001000 := by omega
        clear hs hpk hpf hp
        generalize at' + k = j at *
        go_wp2_with (at_builtin; refine append_one rfl _ _ rfl w.heap.size _ k _ rfl (hown.alloc _) ⟨wr.heap.size, 0, none⟩ 0 rfl (one_new _ _ _) (by omega) (by have := bW.size; simp; omega) ?_)
        intro v' w3 hown' hgrow
        replace hown' := HB.out ▸ hown'
        have hr := fun g hg => (hown.lt g hg).1
        have hsz := bW.size
        have bX : Below w.heap.size w w3 := (bW.alloc (o := .cells #[.int .u8 0] 5) hsz).grown hgrow (by simp; omega) (fun g hg => hr g hg)
        clear hown hgrow bW hr
        go_wp2_with fail
        exact ⟨⟨k + 1, by omega, by go_num, hown', bX⟩, by simp only [intOf]; omega⟩
    · obtain rfl : k = m := by omega
      go_wp2_with fail
      go_ret
      obtain ⟨A', c', e, hc', hn', hsl⟩ := own_sl hown (fun i _ => hpf i)
      exact ⟨A', c', by rw [e]; rfl, hc', hn', hsl, bW⟩
end Go.Proofs.Ytflpdlpfclbcgaa
