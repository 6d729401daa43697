/-
  Drawn sets (mk.Slots).
-/
import Derived.Test.YtjkbjbikofindaaRDrp
namespace Go.Proofs.Ytjkbjbikofindaa
open Go.RowKit
set_option maxRecDepth 100000
set_option linter.unusedVariables false

theorem putS_len (f t s : Int) : ∀ L : List SetR, (putS f t s L).length ≤ L.length + 1
  | [] => by simp [putS]
  | x :: l => by
    have ih := putS_len f t s l
    unfold putS
    by_cases h : bef x.fr x.tg f t
    · rw [if_pos h]; simp; omega
    · rw [if_neg h]
      by_cases h2 : bef f t x.fr x.tg
      · rw [if_pos h2]; simp
      · rw [if_neg h2]; simp
theorem putS_cnt (f t s : Int) : ∀ L : List SetR, cntT (putS f t s L) ≤ cntT L + 1
  | [] => by simp [putS, cntT]
  | x :: l => by
    have ih := putS_cnt f t s l
    unfold putS
    by_cases h : bef x.fr x.tg f t
    · rw [if_pos h]; simp only [cntT, List.map_cons, List.sum_cons] at ih ⊢; omega
    · rw [if_neg h]
      by_cases h2 : bef f t x.fr x.tg
      · rw [if_pos h2]; simp only [cntT, List.map_cons, List.sum_cons, List.length_cons, List.length_nil]; omega
      · rw [if_neg h2]
        have := (withL_len s x.sl).2
        simp only [cntT, List.map_cons, List.sum_cons]; omega
theorem sl_le {L : List SetR} {x : SetR} (h : x ∈ L) : x.sl.length ≤ cntT L := by
  induction L with
  | nil => simp at h
  | cons y L ih =>
    simp only [cntT, List.map_cons, List.sum_cons] at ih ⊢
    rcases List.mem_cons.1 h with rfl | h
    · omega
    · have := ih h; omega
theorem TOwn.tin {w : World} {base lo : Nat} {A : Option Addr} {c : Nat} {L : List SetR} (h : TOwn w base lo (.slice A L.length c) L) : TIn w lo A L := fun j x hj => by
  obtain ⟨g, cap, A', c', e, hl, _, _, _, h2, hS⟩ := h.at_ hj
  injection e with e1 e2 e3
  exact ⟨g, 0, A', c', e1, hl, by rw [Nat.zero_add]; exact h2, hS⟩
/-- A deck has been asked: the sets stay. -/
theorem TOwn.turn {w w' : World} {base dk : Nat} {v : Value} {L : List SetR} (h : TOwn w base 0 v L) (hd : DeckP w dk) (hg : w.grownBy w' (some dk)) : TOwn w' base 0 v L := by
  obtain ⟨A, n, c, p, hb, _⟩ := hd
  obtain ⟨h0, vs, h1, h2⟩ := h
  refine ⟨h0, vs, ownsRow_keep h1 fun g hg1 _ hl => hg.block g hl (fun e => ?_), h2.mono fun A c S hs => hs.inn fun b hb' hl' => hg.block b hl' (fun e => ?_)⟩
  · injection e with e
    subst e
    obtain ⟨cur, hh, _⟩ := row_t h1 hg1
    rw [show w.heap[g]? = _ from hb] at hh
    injection hh with hh
    injection hh with _ hh _
    exact absurd hh (by decide)
  · injection e with e
    subst e
    rcases hb' with hb' | ⟨cur, z, hb'⟩
    · omega
    · rw [show w.heap[b]? = _ from hb] at hb'
      injection hb' with hb'
      injection hb' with _ hb' _
      exact absurd hb' (by decide)
def SlotsOf (dk : Nat) (w : World) (e : Ending) (w' : World) : Prop :=
  ∃ v L, e = .returned v ∧ ValS L ∧ L.length ≤ 20 ∧ cntT L ≤ 20 ∧ TOwn w' w.heap.size 0 v L ∧ DeckP w' dk ∧ w.grownBy w' (some dk)

set_option maxHeartbeats 4000000 in
theorem slots_any (dk : Nat) (w : World) (hd : DeckP w dk) : Calls Try.prog 10 #[.pointer (some ⟨dk, 0, none⟩)] w (SlotsOf dk w) := by
  have HD := Lib.hid hd
  have hlt := hd.lt
  clear hd
  go_enter Try.func10, Try.ntmps10
  go_wp2_with fail
  refine (next_any dk 20 w (by omega) (by omega) HD.out).mono ?_
  rintro e V ⟨k0, rfl, a0, a1, hD, hG⟩
  have HD1 := Lib.hid hD
  have HG1 := Lib.hid hG
  clear hD hG
  go_wp2_with fail
  go_loopw [3, 4] (fun v k wr => ∃ (t : Nat) (L : List SetR), k = .int .i64 t ∧ L.length + t ≤ 20 ∧ cntT L + t ≤ 20 ∧ ValS L ∧ TOwn wr w.heap.size 0 v L ∧ DeckP wr dk ∧ w.grownBy wr (some dk)) (fun _ k _ => (intOf k).toNat)
  case atStart => exact ⟨k0.toNat, [], by rw [Int.toNat_of_nonneg a0], by simp; omega, by simp [cntT]; omega, ValS.nil, TOwn.nil _ (by omega), HD1.out, HG1.out⟩
  case round =>
    obtain ⟨t, L, rfl, hl, hc, hv, ht, hd, hg⟩ := hrel
    have HV := Lib.hid hv
    have HT := Lib.hid ht
    have HDR := Lib.hid hd
    have HGR := Lib.hid hg
    clear hv ht hd hg
    by_cases hlt2 : 0 < t
    · have hlt3 : (0 : Int) < (t : Int) := by omega
      have hw1 : IntKind.i64.wrap ((t : Int) - 1) = ((t - 1 : Nat) : Int) := by rw [IntWalk.i64_in _ (by omega)]; omega
      obtain ⟨A1, c1, rfl, hcm, hcl⟩ := HT.out.len
      go_wp2_with fail
      refine (next_any dk 6 wr (by omega) (by omega) HDR.out).mono ?_
      rintro e W1 ⟨f, rfl, b0, b1, hD, hG⟩
      have HD2 := Lib.hid hD
      have HT2 := Lib.hid (HT.out.turn HDR.out hG)
      have HG2 := Lib.hid (turn_trans HGR.out hG)
      clear hD hG
      go_wp2_with fail
      refine (next_any dk 6 W1 (by omega) (by omega) HD2.out).mono ?_
      rintro e W2 ⟨g, rfl, d0, d1, hD, hG⟩
      have HD3 := Lib.hid hD
      have HT3 := Lib.hid (HT2.out.turn HD2.out hG)
      have HG3 := Lib.hid (turn_trans HG2.out hG)
      clear hD hG
      go_wp2_with fail
      refine (next_any dk 40 W2 (by omega) (by omega) HD3.out).mono ?_
      rintro e W3 ⟨s, rfl, e0, e1, hD, hG⟩
      have HD4 := Lib.hid hD
      have HT4 := Lib.hid (HT3.out.turn HD3.out hG)
      have HG4 := Lib.hid (turn_trans HG3.out hG)
      clear hD hG
      have HTA := Lib.hid (show TArr W3 (Lt W3.heap.size) A1 c1 L by obtain ⟨A', c', e, h⟩ := HT4.out.tarr; injection e with e1 _ e3; subst e1 e3; exact h)
      go_wp2_with fail
      refine (putX_any A1 c1 L f g s 0 W3 (by omega) HTA.out HT4.out.tin (by omega) (fun x hx => by have := sl_le hx; omega)).mono ?_
      rintro e W4 ⟨v4, rfl, ht4, hb4⟩
      have hp1 := putS_len f g s L
      have hp2 := putS_cnt f g s L
      have HV4 := Lib.hid (putS_ok (f := f) (t := g) (s := s) ⟨b0, by omega⟩ ⟨d0, by omega⟩ e0 HV.out)
      have HT5 := Lib.hid (ht4.lower (base' := w.heap.size) HG4.out.size (by omega))
      have HD5 := Lib.hid (HD4.out.next hb4)
      have HG5 := Lib.hid (turn_next HG4.out hb4)
      clear ht4 hb4
      go_wp2_with fail
      exact ⟨⟨t - 1, putS f g s L, by go_num, by omega, by omega, HV4.out, HT5.out, HD5.out, HG5.out⟩, by simp [intOf]; omega⟩
    · have hlt3 : ¬ (0 : Int) < (t : Int) := by omega
      go_wp2_with fail
      go_ret
      exact ⟨_, L, rfl, HV.out, by omega, by omega, HT.out, HDR.out, HGR.out⟩
end Go.Proofs.Ytjkbjbikofindaa
