/-
  The walk of BeltFifo.
-/
import Derived.Test.YtkknmphigpcjjaaQwnt
import Derived.Test.YtkknmphigpcjjaaQaw
import Derived.BigQuiet
import Derived.Deep.QuietTactic
import Derived.Deep.DeepCutAuto
import Derived.Deep.CutBlock
namespace Go.Proofs.Ytkknmphigpcjjaa
open Go.RowKit
set_option maxRecDepth 100000
set_option linter.unusedVariables false

def SomeBl (e : Ending) : Prop := ∃ b, e = .returned (.bool b)
theorem few11_any (A : Option Addr) (n c : Nat) (w : World) : Calls Try.prog 24 #[.slice A n c] w fun e w' => SomeBl e ∧ w = w' := by
  by_cases h : (n : Int) ≤ 400
  · go_enter Try.func24, Try.ntmps24
    go_wp2
    go_ret
    exact ⟨⟨_, rfl⟩, rfl⟩
  · go_enter Try.func24, Try.ntmps24
    go_wp2
    go_ret
    exact ⟨⟨_, rfl⟩, rfl⟩
theorem left11_any (dk : Nat) (w : World) (hd : DeckP w dk) : Calls Try.prog 25 #[.pointer (some ⟨dk, 0, none⟩)] w fun e w' => SomeBl e ∧ Below w.heap.size w w' := by
  obtain ⟨A, m, c, p, hb, hp0, hmc, hcm, hl⟩ := hd
  have q0 := hb.cell 0
  have q1 := hb.cell 1
  simp at q0 q1
  by_cases hp : (p : Int) < (m : Int)
  · go_enter Try.func25, Try.ntmps25
    go_wp2_with fail
    go_quiet (fail)
    go_wp2_with fail
    go_ret
    exact ⟨⟨_, rfl⟩, below_drewN (Below.refl _ w) nq⟩
  · go_enter Try.func25, Try.ntmps25
    go_wp2_with fail
    go_quiet (fail)
    go_wp2_with fail
    go_ret
    exact ⟨⟨_, rfl⟩, below_drewN (Below.refl _ w) nq⟩

/-- No two increments have the same number; none has a greater one than z. -/
def UQ (Q : List (List IncR)) : Prop := ∀ (b k b' k' : Nat) (q q' : List IncR) (i i' : IncR), Q[b]? = some q → q[k]? = some i → Q[b']? = some q' → q'[k']? = some i' → i.sq = i'.sq → b = b' ∧ k = k'
def LeQ (Q : List (List IncR)) (z : Int) : Prop := ∀ q ∈ Q, ∀ i ∈ q, i.sq ≤ z
theorem set_get {Q : List (List IncR)} {b j : Nat} {x q : List IncR} (h : (Q.set b x)[j]? = some q) : (j = b ∧ q = x) ∨ (j ≠ b ∧ Q[j]? = some q) := by
  by_cases e : j = b
  · subst e
    have := get_lt h
    simp at this
    rw [List.getElem?_set_self this] at h
    injection h with h
    exact .inl ⟨rfl, h.symm⟩
  · rw [List.getElem?_set_ne (fun x => e x.symm)] at h
    exact .inr ⟨e, h⟩
theorem uq_tail {Q : List (List IncR)} {b : Nat} {i : IncR} {q : List IncR} (h : UQ Q) (hb : Q[b]? = some (i :: q)) : UQ (Q.set b q) := by
  have key : ∀ (j k : Nat) (x : List IncR) (y : IncR), (Q.set b q)[j]? = some x → x[k]? = some y → ∃ x', Q[j]? = some x' ∧ x'[if j = b then k + 1 else k]? = some y := by
    intro j k x y hj hk
    rcases set_get hj with ⟨rfl, rfl⟩ | ⟨e, hj⟩
    · exact ⟨_, hb, by rw [if_pos rfl]; simpa using hk⟩
    · exact ⟨_, hj, by rw [if_neg e]; exact hk⟩
  intro j k j' k' x x' y y' h1 h2 h3 h4 h5
  obtain ⟨_, a1, a2⟩ := key j k x y h1 h2
  obtain ⟨_, b1, b2⟩ := key j' k' x' y' h3 h4
  obtain ⟨e1, e2⟩ := h _ _ _ _ _ _ _ _ a1 a2 b1 b2 h5
  subst e1
  refine ⟨rfl, ?_⟩
  split at e2 <;> omega
theorem uq_add {Q : List (List IncR)} {b : Nat} {q : List IncR} {i : IncR} {z : Int} (h : UQ Q) (hl : LeQ Q z) (hb : Q[b]? = some q) (hz : z < i.sq) : UQ (Q.set b (q ++ [i])) := by
  have key : ∀ (j k : Nat) (x : List IncR) (y : IncR), (Q.set b (q ++ [i]))[j]? = some x → x[k]? = some y → (∃ x', Q[j]? = some x' ∧ x'[k]? = some y) ∨ (j = b ∧ k = q.length ∧ y = i) := by
    intro j k x y hj hk
    rcases set_get hj with ⟨rfl, rfl⟩ | ⟨e, hj⟩
    · rcases (by have := get_lt hk; simp at this; omega : k < q.length ∨ k = q.length) with e | e
      · rw [List.getElem?_append_left e] at hk
        exact .inl ⟨_, hb, hk⟩
      · subst e
        rw [List.getElem?_append_right (Nat.le_refl _), Nat.sub_self] at hk
        simp at hk
        exact .inr ⟨rfl, rfl, hk.symm⟩
    · exact .inl ⟨_, hj, hk⟩
  have low : ∀ (j k : Nat) (x : List IncR) (y : IncR), Q[j]? = some x → x[k]? = some y → y.sq ≤ z := fun j k x y h1 h2 => hl x (List.mem_iff_getElem?.2 ⟨j, h1⟩) y (List.mem_iff_getElem?.2 ⟨k, h2⟩)
  intro j k j' k' x x' y y' h1 h2 h3 h4 h5
  rcases key j k x y h1 h2 with ⟨_, a1, a2⟩ | ⟨a1, a2, a3⟩
  · rcases key j' k' x' y' h3 h4 with ⟨_, b1, b2⟩ | ⟨b1, b2, b3⟩
    · exact h _ _ _ _ _ _ _ _ a1 a2 b1 b2 h5
    · have := low _ _ _ _ a1 a2
      rw [b3] at h5
      omega
  · rcases key j' k' x' y' h3 h4 with ⟨_, b1, b2⟩ | ⟨b1, b2, b3⟩
    · have := low _ _ _ _ b1 b2
      rw [a3] at h5
      omega
    · exact ⟨by omega, by omega⟩
theorem leQ_set {Q : List (List IncR)} {b : Nat} {x : List IncR} {z z' : Int} (h : LeQ Q z) (hz : z ≤ z') (hx : ∀ i ∈ x, i.sq ≤ z') : LeQ (Q.set b x) z' := by
  intro q hq i hi
  rcases List.mem_or_eq_of_mem_set hq with h1 | h1
  · have := h q h1 i hi; omega
  · subst h1; exact hx i hi

/-- At the head of the law's loop, and behind its 'if'. -/
def FifoP (w : World) (dk gw K t : Nat) (q sv : Value) (wr : World) : Prop :=
  ∃ (z : Int) (QA : Option Addr) (QC lo hi : Nat) (Q : List (List IncR)), q = .slice QA K QC ∧ sv = .int .i64 z ∧ 0 ≤ z ∧ z ≤ 4 * (t : Int) ∧ Q.length = K ∧ QArr wr (Rng lo hi) QA QC Q ∧ Wnt wr gw (fun x => x < lo ∨ hi ≤ x) Q ∧ (gw < lo ∨ hi ≤ gw) ∧ hi ≤ wr.heap.size ∧
    DeckP wr dk ∧ dk < lo ∧ UQ Q ∧ LeQ Q z ∧ (∀ q ∈ Q, q.length ≤ t) ∧ Below w.heap.size w wr ∧ dk < gw ∧ w.heap.size ≤ dk
theorem FifoP.turn {w wr wr' : World} {dk gw K t : Nat} {q sv : Value} (h : FifoP w dk gw K t q sv wr) (hD : DeckP wr' dk) (hG : wr.grownBy wr' (some dk)) : FifoP w dk gw K t q sv wr' := by
  obtain ⟨z, QA, QC, lo, hi, Q, h1, h2, h3, h4, h5, h6, h7, h8, h9, h10, h11, h12, h13, h14, h15, h16, h17⟩ := h
  refine ⟨z, QA, QC, lo, hi, Q, h1, h2, h3, h4, h5, h6.keep fun b o hp => ?_, h7.keep hG.size (fun g hg hl => hG.block g hl (by intro e; injection e with e; omega)) (fun _ _ h => h), h8, Nat.le_trans h9 hG.size, hD, h11, h12, h13, h14, ?_, h16, h17⟩
  · exact World.cell?_of_block (a := ⟨b, o, none⟩) (hG.block b (Nat.lt_of_lt_of_le hp.2 h9) (by intro e; injection e with e; have := hp.1; omega))
  · exact ⟨hG.os.trans h15.os, hG.tape.trans h15.tape, hG.output.trans h15.output, Nat.le_trans h15.size hG.size, fun i hi => (hG.block i (Nat.lt_of_lt_of_le hi h15.size) (by intro e; injection e with e; omega)).trans (h15.block i hi)⟩
theorem FifoP.next {w wr wr' : World} {dk gw K t : Nat} {q sv : Value} (h : FifoP w dk gw K t q sv wr) (hb : Below wr.heap.size wr wr') : FifoP w dk gw K t q sv wr' :=
  h.turn (by obtain ⟨_, _, _, _, _, _, _, _, _, _, _, _, _, _, _, h10, _⟩ := h; exact h10.next hb) ⟨hb.os, hb.tape, hb.output, hb.size, fun k hk _ => hb.block k hk⟩
theorem FifoP.deck {w wr : World} {dk gw K t : Nat} {q sv : Value} (h : FifoP w dk gw K t q sv wr) : DeckP wr dk := by
  obtain ⟨_, _, _, _, _, _, _, _, _, _, _, _, _, _, _, h10, _⟩ := h; exact h10
theorem FifoP.below {w wr : World} {dk gw K t : Nat} {q sv : Value} (h : FifoP w dk gw K t q sv wr) : Below w.heap.size w wr := by
  obtain ⟨_, _, _, _, _, _, _, _, _, _, _, _, _, _, _, _, _, _, _, _, h15, _⟩ := h; exact h15

theorem wnts_info : (Try.prog.info? 27).map (fun i => (i.zero, i.size, i.bytes)) = some (some (.slice none 0 0), 1, 24) := by kernel_rfl

theorem Wnt.made {w : World} {B g K : Nat} {P : Nat → Prop} (h : w.ownsRow B 27 1 (.slice (some ⟨g, 0, none⟩) K K) K (List.replicate K (.slice none 0 0))) : Wnt w g P (List.replicate K []) := by
  obtain ⟨hl, ⟨e, _⟩ | ⟨g', cap, cur, e, hb, hg, hc, hm, hs, htk⟩⟩ := h
  · cases e
  · injection e with e1 e2 e3
    injection e1 with e1
    injection e1 with e1 _ _
    subst e1 e3
    refine ⟨cur, hg, by simpa using hs, fun _ => none, fun _ => 0, fun j q hj => ?_, fun i j x _ _ _ h => by simp [blkO] at h⟩
    rw [List.getElem?_replicate] at hj
    split at hj
    · rename_i hjl
      injection hj with hj
      subst hj
      refine ⟨?_, WRow.nil _, fun x hx => by simp [blkO] at hx⟩
      have e : (List.replicate K (Value.slice none 0 0))[j]? = some (.slice none 0 0) := by rw [List.getElem?_replicate, if_pos hjl]
      rw [← htk, List.getElem?_take, if_pos (by omega)] at e
      simpa using e
    · cases hj

set_option maxHeartbeats 40000000 in
theorem walkLFifo (Al : Option Addr) (nl cl : Nat) (n : Int) (w : World) (hL : ListP w w.heap.size Al nl cl) (n0 : -9223372036854775808 ≤ n) (n1 : n ≤ 9223372036854775807) :
    Calls Try.prog 4 #[.slice Al nl cl, .int .i64 n] w fun e w' => e = .returned (.bool true) ∧ Below w.heap.size w w' := by
  obtain ⟨i0, hi0, hz0, hz1, hz2⟩ := info_parts int_info
  obtain ⟨j0, hj0, hy0, hy1, hy2⟩ := info_parts rows_info
  obtain ⟨m0, hm0, hx0, hx1, hx2⟩ := info_parts wnts_info
  have HL := Lib.hid hL
  clear hL
  go_enter Try.func4, Try.ntmps4
  go_wp2_with fail
  refine (few11_any Al nl cl w).mono ?_
  rintro e w1 ⟨⟨fb, rfl⟩, rfl⟩
  cases fb with
  | false =>
    go_wp2_with fail
    refine (awake11_any w).mono ?_
    rintro e w2 ⟨rfl, hb⟩
    have HB := Lib.hid hb
    clear hb
    go_wp2
    go_ret
    exact ⟨rfl, HB.out⟩
  | true =>
    go_wp2_with fail
    refine (deck_any Al nl cl w HL.out).mono ?_
    rintro e U ⟨rfl, hd, hb, hz⟩
    have HDK := Lib.hid hd
    have HBU := Lib.hid hb
    have HZU := Lib.hid hz
    clear hd hb hz
    go_wp2_with fail
    refine (mod_any n 4 (by omega) (by omega) n0 n1 U).mono ?_
    rintro e U' ⟨rfl, rfl⟩
    have hm1 := Int.emod_nonneg n (show (4 : Int) ≠ 0 by omega)
    have hm2 := Int.emod_lt_of_pos n (show (0 : Int) < 4 by omega)
    obtain ⟨K, hK⟩ : ∃ K : Nat, 1 + n % 4 = K := ⟨(1 + n % 4).toNat, by omega⟩
    have hwK : IntKind.i64.wrap (1 + n % 4) = (K : Int) := by rw [IntWalk.i64_in _ (by omega)]; exact hK
    have hK1 : 1 ≤ K := by omega
    have hK4 : K ≤ 4 := by omega
    clear hm1 hm2 hK
    go_wp2_with (first | (refine wpList_make_full _ rfl _ _ 26 rfl U.heap.size 31 j0 _ 1 Try.underlying26 hj0 hy0 hy1 _ _ _ _ K rfl rfl rfl rfl (by rw [hy2]; omega) (by simp only [maxLen]; omega) (Nat.le_refl _) ?_))
    intro V1 hown hgr
    have R0 := Lib.hid (show Rows2 V1 U.heap.size (.slice (some ⟨U.heap.size, 0, none⟩) K K) (List.replicate K []) from by
      rw [toList_madeCells_one] at hown
      exact Rows2.made hown)
    have HB1 := Lib.hid ((Below.refl U.heap.size U).grown hgr (Nat.le_refl _) (by simp))
    clear hown hgr
    go_wp2_with (first | (refine wpList_make_full _ rfl _ _ 53 rfl V1.heap.size 27 m0 _ 1 Try.underlying53 hm0 hx0 hx1 _ _ _ _ K rfl rfl rfl rfl (by rw [hx2]; omega) (by simp only [maxLen]; omega) (Nat.le_refl _) ?_))
    intro V2 hown hgr
    obtain ⟨gw, hgw⟩ : ∃ x, x = V1.heap.size := ⟨_, rfl⟩
    obtain ⟨dk, hdk⟩ : ∃ x, x = w.heap.size := ⟨_, rfl⟩
    have hFP : FifoP w dk gw K 0 (.slice (some ⟨U.heap.size, 0, none⟩) K K) (.int .i64 0) V2 := by
      obtain ⟨A, c, e, hq⟩ := R0.out.qarr
      injection e with e1 e2 e3
      subst e1 e3
      have hb2 : Below V1.heap.size V1 V2 := (Below.refl V1.heap.size V1).grown hgr (Nat.le_refl _) (by simp)
      have hUw := HZU.out
      have hUV := HB1.out.size
      have hlt := (hown.lt V1.heap.size rfl).2
      have hlt1 := R0.out.size_lt
      have hw2 : Below w.heap.size w V2 := below_next (below_next HBU.out (Nat.le_refl _) HB1.out) (Nat.le_refl _) hb2
      refine ⟨0, _, _, U.heap.size, V1.heap.size, List.replicate K [], rfl, rfl, Int.le_refl _, by simp, by simp, hq.keep fun b o hp => hb2.cell hp.2, ?_, .inr (by omega), hb2.size, ?_, by omega, fun b k b' k' q q' i i' h1 h2 => ?_, fun q hq i hi => ?_, fun q hq => ?_, hw2, by omega, by omega⟩
      · rw [toList_madeCells_one] at hown
        rw [hgw]
        exact Wnt.made hown
      · rw [hdk]
        exact (HDK.out.next HB1.out).next hb2
      · rw [List.getElem?_replicate] at h1
        split at h1
        · injection h1 with h1; subst h1; simp at h2
        · cases h1
      · rw [(List.mem_replicate.1 hq).2] at hi; simp at hi
      · rw [(List.mem_replicate.1 hq).2]; simp
    have HFP := Lib.hid hFP
    rw [← hgw, ← hdk]
    clear hFP hown hgr hgw hdk R0 HB1 HDK HBU HZU hwK
    go_wp2_with fail
    go_loopw [7, 9, 10] (fun q sv i wr => ∃ t : Nat, t ≤ 60 ∧ i = .int .i64 t ∧ FifoP w dk gw K t q sv wr) (fun _ _ i _ => 60 - (intOf i).toNat)
    case atStart => exact ⟨0, by omega, rfl, HFP.out⟩
    case round =>
      obtain ⟨t, ht, rfl, hF⟩ := hrel
      obtain ⟨zz, QB, QD, rfl, rfl⟩ : ∃ z QA QC, u7 = .slice QA K QC ∧ u9 = .int .i64 z := by
        obtain ⟨z, QA, QC, _, _, _, h1, h2, _⟩ := hF
        exact ⟨z, QA, QC, h1, h2⟩
      have HF := Lib.hid hF
      clear hF HFP
      by_cases hlt : t < 60
      · have hlt2 : (t : Int) < 60 := by omega
        go_wp2_with fail
        refine (left11_any dk wr HF.out.deck).mono ?_
        rintro e W1 ⟨⟨lb, rfl⟩, hb⟩
        have HF1 := Lib.hid (HF.out.next hb)
        clear hb HF
        cases lb with
        | false =>
          go_wp2_with fail
          refine (awake11_any W1).mono ?_
          rintro e w2 ⟨rfl, hb⟩
          have HB := Lib.hid (below_next HF1.out.below (Nat.le_refl _) hb)
          clear hb
          go_wp2
          go_ret
          exact ⟨rfl, HB.out⟩
        | true =>
          go_wp2_with fail
          refine (next_any dk K W1 (by omega) (by omega) HF1.out.deck).mono ?_
          rintro e W2 ⟨v1, rfl, a0, a1, hD, hG⟩
          have HF2 := Lib.hid (HF1.out.turn hD hG)
          obtain ⟨b, hb⟩ : ∃ b : Nat, v1 = b := ⟨v1.toNat, by omega⟩
          subst hb
          clear hD hG HF1
          go_wp2_with fail
          refine (next_any dk 3 W2 (by omega) (by omega) HF2.out.deck).mono ?_
          rintro e X ⟨v2, rfl, c0, c1, hD, hG⟩
          have HFX := Lib.hid (HF2.out.turn hD hG)
          clear hD hG HF2
          obtain ⟨z2, QA2, QC2, lo, hi, Q, e1, e2, f3, f4, f5, f6, f7, f8, f9, f10, f11, f12, f13, f14, f15, f16, f17⟩ := HFX.out
          injection e1 with e3 e4 e5
          injection e2 with _ e6
          subst e3 e5 e6
          clear e4
          obtain ⟨q, hq⟩ := nth_of (show b < Q.length by omega)
          obtain ⟨A, cA, hcell, hfr, hgl, hrow, hprop, hput⟩ := f7.get hq
          have hbK : 0 ≤ (b : Int) ∧ (b : Int) < K := by omega
          by_cases hv2 : v2 = 0
          · subst hv2
            rcases hqn : q with _ | ⟨i1, q1⟩
            · subst hqn
              simp only [List.length_nil] at hcell
              clear f5 f6 f7 f8 f9 f10 f11 f12 f13 f14 f15 f16 f17 hrow hprop hput hq
              have s2 : ∀ v : Int, 0 ≤ v → v < 3 → IntKind.i64.wrap (zz + (1 + v)) = zz + (1 + v) := fun v h1 h2 => IntWalk.i64_in _ (by omega)
              have S2 := Lib.hid s2
              have F34 := Lib.hid (And.intro f3 f4)
              clear s2 f3 f4
              go_wp2_with fail
              refine (next_any dk 3 X (by omega) (by omega) HFX.out.deck).mono ?_
              rintro e Xa ⟨v3, rfl, d0, d1, hD, hG⟩
              have HFA := Lib.hid (HFX.out.turn hD hG)
              clear hD hG HFX hcell hgl hfr
              have s1 : IntKind.i64.wrap (1 + v3) = 1 + v3 := IntWalk.i64_in _ (by omega)
              obtain ⟨z', hz'⟩ : ∃ z', zz + (1 + v3) = z' := ⟨_, rfl⟩
              have s2 : IntKind.i64.wrap (zz + (1 + v3)) = z' := (S2.out v3 d0 d1).trans hz'
              have HZ' := Lib.hid (show zz < z' ∧ z' ≤ zz + 3 by omega)
              clear hz'
              go_wp2_with fail
              refine (next_any dk 9 Xa (by omega) (by omega) HFA.out.deck).mono ?_
              rintro e Xb ⟨v9, rfl, g0, g1, hD, hG⟩
              have HFB := Lib.hid (HFA.out.turn hD hG)
              clear hD hG HFA s1 s2
              obtain ⟨y4, hy4⟩ : ∃ y4, 1 + v9 = y4 := ⟨_, rfl⟩
              have s3 : IntKind.i64.wrap (1 + v9) = y4 := by rw [IntWalk.i64_in _ (by omega)]; exact hy4
              clear hy4 d0 d1 g0 g1
              obtain ⟨z2, QA2, QC2, lo, hi, Q, e1, e2, f3, f4, f5, f6, f7, f8, f9, f10, f11, f12, f13, f14, f15, f16, f17⟩ := HFB.out
              injection e1 with e3 e4 e5
              injection e2 with _ e6
              subst e3 e5 e6
              clear e4
              obtain ⟨q, hq⟩ := nth_of (show b < Q.length by omega)
              obtain ⟨A, cA, hcell, hfr, hgl, hrow, hprop, hput⟩ := f7.get hq
              have HQA := Lib.hid f6.lt
              have HUQ := Lib.hid f12
              have HQE := Lib.hid hq
              have HLEQ := Lib.hid f13
              have HLEN := Lib.hid f14
              have HBX := Lib.hid f15
              have HDX := Lib.hid f10
              have HPUT := Lib.hid hput
              have HP := Lib.hid hprop
              have HK := Lib.hid f5
              have hql1 := f14 q (List.mem_iff_getElem?.2 ⟨b, hq⟩)
              have hgw17 : dk < gw ∧ w.heap.size ≤ dk := ⟨f16, f17⟩
              have hAin : ∀ x, blkO A = some x → x < Xb.heap.size := by
                intro x hx
                cases A with
                | none => cases hx
                | some ad =>
                  obtain ⟨g, o, e, hg, _⟩ := hrow.2.2.2 ad rfl
                  rw [e] at hx
                  simp [blkO] at hx
                  omega
              have HAIN := Lib.hid hAin
              have HROW := Lib.hid hrow
              clear f3 f4 f5 f6 f7 f8 f9 f10 f11 f12 f13 f14 f15 f16 f17 hrow hprop hput hq hAin
              go_wp2_with fail
              refine (beltAdd_at QB QD K Q b q z' b 0 0 y4 Xb HQA.out (by have := HK.out; omega) (fun q hq => by have := HLEN.out q hq; omega) HQE.out (fun j hj => by
                have h1 := HLEQ.out q (List.mem_iff_getElem?.2 ⟨b, HQE.out⟩) j (List.mem_of_getLast? hj)
                have := HZ'.out
                omega) HK.out.symm rfl).mono ?_
              rintro e X1 ⟨v, rfl, hr2, hb1⟩
              obtain ⟨QN, QM, rfl, hqa⟩ := hr2.qarr
              simp only [List.length_set, HK.out]
              have hlen2 : (Q.set b (q ++ [⟨z', b, 0, 0, y4⟩])).length = K := by rw [List.length_set]; exact HK.out
              have HB1 := Lib.hid hb1
              have HQN := Lib.hid hqa
              have HLEN2 := Lib.hid hlen2
              have hc1 := (hb1.cell (p := ⟨gw, b, none⟩) hgl).trans hcell
              have hgl1 : gw < X1.heap.size := cell_lt hc1
              have hbX : Below X1.heap.size X1 (X1.alloc (.cells #[.int .i64 z'] 3)) := (Below.refl _ _).alloc (Nat.le_refl _) _
              have HBX1 := Lib.hid hbX
              have HROWA := Lib.hid (show WRow (X1.alloc (.cells #[.int .i64 z'] 3)) A cA (q.map fun i => i.sq) from HROW.out.keep (Nat.le_trans hb1.size hbX.size) fun ad ha => by
                have h1 := HAIN.out _ (blkO_some ha)
                rw [hbX.block _ (Nat.lt_of_lt_of_le h1 hb1.size), hb1.block _ h1])
              have HM1 := Lib.hid (show q.length + 1 ≤ maxLen by simp only [maxLen]; omega)
              have HM2 := Lib.hid (show (q.length + 1) * 8 ≤ 140737488355328 by omega)
              have HZC := Lib.hid (show (X1.alloc (.cells #[.int .i64 z'] 3)).cell? ⟨X1.heap.size, 0, none⟩ = some (.int .i64 z') by go_simp)
              clear hr2 hqa hb1 hlen2 hbX hcell hfr
              go_wp2_with (at_builtin; refine wpList_append_w _ rfl _ _ 27 rfl 3 i0 (.int .i64 0) 8 Try.underlying27 hi0 hz0 hz1 hz2 rfl A q.length cA (q.map fun i => i.sq) rfl (by simp) HROWA.out ⟨X1.heap.size, 0, none⟩ z' rfl HZC.out HM1.out HM2.out ?_)
              intro A2 c2 w2 hrow2 hgr2 hblk2
              have hbs : Xb.heap.size ≤ X1.heap.size := HB1.out.size
              have hws : (X1.alloc (.cells #[.int .i64 z'] 3)).heap.size = X1.heap.size + 1 := by simp
              have hbk : ∀ x, blkO A2 = some x → blkO A = some x ∨ X1.heap.size < x := by
                intro x hx
                cases A2 with
                | none => cases hx
                | some ad =>
                  simp [blkO] at hx
                  subst hx
                  rcases hblk2 ad rfl with h | h
                  · exact .inl h
                  · exact .inr (by first | omega | (rw [hws] at h; omega))
              obtain ⟨s5, sf, sz, hW⟩ := HPUT.out w2 A2 c2 (q ++ [⟨z', b, 0, 0, y4⟩]) (fun x => x < Xb.heap.size ∨ X1.heap.size ≤ x) (by have := hgr2.size; omega) (fun g hg hl hne => by
                rw [hgr2.block g (by omega) (fun e => hne e.symm), HBX1.out.block g (by omega), HB1.out.block g hl]) (by simpa using hrow2) (fun x hx => by
                rcases hbk x hx with h | h
                · exact ⟨(HP.out x h).1, .inl (HAIN.out x h), .inl h⟩
                · exact ⟨by omega, .inr (by omega), .inr (by omega)⟩) (fun x hx _ => .inl hx)
              have HFN : Hid (FifoP w dk gw K (t + 1) (.slice QN K QM) (.int .i64 z') (w2.setCell ⟨gw, b, none⟩ (.slice A2 (q.length + 1) c2))) := Lib.hid (by
                have hbx : Below w.heap.size w (X1.alloc (.cells #[.int .i64 z'] 3)) := below_next (below_next HBX.out (Nat.le_refl _) HB1.out) (Nat.le_refl _) HBX1.out
                have hz3 := HZ'.out
                have hf3 := F34.out
                have hbw := hbx.size
                refine ⟨z', QN, QM, Xb.heap.size, X1.heap.size, Q.set b (q ++ [⟨z', b, 0, 0, y4⟩]), rfl, rfl, by omega, by omega, HLEN2.out, HQN.out.keep fun x o hp => ?_, by simpa using hW, .inl hgl, by have := hgr2.size; simp; omega, ?_, by have := HDX.out.lt; omega, uq_add HUQ.out HLEQ.out HQE.out hz3.1, leQ_set HLEQ.out (by omega) (fun i hi => ?_), fun q' hq' => ?_, ?_, hgw17.1, hgw17.2⟩
                · rw [World.cell?_of_block (w := w2) (a := ⟨x, o, none⟩) (Below.heap_setCell w2 ⟨gw, b, none⟩ _ x (by have := hp.1; show x ≠ gw; omega))]
                  have h1 := hp.1
                  have h2 := hp.2
                  rw [World.cell?_of_block (w := X1.alloc (.cells #[.int .i64 z'] 3)) (a := ⟨x, o, none⟩) (hgr2.block x (by omega) (fun e => by have := HAIN.out x e.symm; omega))]
                  exact HBX1.out.cell h2
                · refine (((HDX.out.next HB1.out).next HBX1.out).row hgr2 (fun b hb => by have := (HP.out b hb).1; omega)).row (row := some gw) ⟨rfl, rfl, rfl, by simp, fun k hk hn => Below.heap_setCell w2 ⟨gw, b, none⟩ _ k (fun e => hn (by rw [e]))⟩ (fun b hb => by injection hb with hb; omega)
                · rcases List.mem_append.1 hi with h | h
                  · have := HLEQ.out q (List.mem_iff_getElem?.2 ⟨b, HQE.out⟩) i h; omega
                  · simp at h; subst h; exact Int.le_refl _
                · rcases List.mem_or_eq_of_mem_set hq' with h | h
                  · have := HLEN.out q' h; omega
                  · rw [h]; simp; omega
                · exact (hbx.grown hgr2 (by omega) (fun k hk => by have := (HP.out k hk).1; omega)).setCell (p := ⟨gw, b, none⟩) (by show w.heap.size ≤ gw; omega) _)
              clear hrow2 hgr2 hblk2 hbk hW hws hc1 HQA HUQ HQE HLEQ HLEN HBX HDX HPUT HP HK HAIN HROW HB1 HQN HLEN2 HBX1 HROWA HM1 HM2 HZC HZ' F34 S2
              go_wp2_with fail
              go_loopw [16] (fun ci wr => ∃ c : Nat, c ≤ K ∧ ci = .int .i64 c ∧ FifoP w dk gw K (t + 1) (.slice QN K QM) (.int .i64 z') wr) (fun ci _ => K - (intOf ci).toNat)
              case atStart => exact ⟨0, by omega, rfl, HFN.out⟩
              case round =>
                obtain ⟨c, hc, rfl, hF⟩ := hrel
                have HFC := Lib.hid hF
                clear hF
                by_cases hcK : c < K
                · have hcK2 : 0 ≤ (c : Int) ∧ (c : Int) < K := by omega
                  have hcK3 : (c : Int) < K := by omega
                  obtain ⟨z3, QA3, QC3, lo, hi, Q, e1, e2, f3, f4, f5, f6, f7, f8, f9, f10, f11, f12, f13, f14, f15, f16, f17⟩ := HFC.out
                  injection e1 with e3 e4 e5
                  injection e2 with _ e6
                  subst e3 e5 e6
                  clear e4
                  obtain ⟨q, hq⟩ := nth_of (show c < Q.length by omega)
                  have HQA := Lib.hid f6.lt
                  have HQE := Lib.hid hq
                  have HK := Lib.hid f5
                  obtain ⟨A, cc, hcell, _, hgl, hrow, _, _⟩ := f7.get hq
                  obtain ⟨bq, oq, Aq, cq, rfl, hPq, hbq, hqc, _⟩ := f6.at_ hq
                  have hql := f14 q (List.mem_iff_getElem?.2 ⟨c, hq⟩)
                  have HROW := Lib.hid hrow
                  clear f3 f4 f5 f6 f7 f8 f9 f10 f11 f12 f13 f14 f15 f16 f17 hrow hPq hq
                  go_wp2_with fail
                  refine (oldest_at (some ⟨bq, oq, none⟩) QM K Q c c wr HQA.out (by have := HK.out; omega) HK.out.symm rfl).mono ?_
                  rintro e X1 ⟨rfl, hb1⟩
                  have HV := Lib.hid (show oldV Q c = q.head? by simp [oldV, HQE.out])
                  rw [HV.out]
                  rcases hqn : q with _ | ⟨i1, q1⟩
                  · subst hqn
                    have ho : (Value.tuple #[((([] : List IncR).head?).getD inc0).v, .bool ([] : List IncR).head?.isSome]) = .tuple #[.agg #[.int .i64 0, .int .i64 0, .int .i64 0, .int .i64 0, .int .i64 0], .bool false] := rfl
                    rw [ho]
                    have HB1 := Lib.hid hb1
                    have HQA1 := Lib.hid (HQA.out.next hb1)
                    clear hb1 ho
                    obtain ⟨X2, hX2⟩ : ∃ X2, X2 = X1.alloc (.cells #[.int .i64 0, .int .i64 0, .int .i64 0, .int .i64 0, .int .i64 0] 41) := ⟨_, rfl⟩
                    have hb2 : Below X1.heap.size X1 X2 := by rw [hX2]; exact (Below.refl _ _).alloc (Nat.le_refl _) _
                    have HB2 : Hid (Below wr.heap.size wr X2) := below_next HB1.out (Nat.le_refl _) hb2
                    have HQA2 := Lib.hid (HQA1.out.next hb2)
                    have HX2 := Lib.hid hX2
                    clear hX2 hb2
                    go_wp2_with fail
                    rw [← HX2.out]
                    refine (youngest_at (some ⟨bq, oq, none⟩) QM K Q c c X2 HQA2.out (by have := HK.out; omega) HK.out.symm rfl).mono ?_
                    rintro e X3 ⟨rfl, hb3⟩
                    have HY := Lib.hid (show youV Q c = ([] : List IncR).getLast? by simp [youV, HQE.out])
                    rw [HY.out]
                    have ho : (Value.tuple #[((([] : List IncR).getLast?).getD inc0).v, .bool ([] : List IncR).getLast?.isSome]) = .tuple #[.agg #[.int .i64 0, .int .i64 0, .int .i64 0, .int .i64 0, .int .i64 0], .bool false] := rfl
                    rw [ho]
                    have HB3 : Hid (Below wr.heap.size wr X3) := below_next HB2.out (Nat.le_refl _) hb3
                    clear hb3 ho
                    have HB4 : Hid (Below wr.heap.size wr (X3.alloc (.cells #[.int .i64 0, .int .i64 0, .int .i64 0, .int .i64 0, .int .i64 0] 41))) := HB3.out.alloc HB3.out.size _
                    have c1 := (HB3.out.cell (p := ⟨gw, c, none⟩) hgl).trans hcell
                    have c2 := (HB3.out.cell (p := ⟨bq, oq + c, none⟩) hbq).trans hqc
                    have z1 : gw < X3.heap.size := cell_lt c1
                    have z2 : bq < X3.heap.size := cell_lt c2
                    simp only [List.length_nil] at c1 c2
                    clear hcell hqc hgl hbq
                    go_wp2_with fail
                    go_quiet (fail)
                    go_wp2
                    exact ⟨⟨c + 1, by omega, by go_num, HFC.out.next (below_drewN HB4.out _)⟩, by simp [intOf]; omega⟩
                  · subst hqn
                    obtain ⟨il, hil⟩ := nth_of (show (i1 :: q1).length - 1 < (i1 :: q1).length by simp)
                    have HLAST := Lib.hid (show (i1 :: q1).getLast? = some il by rw [List.getLast?_eq_getElem?]; exact hil)
                    obtain ⟨m, hm⟩ : ∃ m, m = q1.length := ⟨_, rfl⟩
                    have hml : (i1 :: q1).length = m + 1 := by simp [hm]
                    obtain ⟨hr1, hr2, hr3, hr4⟩ := HROW.out
                    have hA : ∃ g o, A = some ⟨g, o, none⟩ ∧ g < wr.heap.size ∧ wr.cell? ⟨g, o + 0, none⟩ = some (.int .i64 i1.sq) ∧ wr.cell? ⟨g, o + m, none⟩ = some (.int .i64 il.sq) := by
                      cases A with
                      | none => have := hr3 rfl; simp at hr1; omega
                      | some ad =>
                        obtain ⟨g, o, e, hg, h1, _⟩ := hr4 ad rfl
                        refine ⟨g, o, by rw [e], hg, h1 0 _ (by simp), h1 m _ ?_⟩
                        rw [List.getElem?_map, show m = (i1 :: q1).length - 1 by omega, hil]; rfl
                    obtain ⟨g, o, rfl, hgz, w0, w1⟩ := hA
                    simp only [Nat.add_zero] at w0
                    obtain ⟨o0, ho0⟩ : ∃ x, x = i1.sq := ⟨_, rfl⟩
                    obtain ⟨o4, ho4⟩ : ∃ x, x = il.sq := ⟨_, rfl⟩
                    rw [← ho0] at w0
                    rw [← ho4] at w1
                    have ho : (Value.tuple #[(((i1 :: q1).head?).getD inc0).v, .bool (i1 :: q1).head?.isSome]) = .tuple #[.agg #[.int .i64 o0, .int .i64 i1.bt, .int .i64 i1.fi, .int .i64 i1.la, .int .i64 i1.wo], .bool true] := by rw [ho0]; rfl
                    rw [ho]
                    have HO4 := Lib.hid ho4
                    have HML := Lib.hid hml
                    have hql' : m + 1 ≤ t + 1 := by omega
                    clear ho0 ho4 hm hml hil hr1 hr2 hr3 hr4 hql
                    have HB1 := Lib.hid hb1
                    have HQA1 := Lib.hid (HQA.out.next hb1)
                    clear hb1 ho
                    obtain ⟨X2, hX2⟩ : ∃ X2, X2 = X1.alloc (.cells #[.int .i64 o0, .int .i64 i1.bt, .int .i64 i1.fi, .int .i64 i1.la, .int .i64 i1.wo] 41) := ⟨_, rfl⟩
                    have hb2 : Below X1.heap.size X1 X2 := by rw [hX2]; exact (Below.refl _ _).alloc (Nat.le_refl _) _
                    have BO : Blk X2 X1.heap.size 41 #[.int .i64 o0, .int .i64 i1.bt, .int .i64 i1.fi, .int .i64 i1.la, .int .i64 i1.wo] := by rw [hX2]; exact Blk.new _ _ _
                    have HB2 : Hid (Below wr.heap.size wr X2) := below_next HB1.out (Nat.le_refl _) hb2
                    have HQA2 := Lib.hid (HQA1.out.next hb2)
                    have HX2 := Lib.hid hX2
                    clear hX2 hb2
                    go_wp2_with fail
                    rw [← HX2.out]
                    refine (youngest_at (some ⟨bq, oq, none⟩) QM K Q c c X2 HQA2.out (by have := HK.out; omega) HK.out.symm rfl).mono ?_
                    rintro e X3 ⟨rfl, hb3⟩
                    have HY := Lib.hid (show youV Q c = (i1 :: q1).getLast? by simp [youV, HQE.out])
                    rw [HY.out, HLAST.out]
                    have ho : (Value.tuple #[((some il).getD inc0).v, .bool (some il).isSome]) = .tuple #[.agg #[.int .i64 o4, .int .i64 il.bt, .int .i64 il.fi, .int .i64 il.la, .int .i64 il.wo], .bool true] := by rw [HO4.out]; rfl
                    rw [ho]
                    have HB3 : Hid (Below wr.heap.size wr X3) := below_next HB2.out (Nat.le_refl _) hb3
                    have BO3 := BO.next hb3
                    clear hb3 ho BO
                    have HB4 : Hid (Below wr.heap.size wr (X3.alloc (.cells #[.int .i64 o4, .int .i64 il.bt, .int .i64 il.fi, .int .i64 il.la, .int .i64 il.wo] 41))) := HB3.out.alloc HB3.out.size _
                    have c1 := (HB3.out.cell (p := ⟨gw, c, none⟩) hgl).trans hcell
                    have c2 := (HB3.out.cell (p := ⟨bq, oq + c, none⟩) hbq).trans hqc
                    have c3 := (HB3.out.cell (p := ⟨g, o, none⟩) hgz).trans w0
                    have c4 := (HB3.out.cell (p := ⟨g, o + m, none⟩) hgz).trans w1
                    have c5 := BO3.cell 0
                    simp at c5
                    rw [HML.out] at c1 c2
                    have z1 : gw < X3.heap.size := cell_lt c1
                    have z2 : bq < X3.heap.size := cell_lt c2
                    have z3 : g < X3.heap.size := cell_lt c3
                    have z5 : X1.heap.size < X3.heap.size := BO3.lt
                    have hmp : (0 : Int) < (m : Int) + 1 := by omega
                    have hmw : IntKind.i64.wrap ((m : Int) + 1 - 1) = (m : Int) := by rw [IntWalk.i64_in _ (by omega)]; omega
                    have hmw2 : IntKind.i64.wrap (m : Int) = (m : Int) := IntWalk.i64_in _ (by omega)
                    have hmb : 0 ≤ (m : Int) ∧ (m : Int) < (m : Int) + 1 := by omega
                    have hmb2 : (m : Int) < (m : Int) + 1 := by omega
                    clear hcell hqc hgl hbq w0 w1 hgz BO3
                    go_wp2_with fail
                    go_quiet (fail)
                    go_wp2
                    exact ⟨⟨c + 1, by omega, by go_num, HFC.out.next (below_drewN HB4.out _)⟩, by simp [intOf]; omega⟩
                · have hcK3 : ¬ (c : Int) < K := by omega
                  go_wp2
                  exact ⟨⟨t + 1, by omega, by go_num, HFC.out⟩, by simp [intOf]; omega⟩
            · subst hqn
              have HQA := Lib.hid f6.lt
              have HUQ := Lib.hid f12
              have HQE := Lib.hid hq
              have HLEQ := Lib.hid f13
              have HLEN := Lib.hid f14
              have HBX := Lib.hid f15
              have HDX := Lib.hid f10
              have HPUT := Lib.hid hput
              have HROW := Lib.hid hrow
              have HP := Lib.hid hprop
              have HK := Lib.hid f5
              obtain ⟨g, o, hA, hgz, w0⟩ : ∃ g o, A = some ⟨g, o, none⟩ ∧ g < X.heap.size ∧ X.cell? ⟨g, o + 0, none⟩ = some (.int .i64 i1.sq) := by
                obtain ⟨hr1, hr2, hr3, hr4⟩ := hrow
                cases A with
                | none => have := hr3 rfl; simp at hr1; omega
                | some ad =>
                  obtain ⟨g, o, e, hg, h1, _⟩ := hr4 ad rfl
                  exact ⟨g, o, by rw [e], hg, h1 0 _ (by simp)⟩
              subst hA
              simp only [Nat.add_zero] at w0
              obtain ⟨x0, hx0⟩ : ∃ x, x = i1.sq := ⟨_, rfl⟩
              rw [← hx0] at w0
              have HX0 := Lib.hid hx0
              have hql1 := f14 (i1 :: q1) (List.mem_iff_getElem?.2 ⟨b, hq⟩)
              have hcap : q1.length + 1 ≤ cA := by have := HROW.out.1; simpa using this
              have hgw17 : dk < gw ∧ w.heap.size ≤ dk := ⟨f16, f17⟩
              have f34 := Lib.hid (And.intro f3 f4)
              clear f3 f4 f5 f6 f7 f8 f9 f10 f11 f12 f13 f14 f15 f16 f17 hrow hprop hput hx0 hq
              simp only [List.length_cons] at hcell hql1
              go_wp2_with fail
              refine (remove_at QB QD K Q x0 X HQA.out (by have := HK.out; omega) (fun q hq => by have := HLEN.out q hq; omega) ⟨_, List.mem_iff_getElem?.2 ⟨b, HQE.out⟩, i1, by simp, HX0.out.symm⟩ HK.out.symm).mono ?_
              rintro e X1 ⟨v, b', k', q', i', rfl, h1, h2, h3, hr2, hb1⟩
              obtain ⟨eb, ek⟩ := HUQ.out b' k' b 0 q' (i1 :: q1) i' i1 h1 h2 HQE.out (by simp) (by rw [h3, HX0.out])
              subst eb ek
              rw [HQE.out] at h1
              injection h1 with h1
              subst h1
              obtain ⟨QN, QM, rfl, hqa⟩ := hr2.qarr
              simp only [List.eraseIdx_zero, List.tail_cons] at hqa
              have hlen2 : (Q.set b' q1).length = K := by rw [List.length_set]; exact HK.out
              simp only [List.length_set, HK.out]
              have HB1 := Lib.hid hb1
              have hrow1 : WRow X1 (some ⟨g, o, none⟩) cA ((i1 :: q1).map fun i => i.sq) := HROW.out.keep hb1.size fun ad ha => by injection ha with ha; subst ha; exact hb1.block g hgz
              obtain ⟨A2, hA2⟩ : ∃ A2, A2 = (if cA = 1 then some (⟨g, o, none⟩ : Addr) else some ⟨g, o + 1, none⟩) := ⟨_, rfl⟩
              have hblk : blkO A2 = some g := by rw [hA2]; split <;> rfl
              have hrow2 : WRow X1.drew A2 (cA - 1) (q1.map fun i => i.sq) := by
                show WRow X1 A2 (cA - 1) (q1.map fun i => i.sq)
                obtain ⟨hr1, hr2, hr3, hr4⟩ := hrow1
                obtain ⟨g', o', e, hg', h1, h2'⟩ := hr4 _ rfl
                injection e with e7 e8
                subst e7 e8
                refine ⟨by simp; omega, by omega, (fun e => by rw [e] at hblk; cases hblk), fun ad ha => ?_⟩
                by_cases hc1 : cA = 1
                · rw [hA2, if_pos hc1] at ha
                  injection ha with ha
                  refine ⟨g, o, ha.symm, hg', fun t x hx => ?_, fun t ht => by omega⟩
                  have := get_lt hx
                  simp at this
                  omega
                · rw [hA2, if_neg hc1] at ha
                  injection ha with ha
                  refine ⟨g, o + 1, ha.symm, hg', fun t x hx => ?_, fun t ht => ?_⟩
                  · rw [Nat.add_assoc]; exact h1 (1 + t) x (by rw [show 1 + t = t + 1 by omega]; simpa using hx)
                  · rw [Nat.add_assoc]; exact h2' (1 + t) (by omega)
              obtain ⟨s5, sf, sz, hW⟩ := HPUT.out X1.drew A2 (cA - 1) q1 (fun x => x < X.heap.size ∨ X1.heap.size ≤ x) hb1.size (fun g _ hl _ => hb1.block g hl) hrow2 (fun x hx => by
                rw [hblk] at hx
                injection hx with hx
                subst hx
                exact ⟨(HP.out g rfl).1, .inl hgz, .inl rfl⟩) (fun x hx _ => .inl hx)
              have HFN : Hid (FifoP w dk gw K (t + 1) (.slice QN K QM) (.int .i64 zz) ((X1.setCell ⟨gw, b', none⟩ (.slice A2 q1.length (cA - 1))).drew)) := Lib.hid (by
                show FifoP w dk gw K (t + 1) (.slice QN K QM) (.int .i64 zz) ((X1.drew).setCell ⟨gw, b', none⟩ (.slice A2 q1.length (cA - 1)))
                have hbx : Below w.heap.size w X1 := below_next HBX.out (Nat.le_refl _) hb1
                refine ⟨zz, QN, QM, X.heap.size, X1.heap.size, Q.set b' q1, rfl, rfl, f34.out.1, by have := f34.out.2; omega, hlen2, hqa.keep fun x o hp => ?_, hW, .inl hgl, by simp, ?_, by have := HDX.out.lt; omega, uq_tail HUQ.out HQE.out, leQ_set HLEQ.out (Int.le_refl _) (fun i hi => HLEQ.out _ (List.mem_iff_getElem?.2 ⟨b', HQE.out⟩) i (List.mem_cons_of_mem _ hi)), fun q hq => ?_, ?_, hgw17.1, hgw17.2⟩
                · exact World.cell?_of_block (a := ⟨x, o, none⟩) (Below.heap_setCell X1.drew ⟨gw, b', none⟩ _ x (by have := hp.1; show x ≠ gw; omega))
                · refine (HDX.out.next hb1).row (row := some gw) ⟨rfl, rfl, rfl, by simp, fun k hk hn => Below.heap_setCell X1.drew ⟨gw, b', none⟩ _ k (fun e => hn (by rw [e]))⟩ (fun b hb => by injection hb with hb; omega)
                · rcases List.mem_or_eq_of_mem_set hq with h | h
                  · have := HLEN.out q h; omega
                  · rw [h]; omega
                · exact (hbx.drew).setCell (p := ⟨gw, b', none⟩) (by show w.heap.size ≤ gw; omega) _)
              have hone : (1 : Int) ≤ (q1.length : Int) + 1 := by omega
              have hone2 : 1 ≤ cA := by omega
              have hsub : q1.length + 1 - 1 = q1.length := by omega
              clear hrow1 hrow2 hblk hr2 hqa hb1 hW hlen2 w0 hcap hcell h2 h3
              have hcell1 := s5
              simp only [List.length_cons] at hcell1
              have hA2' := hA2.symm
              clear s5 hA2
              go_wp2_with fail
              go_region
              clear hone hone2 hsub hcell1 sf sz hA2' HQA HUQ HQE HLEQ HLEN HBX HDX HPUT HROW HP HB1
              go_wp2_with fail
              go_loopw [16] (fun ci wr => ∃ c : Nat, c ≤ K ∧ ci = .int .i64 c ∧ FifoP w dk gw K (t + 1) (.slice QN K QM) (.int .i64 zz) wr) (fun ci _ => K - (intOf ci).toNat)
              case atStart => exact ⟨0, by omega, rfl, HFN.out⟩
              case round =>
                obtain ⟨c, hc, rfl, hF⟩ := hrel
                have HFC := Lib.hid hF
                clear hF
                by_cases hcK : c < K
                · have hcK2 : 0 ≤ (c : Int) ∧ (c : Int) < K := by omega
                  have hcK3 : (c : Int) < K := by omega
                  obtain ⟨z3, QA3, QC3, lo, hi, Q, e1, e2, f3, f4, f5, f6, f7, f8, f9, f10, f11, f12, f13, f14, f15, f16, f17⟩ := HFC.out
                  injection e1 with e3 e4 e5
                  injection e2 with _ e6
                  subst e3 e5 e6
                  clear e4
                  obtain ⟨q, hq⟩ := nth_of (show c < Q.length by omega)
                  have HQA := Lib.hid f6.lt
                  have HQE := Lib.hid hq
                  have HK := Lib.hid f5
                  obtain ⟨A, cc, hcell, _, hgl, hrow, _, _⟩ := f7.get hq
                  obtain ⟨bq, oq, Aq, cq, rfl, hPq, hbq, hqc, _⟩ := f6.at_ hq
                  have hql := f14 q (List.mem_iff_getElem?.2 ⟨c, hq⟩)
                  have HROW := Lib.hid hrow
                  clear f3 f4 f5 f6 f7 f8 f9 f10 f11 f12 f13 f14 f15 f16 f17 hrow hPq hq
                  go_wp2_with fail
                  refine (oldest_at (some ⟨bq, oq, none⟩) QM K Q c c wr HQA.out (by have := HK.out; omega) HK.out.symm rfl).mono ?_
                  rintro e X1 ⟨rfl, hb1⟩
                  have HV := Lib.hid (show oldV Q c = q.head? by simp [oldV, HQE.out])
                  rw [HV.out]
                  rcases hqn : q with _ | ⟨i1, q1⟩
                  · subst hqn
                    have ho : (Value.tuple #[((([] : List IncR).head?).getD inc0).v, .bool ([] : List IncR).head?.isSome]) = .tuple #[.agg #[.int .i64 0, .int .i64 0, .int .i64 0, .int .i64 0, .int .i64 0], .bool false] := rfl
                    rw [ho]
                    have HB1 := Lib.hid hb1
                    have HQA1 := Lib.hid (HQA.out.next hb1)
                    clear hb1 ho
                    obtain ⟨X2, hX2⟩ : ∃ X2, X2 = X1.alloc (.cells #[.int .i64 0, .int .i64 0, .int .i64 0, .int .i64 0, .int .i64 0] 41) := ⟨_, rfl⟩
                    have hb2 : Below X1.heap.size X1 X2 := by rw [hX2]; exact (Below.refl _ _).alloc (Nat.le_refl _) _
                    have HB2 : Hid (Below wr.heap.size wr X2) := below_next HB1.out (Nat.le_refl _) hb2
                    have HQA2 := Lib.hid (HQA1.out.next hb2)
                    have HX2 := Lib.hid hX2
                    clear hX2 hb2
                    go_wp2_with fail
                    rw [← HX2.out]
                    refine (youngest_at (some ⟨bq, oq, none⟩) QM K Q c c X2 HQA2.out (by have := HK.out; omega) HK.out.symm rfl).mono ?_
                    rintro e X3 ⟨rfl, hb3⟩
                    have HY := Lib.hid (show youV Q c = ([] : List IncR).getLast? by simp [youV, HQE.out])
                    rw [HY.out]
                    have ho : (Value.tuple #[((([] : List IncR).getLast?).getD inc0).v, .bool ([] : List IncR).getLast?.isSome]) = .tuple #[.agg #[.int .i64 0, .int .i64 0, .int .i64 0, .int .i64 0, .int .i64 0], .bool false] := rfl
                    rw [ho]
                    have HB3 : Hid (Below wr.heap.size wr X3) := below_next HB2.out (Nat.le_refl _) hb3
                    clear hb3 ho
                    have HB4 : Hid (Below wr.heap.size wr (X3.alloc (.cells #[.int .i64 0, .int .i64 0, .int .i64 0, .int .i64 0, .int .i64 0] 41))) := HB3.out.alloc HB3.out.size _
                    have c1 := (HB3.out.cell (p := ⟨gw, c, none⟩) hgl).trans hcell
                    have c2 := (HB3.out.cell (p := ⟨bq, oq + c, none⟩) hbq).trans hqc
                    have z1 : gw < X3.heap.size := cell_lt c1
                    have z2 : bq < X3.heap.size := cell_lt c2
                    simp only [List.length_nil] at c1 c2
                    clear hcell hqc hgl hbq
                    go_wp2_with fail
                    go_quiet (fail)
                    go_wp2
                    exact ⟨⟨c + 1, by omega, by go_num, HFC.out.next (below_drewN HB4.out _)⟩, by simp [intOf]; omega⟩
                  · subst hqn
                    obtain ⟨il, hil⟩ := nth_of (show (i1 :: q1).length - 1 < (i1 :: q1).length by simp)
                    have HLAST := Lib.hid (show (i1 :: q1).getLast? = some il by rw [List.getLast?_eq_getElem?]; exact hil)
                    obtain ⟨m, hm⟩ : ∃ m, m = q1.length := ⟨_, rfl⟩
                    have hml : (i1 :: q1).length = m + 1 := by simp [hm]
                    obtain ⟨hr1, hr2, hr3, hr4⟩ := HROW.out
                    have hA : ∃ g o, A = some ⟨g, o, none⟩ ∧ g < wr.heap.size ∧ wr.cell? ⟨g, o + 0, none⟩ = some (.int .i64 i1.sq) ∧ wr.cell? ⟨g, o + m, none⟩ = some (.int .i64 il.sq) := by
                      cases A with
                      | none => have := hr3 rfl; simp at hr1; omega
                      | some ad =>
                        obtain ⟨g, o, e, hg, h1, _⟩ := hr4 ad rfl
                        refine ⟨g, o, by rw [e], hg, h1 0 _ (by simp), h1 m _ ?_⟩
                        rw [List.getElem?_map, show m = (i1 :: q1).length - 1 by omega, hil]; rfl
                    obtain ⟨g, o, rfl, hgz, w0, w1⟩ := hA
                    simp only [Nat.add_zero] at w0
                    obtain ⟨o0, ho0⟩ : ∃ x, x = i1.sq := ⟨_, rfl⟩
                    obtain ⟨o4, ho4⟩ : ∃ x, x = il.sq := ⟨_, rfl⟩
                    rw [← ho0] at w0
                    rw [← ho4] at w1
                    have ho : (Value.tuple #[(((i1 :: q1).head?).getD inc0).v, .bool (i1 :: q1).head?.isSome]) = .tuple #[.agg #[.int .i64 o0, .int .i64 i1.bt, .int .i64 i1.fi, .int .i64 i1.la, .int .i64 i1.wo], .bool true] := by rw [ho0]; rfl
                    rw [ho]
                    have HO4 := Lib.hid ho4
                    have HML := Lib.hid hml
                    have hql' : m + 1 ≤ t + 1 := by omega
                    clear ho0 ho4 hm hml hil hr1 hr2 hr3 hr4 hql
                    have HB1 := Lib.hid hb1
                    have HQA1 := Lib.hid (HQA.out.next hb1)
                    clear hb1 ho
                    obtain ⟨X2, hX2⟩ : ∃ X2, X2 = X1.alloc (.cells #[.int .i64 o0, .int .i64 i1.bt, .int .i64 i1.fi, .int .i64 i1.la, .int .i64 i1.wo] 41) := ⟨_, rfl⟩
                    have hb2 : Below X1.heap.size X1 X2 := by rw [hX2]; exact (Below.refl _ _).alloc (Nat.le_refl _) _
                    have BO : Blk X2 X1.heap.size 41 #[.int .i64 o0, .int .i64 i1.bt, .int .i64 i1.fi, .int .i64 i1.la, .int .i64 i1.wo] := by rw [hX2]; exact Blk.new _ _ _
                    have HB2 : Hid (Below wr.heap.size wr X2) := below_next HB1.out (Nat.le_refl _) hb2
                    have HQA2 := Lib.hid (HQA1.out.next hb2)
                    have HX2 := Lib.hid hX2
                    clear hX2 hb2
                    go_wp2_with fail
                    rw [← HX2.out]
                    refine (youngest_at (some ⟨bq, oq, none⟩) QM K Q c c X2 HQA2.out (by have := HK.out; omega) HK.out.symm rfl).mono ?_
                    rintro e X3 ⟨rfl, hb3⟩
                    have HY := Lib.hid (show youV Q c = (i1 :: q1).getLast? by simp [youV, HQE.out])
                    rw [HY.out, HLAST.out]
                    have ho : (Value.tuple #[((some il).getD inc0).v, .bool (some il).isSome]) = .tuple #[.agg #[.int .i64 o4, .int .i64 il.bt, .int .i64 il.fi, .int .i64 il.la, .int .i64 il.wo], .bool true] := by rw [HO4.out]; rfl
                    rw [ho]
                    have HB3 : Hid (Below wr.heap.size wr X3) := below_next HB2.out (Nat.le_refl _) hb3
                    have BO3 := BO.next hb3
                    clear hb3 ho BO
                    have HB4 : Hid (Below wr.heap.size wr (X3.alloc (.cells #[.int .i64 o4, .int .i64 il.bt, .int .i64 il.fi, .int .i64 il.la, .int .i64 il.wo] 41))) := HB3.out.alloc HB3.out.size _
                    have c1 := (HB3.out.cell (p := ⟨gw, c, none⟩) hgl).trans hcell
                    have c2 := (HB3.out.cell (p := ⟨bq, oq + c, none⟩) hbq).trans hqc
                    have c3 := (HB3.out.cell (p := ⟨g, o, none⟩) hgz).trans w0
                    have c4 := (HB3.out.cell (p := ⟨g, o + m, none⟩) hgz).trans w1
                    have c5 := BO3.cell 0
                    simp at c5
                    rw [HML.out] at c1 c2
                    have z1 : gw < X3.heap.size := cell_lt c1
                    have z2 : bq < X3.heap.size := cell_lt c2
                    have z3 : g < X3.heap.size := cell_lt c3
                    have z5 : X1.heap.size < X3.heap.size := BO3.lt
                    have hmp : (0 : Int) < (m : Int) + 1 := by omega
                    have hmw : IntKind.i64.wrap ((m : Int) + 1 - 1) = (m : Int) := by rw [IntWalk.i64_in _ (by omega)]; omega
                    have hmw2 : IntKind.i64.wrap (m : Int) = (m : Int) := IntWalk.i64_in _ (by omega)
                    have hmb : 0 ≤ (m : Int) ∧ (m : Int) < (m : Int) + 1 := by omega
                    have hmb2 : (m : Int) < (m : Int) + 1 := by omega
                    clear hcell hqc hgl hbq w0 w1 hgz BO3
                    go_wp2_with fail
                    go_quiet (fail)
                    go_wp2
                    exact ⟨⟨c + 1, by omega, by go_num, HFC.out.next (below_drewN HB4.out _)⟩, by simp [intOf]; omega⟩
                · have hcK3 : ¬ (c : Int) < K := by omega
                  go_wp2
                  exact ⟨⟨t + 1, by omega, by go_num, HFC.out⟩, by simp [intOf]; omega⟩
          · have hv2b : (v2 == 0) = false := by simpa using hv2
            clear hv2
            clear f5 f6 f7 f8 f9 f10 f11 f12 f13 f14 f15 f16 f17 hrow hprop hput hq
            have s2 : ∀ v : Int, 0 ≤ v → v < 3 → IntKind.i64.wrap (zz + (1 + v)) = zz + (1 + v) := fun v h1 h2 => IntWalk.i64_in _ (by omega)
            have S2 := Lib.hid s2
            have F34 := Lib.hid (And.intro f3 f4)
            clear s2 f3 f4
            go_wp2_with fail
            refine (next_any dk 3 X (by omega) (by omega) HFX.out.deck).mono ?_
            rintro e Xa ⟨v3, rfl, d0, d1, hD, hG⟩
            have HFA := Lib.hid (HFX.out.turn hD hG)
            clear hD hG HFX hcell hgl hfr
            have s1 : IntKind.i64.wrap (1 + v3) = 1 + v3 := IntWalk.i64_in _ (by omega)
            obtain ⟨z', hz'⟩ : ∃ z', zz + (1 + v3) = z' := ⟨_, rfl⟩
            have s2 : IntKind.i64.wrap (zz + (1 + v3)) = z' := (S2.out v3 d0 d1).trans hz'
            have HZ' := Lib.hid (show zz < z' ∧ z' ≤ zz + 3 by omega)
            clear hz'
            go_wp2_with fail
            refine (next_any dk 9 Xa (by omega) (by omega) HFA.out.deck).mono ?_
            rintro e Xb ⟨v9, rfl, g0, g1, hD, hG⟩
            have HFB := Lib.hid (HFA.out.turn hD hG)
            clear hD hG HFA s1 s2
            obtain ⟨y4, hy4⟩ : ∃ y4, 1 + v9 = y4 := ⟨_, rfl⟩
            have s3 : IntKind.i64.wrap (1 + v9) = y4 := by rw [IntWalk.i64_in _ (by omega)]; exact hy4
            clear hy4 d0 d1 g0 g1
            obtain ⟨z2, QA2, QC2, lo, hi, Q, e1, e2, f3, f4, f5, f6, f7, f8, f9, f10, f11, f12, f13, f14, f15, f16, f17⟩ := HFB.out
            injection e1 with e3 e4 e5
            injection e2 with _ e6
            subst e3 e5 e6
            clear e4
            obtain ⟨q, hq⟩ := nth_of (show b < Q.length by omega)
            obtain ⟨A, cA, hcell, hfr, hgl, hrow, hprop, hput⟩ := f7.get hq
            have HQA := Lib.hid f6.lt
            have HUQ := Lib.hid f12
            have HQE := Lib.hid hq
            have HLEQ := Lib.hid f13
            have HLEN := Lib.hid f14
            have HBX := Lib.hid f15
            have HDX := Lib.hid f10
            have HPUT := Lib.hid hput
            have HP := Lib.hid hprop
            have HK := Lib.hid f5
            have hql1 := f14 q (List.mem_iff_getElem?.2 ⟨b, hq⟩)
            have hgw17 : dk < gw ∧ w.heap.size ≤ dk := ⟨f16, f17⟩
            have hAin : ∀ x, blkO A = some x → x < Xb.heap.size := by
              intro x hx
              cases A with
              | none => cases hx
              | some ad =>
                obtain ⟨g, o, e, hg, _⟩ := hrow.2.2.2 ad rfl
                rw [e] at hx
                simp [blkO] at hx
                omega
            have HAIN := Lib.hid hAin
            have HROW := Lib.hid hrow
            clear f3 f4 f5 f6 f7 f8 f9 f10 f11 f12 f13 f14 f15 f16 f17 hrow hprop hput hq hAin
            go_wp2_with fail
            refine (beltAdd_at QB QD K Q b q z' b 0 0 y4 Xb HQA.out (by have := HK.out; omega) (fun q hq => by have := HLEN.out q hq; omega) HQE.out (fun j hj => by
              have h1 := HLEQ.out q (List.mem_iff_getElem?.2 ⟨b, HQE.out⟩) j (List.mem_of_getLast? hj)
              have := HZ'.out
              omega) HK.out.symm rfl).mono ?_
            rintro e X1 ⟨v, rfl, hr2, hb1⟩
            obtain ⟨QN, QM, rfl, hqa⟩ := hr2.qarr
            simp only [List.length_set, HK.out]
            have hlen2 : (Q.set b (q ++ [⟨z', b, 0, 0, y4⟩])).length = K := by rw [List.length_set]; exact HK.out
            have HB1 := Lib.hid hb1
            have HQN := Lib.hid hqa
            have HLEN2 := Lib.hid hlen2
            have hc1 := (hb1.cell (p := ⟨gw, b, none⟩) hgl).trans hcell
            have hgl1 : gw < X1.heap.size := cell_lt hc1
            have hbX : Below X1.heap.size X1 (X1.alloc (.cells #[.int .i64 z'] 3)) := (Below.refl _ _).alloc (Nat.le_refl _) _
            have HBX1 := Lib.hid hbX
            have HROWA := Lib.hid (show WRow (X1.alloc (.cells #[.int .i64 z'] 3)) A cA (q.map fun i => i.sq) from HROW.out.keep (Nat.le_trans hb1.size hbX.size) fun ad ha => by
              have h1 := HAIN.out _ (blkO_some ha)
              rw [hbX.block _ (Nat.lt_of_lt_of_le h1 hb1.size), hb1.block _ h1])
            have HM1 := Lib.hid (show q.length + 1 ≤ maxLen by simp only [maxLen]; omega)
            have HM2 := Lib.hid (show (q.length + 1) * 8 ≤ 140737488355328 by omega)
            have HZC := Lib.hid (show (X1.alloc (.cells #[.int .i64 z'] 3)).cell? ⟨X1.heap.size, 0, none⟩ = some (.int .i64 z') by go_simp)
            clear hr2 hqa hb1 hlen2 hbX hcell hfr
            go_wp2_with (at_builtin; refine wpList_append_w _ rfl _ _ 27 rfl 3 i0 (.int .i64 0) 8 Try.underlying27 hi0 hz0 hz1 hz2 rfl A q.length cA (q.map fun i => i.sq) rfl (by simp) HROWA.out ⟨X1.heap.size, 0, none⟩ z' rfl HZC.out HM1.out HM2.out ?_)
            intro A2 c2 w2 hrow2 hgr2 hblk2
            have hbs : Xb.heap.size ≤ X1.heap.size := HB1.out.size
            have hws : (X1.alloc (.cells #[.int .i64 z'] 3)).heap.size = X1.heap.size + 1 := by simp
            have hbk : ∀ x, blkO A2 = some x → blkO A = some x ∨ X1.heap.size < x := by
              intro x hx
              cases A2 with
              | none => cases hx
              | some ad =>
                simp [blkO] at hx
                subst hx
                rcases hblk2 ad rfl with h | h
                · exact .inl h
                · exact .inr (by first | omega | (rw [hws] at h; omega))
            obtain ⟨s5, sf, sz, hW⟩ := HPUT.out w2 A2 c2 (q ++ [⟨z', b, 0, 0, y4⟩]) (fun x => x < Xb.heap.size ∨ X1.heap.size ≤ x) (by have := hgr2.size; omega) (fun g hg hl hne => by
              rw [hgr2.block g (by omega) (fun e => hne e.symm), HBX1.out.block g (by omega), HB1.out.block g hl]) (by simpa using hrow2) (fun x hx => by
              rcases hbk x hx with h | h
              · exact ⟨(HP.out x h).1, .inl (HAIN.out x h), .inl h⟩
              · exact ⟨by omega, .inr (by omega), .inr (by omega)⟩) (fun x hx _ => .inl hx)
            have HFN : Hid (FifoP w dk gw K (t + 1) (.slice QN K QM) (.int .i64 z') (w2.setCell ⟨gw, b, none⟩ (.slice A2 (q.length + 1) c2))) := Lib.hid (by
              have hbx : Below w.heap.size w (X1.alloc (.cells #[.int .i64 z'] 3)) := below_next (below_next HBX.out (Nat.le_refl _) HB1.out) (Nat.le_refl _) HBX1.out
              have hz3 := HZ'.out
              have hf3 := F34.out
              have hbw := hbx.size
              refine ⟨z', QN, QM, Xb.heap.size, X1.heap.size, Q.set b (q ++ [⟨z', b, 0, 0, y4⟩]), rfl, rfl, by omega, by omega, HLEN2.out, HQN.out.keep fun x o hp => ?_, by simpa using hW, .inl hgl, by have := hgr2.size; simp; omega, ?_, by have := HDX.out.lt; omega, uq_add HUQ.out HLEQ.out HQE.out hz3.1, leQ_set HLEQ.out (by omega) (fun i hi => ?_), fun q' hq' => ?_, ?_, hgw17.1, hgw17.2⟩
              · rw [World.cell?_of_block (w := w2) (a := ⟨x, o, none⟩) (Below.heap_setCell w2 ⟨gw, b, none⟩ _ x (by have := hp.1; show x ≠ gw; omega))]
                have h1 := hp.1
                have h2 := hp.2
                rw [World.cell?_of_block (w := X1.alloc (.cells #[.int .i64 z'] 3)) (a := ⟨x, o, none⟩) (hgr2.block x (by omega) (fun e => by have := HAIN.out x e.symm; omega))]
                exact HBX1.out.cell h2
              · refine (((HDX.out.next HB1.out).next HBX1.out).row hgr2 (fun b hb => by have := (HP.out b hb).1; omega)).row (row := some gw) ⟨rfl, rfl, rfl, by simp, fun k hk hn => Below.heap_setCell w2 ⟨gw, b, none⟩ _ k (fun e => hn (by rw [e]))⟩ (fun b hb => by injection hb with hb; omega)
              · rcases List.mem_append.1 hi with h | h
                · have := HLEQ.out q (List.mem_iff_getElem?.2 ⟨b, HQE.out⟩) i h; omega
                · simp at h; subst h; exact Int.le_refl _
              · rcases List.mem_or_eq_of_mem_set hq' with h | h
                · have := HLEN.out q' h; omega
                · rw [h]; simp; omega
              · exact (hbx.grown hgr2 (by omega) (fun k hk => by have := (HP.out k hk).1; omega)).setCell (p := ⟨gw, b, none⟩) (by show w.heap.size ≤ gw; omega) _)
            clear hrow2 hgr2 hblk2 hbk hW hws hc1 HQA HUQ HQE HLEQ HLEN HBX HDX HPUT HP HK HAIN HROW HB1 HQN HLEN2 HBX1 HROWA HM1 HM2 HZC HZ' F34 S2
            go_wp2_with fail
            go_loopw [16] (fun ci wr => ∃ c : Nat, c ≤ K ∧ ci = .int .i64 c ∧ FifoP w dk gw K (t + 1) (.slice QN K QM) (.int .i64 z') wr) (fun ci _ => K - (intOf ci).toNat)
            case atStart => exact ⟨0, by omega, rfl, HFN.out⟩
            case round =>
              obtain ⟨c, hc, rfl, hF⟩ := hrel
              have HFC := Lib.hid hF
              clear hF
              by_cases hcK : c < K
              · have hcK2 : 0 ≤ (c : Int) ∧ (c : Int) < K := by omega
                have hcK3 : (c : Int) < K := by omega
                obtain ⟨z3, QA3, QC3, lo, hi, Q, e1, e2, f3, f4, f5, f6, f7, f8, f9, f10, f11, f12, f13, f14, f15, f16, f17⟩ := HFC.out
                injection e1 with e3 e4 e5
                injection e2 with _ e6
                subst e3 e5 e6
                clear e4
                obtain ⟨q, hq⟩ := nth_of (show c < Q.length by omega)
                have HQA := Lib.hid f6.lt
                have HQE := Lib.hid hq
                have HK := Lib.hid f5
                obtain ⟨A, cc, hcell, _, hgl, hrow, _, _⟩ := f7.get hq
                obtain ⟨bq, oq, Aq, cq, rfl, hPq, hbq, hqc, _⟩ := f6.at_ hq
                have hql := f14 q (List.mem_iff_getElem?.2 ⟨c, hq⟩)
                have HROW := Lib.hid hrow
                clear f3 f4 f5 f6 f7 f8 f9 f10 f11 f12 f13 f14 f15 f16 f17 hrow hPq hq
                go_wp2_with fail
                refine (oldest_at (some ⟨bq, oq, none⟩) QM K Q c c wr HQA.out (by have := HK.out; omega) HK.out.symm rfl).mono ?_
                rintro e X1 ⟨rfl, hb1⟩
                have HV := Lib.hid (show oldV Q c = q.head? by simp [oldV, HQE.out])
                rw [HV.out]
                rcases hqn : q with _ | ⟨i1, q1⟩
                · subst hqn
                  have ho : (Value.tuple #[((([] : List IncR).head?).getD inc0).v, .bool ([] : List IncR).head?.isSome]) = .tuple #[.agg #[.int .i64 0, .int .i64 0, .int .i64 0, .int .i64 0, .int .i64 0], .bool false] := rfl
                  rw [ho]
                  have HB1 := Lib.hid hb1
                  have HQA1 := Lib.hid (HQA.out.next hb1)
                  clear hb1 ho
                  obtain ⟨X2, hX2⟩ : ∃ X2, X2 = X1.alloc (.cells #[.int .i64 0, .int .i64 0, .int .i64 0, .int .i64 0, .int .i64 0] 41) := ⟨_, rfl⟩
                  have hb2 : Below X1.heap.size X1 X2 := by rw [hX2]; exact (Below.refl _ _).alloc (Nat.le_refl _) _
                  have HB2 : Hid (Below wr.heap.size wr X2) := below_next HB1.out (Nat.le_refl _) hb2
                  have HQA2 := Lib.hid (HQA1.out.next hb2)
                  have HX2 := Lib.hid hX2
                  clear hX2 hb2
                  go_wp2_with fail
                  rw [← HX2.out]
                  refine (youngest_at (some ⟨bq, oq, none⟩) QM K Q c c X2 HQA2.out (by have := HK.out; omega) HK.out.symm rfl).mono ?_
                  rintro e X3 ⟨rfl, hb3⟩
                  have HY := Lib.hid (show youV Q c = ([] : List IncR).getLast? by simp [youV, HQE.out])
                  rw [HY.out]
                  have ho : (Value.tuple #[((([] : List IncR).getLast?).getD inc0).v, .bool ([] : List IncR).getLast?.isSome]) = .tuple #[.agg #[.int .i64 0, .int .i64 0, .int .i64 0, .int .i64 0, .int .i64 0], .bool false] := rfl
                  rw [ho]
                  have HB3 : Hid (Below wr.heap.size wr X3) := below_next HB2.out (Nat.le_refl _) hb3
                  clear hb3 ho
                  have HB4 : Hid (Below wr.heap.size wr (X3.alloc (.cells #[.int .i64 0, .int .i64 0, .int .i64 0, .int .i64 0, .int .i64 0] 41))) := HB3.out.alloc HB3.out.size _
                  have c1 := (HB3.out.cell (p := ⟨gw, c, none⟩) hgl).trans hcell
                  have c2 := (HB3.out.cell (p := ⟨bq, oq + c, none⟩) hbq).trans hqc
                  have z1 : gw < X3.heap.size := cell_lt c1
                  have z2 : bq < X3.heap.size := cell_lt c2
                  simp only [List.length_nil] at c1 c2
                  clear hcell hqc hgl hbq
                  go_wp2_with fail
                  go_quiet (fail)
                  go_wp2
                  exact ⟨⟨c + 1, by omega, by go_num, HFC.out.next (below_drewN HB4.out _)⟩, by simp [intOf]; omega⟩
                · subst hqn
                  obtain ⟨il, hil⟩ := nth_of (show (i1 :: q1).length - 1 < (i1 :: q1).length by simp)
                  have HLAST := Lib.hid (show (i1 :: q1).getLast? = some il by rw [List.getLast?_eq_getElem?]; exact hil)
                  obtain ⟨m, hm⟩ : ∃ m, m = q1.length := ⟨_, rfl⟩
                  have hml : (i1 :: q1).length = m + 1 := by simp [hm]
                  obtain ⟨hr1, hr2, hr3, hr4⟩ := HROW.out
                  have hA : ∃ g o, A = some ⟨g, o, none⟩ ∧ g < wr.heap.size ∧ wr.cell? ⟨g, o + 0, none⟩ = some (.int .i64 i1.sq) ∧ wr.cell? ⟨g, o + m, none⟩ = some (.int .i64 il.sq) := by
                    cases A with
                    | none => have := hr3 rfl; simp at hr1; omega
                    | some ad =>
                      obtain ⟨g, o, e, hg, h1, _⟩ := hr4 ad rfl
                      refine ⟨g, o, by rw [e], hg, h1 0 _ (by simp), h1 m _ ?_⟩
                      rw [List.getElem?_map, show m = (i1 :: q1).length - 1 by omega, hil]; rfl
                  obtain ⟨g, o, rfl, hgz, w0, w1⟩ := hA
                  simp only [Nat.add_zero] at w0
                  obtain ⟨o0, ho0⟩ : ∃ x, x = i1.sq := ⟨_, rfl⟩
                  obtain ⟨o4, ho4⟩ : ∃ x, x = il.sq := ⟨_, rfl⟩
                  rw [← ho0] at w0
                  rw [← ho4] at w1
                  have ho : (Value.tuple #[(((i1 :: q1).head?).getD inc0).v, .bool (i1 :: q1).head?.isSome]) = .tuple #[.agg #[.int .i64 o0, .int .i64 i1.bt, .int .i64 i1.fi, .int .i64 i1.la, .int .i64 i1.wo], .bool true] := by rw [ho0]; rfl
                  rw [ho]
                  have HO4 := Lib.hid ho4
                  have HML := Lib.hid hml
                  have hql' : m + 1 ≤ t + 1 := by omega
                  clear ho0 ho4 hm hml hil hr1 hr2 hr3 hr4 hql
                  have HB1 := Lib.hid hb1
                  have HQA1 := Lib.hid (HQA.out.next hb1)
                  clear hb1 ho
                  obtain ⟨X2, hX2⟩ : ∃ X2, X2 = X1.alloc (.cells #[.int .i64 o0, .int .i64 i1.bt, .int .i64 i1.fi, .int .i64 i1.la, .int .i64 i1.wo] 41) := ⟨_, rfl⟩
                  have hb2 : Below X1.heap.size X1 X2 := by rw [hX2]; exact (Below.refl _ _).alloc (Nat.le_refl _) _
                  have BO : Blk X2 X1.heap.size 41 #[.int .i64 o0, .int .i64 i1.bt, .int .i64 i1.fi, .int .i64 i1.la, .int .i64 i1.wo] := by rw [hX2]; exact Blk.new _ _ _
                  have HB2 : Hid (Below wr.heap.size wr X2) := below_next HB1.out (Nat.le_refl _) hb2
                  have HQA2 := Lib.hid (HQA1.out.next hb2)
                  have HX2 := Lib.hid hX2
                  clear hX2 hb2
                  go_wp2_with fail
                  rw [← HX2.out]
                  refine (youngest_at (some ⟨bq, oq, none⟩) QM K Q c c X2 HQA2.out (by have := HK.out; omega) HK.out.symm rfl).mono ?_
                  rintro e X3 ⟨rfl, hb3⟩
                  have HY := Lib.hid (show youV Q c = (i1 :: q1).getLast? by simp [youV, HQE.out])
                  rw [HY.out, HLAST.out]
                  have ho : (Value.tuple #[((some il).getD inc0).v, .bool (some il).isSome]) = .tuple #[.agg #[.int .i64 o4, .int .i64 il.bt, .int .i64 il.fi, .int .i64 il.la, .int .i64 il.wo], .bool true] := by rw [HO4.out]; rfl
                  rw [ho]
                  have HB3 : Hid (Below wr.heap.size wr X3) := below_next HB2.out (Nat.le_refl _) hb3
                  have BO3 := BO.next hb3
                  clear hb3 ho BO
                  have HB4 : Hid (Below wr.heap.size wr (X3.alloc (.cells #[.int .i64 o4, .int .i64 il.bt, .int .i64 il.fi, .int .i64 il.la, .int .i64 il.wo] 41))) := HB3.out.alloc HB3.out.size _
                  have c1 := (HB3.out.cell (p := ⟨gw, c, none⟩) hgl).trans hcell
                  have c2 := (HB3.out.cell (p := ⟨bq, oq + c, none⟩) hbq).trans hqc
                  have c3 := (HB3.out.cell (p := ⟨g, o, none⟩) hgz).trans w0
                  have c4 := (HB3.out.cell (p := ⟨g, o + m, none⟩) hgz).trans w1
                  have c5 := BO3.cell 0
                  simp at c5
                  rw [HML.out] at c1 c2
                  have z1 : gw < X3.heap.size := cell_lt c1
                  have z2 : bq < X3.heap.size := cell_lt c2
                  have z3 : g < X3.heap.size := cell_lt c3
                  have z5 : X1.heap.size < X3.heap.size := BO3.lt
                  have hmp : (0 : Int) < (m : Int) + 1 := by omega
                  have hmw : IntKind.i64.wrap ((m : Int) + 1 - 1) = (m : Int) := by rw [IntWalk.i64_in _ (by omega)]; omega
                  have hmw2 : IntKind.i64.wrap (m : Int) = (m : Int) := IntWalk.i64_in _ (by omega)
                  have hmb : 0 ≤ (m : Int) ∧ (m : Int) < (m : Int) + 1 := by omega
                  have hmb2 : (m : Int) < (m : Int) + 1 := by omega
                  clear hcell hqc hgl hbq w0 w1 hgz BO3
                  go_wp2_with fail
                  go_quiet (fail)
                  go_wp2
                  exact ⟨⟨c + 1, by omega, by go_num, HFC.out.next (below_drewN HB4.out _)⟩, by simp [intOf]; omega⟩
              · have hcK3 : ¬ (c : Int) < K := by omega
                go_wp2
                exact ⟨⟨t + 1, by omega, by go_num, HFC.out⟩, by simp [intOf]; omega⟩
      · have hlt2 : ¬ (t : Int) < 60 := by omega
        go_wp2_with fail
        refine (awake11_any wr).mono ?_
        rintro e w2 ⟨rfl, hb⟩
        have HB := Lib.hid (below_next HF.out.below (Nat.le_refl _) hb)
        clear hb
        go_wp2
        go_ret
        exact ⟨rfl, HB.out⟩
end Go.Proofs.Ytkknmphigpcjjaa
