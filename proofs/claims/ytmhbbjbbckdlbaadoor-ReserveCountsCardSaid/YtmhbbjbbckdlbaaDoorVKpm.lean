/-
  Growth that is granted: it can be allocated, and keeps the reserve. Plain mathematics.
-/
import Derived.Test.YtmhbbjbbckdlbaaDoorVMath
namespace Go.Proofs.YtmhbbjbbckdlbaaDoor
open Go.RowKit
set_option maxRecDepth 100000
set_option linter.unusedVariables false

/-- An increment of a made space that may grow: a new one of belt b, or one of the queue q. -/
def CanG (K m mk : Nat) (F : Nat → Fr) (b : Nat) (q : List IncR) (sq bt fi la : Int) (Wn : Nat) : Prop :=
  (sq = 99 ∧ bt = b ∧ fi = -1 ∧ la = -1 ∧ Wn = 0) ∨ ((⟨sq, bt, fi, la, (Wn : Int)⟩ : IncR) ∈ q ∧ 0 < Wn ∧ bt = b ∧ FitI K m mk F ⟨sq, bt, fi, la, (Wn : Int)⟩)
theorem cntO_high {F : Nat → Fr} {m : Nat} (h : ∀ j, (F j).ow ≤ 50) : cntO F 99 m = 0 := cntO_none fun f _ e => by have := h f; omega
theorem can_all {K m mk : Nat} {wd : Nat → Int} {F : Nat → Fr} {b : Nat} {q : List IncR} {sq bt fi la : Int} {Wn D : Nat} (hb : b < 4) (hv : ValidP K mk wd m F) (ho : ∀ j, (F j).ow ≤ 50) (hc : CanG K m mk F b q sq bt fi la Wn) (hD1 : 1 ≤ D) (hD2 : D ≤ 48) (hroom : moreK K Wn D ≤ cntP (owB F (-1)) m) :
    allE K mk wd m F sq bt fi la Wn D = 0 := by
  have hfit : FitsQ K m mk F sq bt fi la Wn := by
    rcases hc with ⟨rfl, rfl, rfl, rfl, rfl⟩ | ⟨_, _, _, h⟩
    · refine ⟨⟨by omega, by omega, by omega, by omega, 0, rfl, by omega, .inl ⟨ceilV_zero K, rfl⟩, fun _ => ⟨rfl, rfl⟩⟩, fun h => absurd h (by decide)⟩
    · exact h
  have hi : incB K mk wd m F sq bt fi la Wn = true := by
    unfold incB
    rw [Bool.and_eq_true]
    refine ⟨validB_yes hv, @decide_eq_true _ (Classical.propDecidable _) (by rw [Int.toNat_natCast]; exact hfit)⟩
  refine allE_ok (fun h => ?_) (fun h => ?_) ?_
  · rcases h with h | h | h
    · rw [hi] at h; cases h
    · omega
    · omega
  · rcases hc with ⟨rfl, _⟩ | ⟨_, h2, _⟩
    · rw [cntO_high ho] at h; omega
    · omega
  · rw [freeN_cntP, Int.toNat_natCast, Int.toNat_natCast, Int.toNat_natCast]
    omega
/-- What is known where Alloc gives a space. -/
theorem allE_zeroV {k nw n : Nat} {wd : Nat → Int} {F : Nat → Fr} {sq bt fi la wo d : Int} (h : allE k nw wd n F sq bt fi la wo d = 0) : incB k nw wd n F sq bt fi la wo = true ∧ 1 ≤ d ∧ d ≤ 48 ∧ ¬ (wo = 0 ∧ 0 < cntO F sq n) ∧ moreK k wo.toNat d.toNat ≤ freeN F n := by
  unfold allE at h
  rw [Int.toNat_natCast] at h
  split at h
  · cases h
  · rename_i h1
    split at h
    · cases h
    · rename_i h2
      split at h
      · cases h
      · rename_i h3
        refine ⟨?_, by omega, by omega, h2, by omega⟩
        cases e : incB k nw wd n F sq bt fi la wo
        · exact absurd (.inl e) h1
        · rfl
/-- The free frames behind Alloc. -/
theorem all_free {K m mk : Nat} {wd : Nat → Int} {F : Nat → Fr} {sq bt fi la : Int} {Wn D : Nat} (h : allE K mk wd m F sq bt fi la Wn D = 0) :
    cntP (owB (allG K m F sq bt fi la Wn D).F (-1)) m + moreK K Wn D = cntP (owB F (-1)) m := by
  obtain ⟨hi, h1, h2, h3, h4⟩ := allE_zeroV h
  rw [Int.toNat_natCast, Int.toNat_natCast] at h4
  obtain ⟨hv, hfq⟩ := incB_yes hi
  rw [Int.toNat_natCast] at hfq
  have hst := fits_stB hfq.1
  obtain ⟨⟨_, _, _, _, W, hW, _, hc, _⟩, _⟩ := hfq
  obtain ⟨F', fi', la', hg, _, hf⟩ := growG_grown (k := K) hv.fv hst hc (moreK K Wn D) h4
  have e : (allG K m F sq bt fi la Wn D).F = F' := by
    unfold allG
    rw [Int.toNat_natCast, Int.toNat_natCast, Int.toNat_natCast, hg]
  rw [e, ← freeN_cntP, ← freeN_cntP]
  exact hf
/-- The reserve behind a growth that is granted. -/
theorem keeps_holds {cp : Bool} {m us fr : Nat} {lg lg' : Int} {K Wn D fr' : Nat} (hm : us + fr = m) (hg : grB cp m us lg (ceilV Wn K : Nat) (moreK K Wn D) = true) (hf : fr' + moreK K Wn D = fr) (hl : ∀ z : Int, lg ≤ z → ((ceilV (Wn + D) K : Nat) : Int) ≤ z → lg' ≤ z)
    (hsame : moreK K Wn D = 0 → ((ceilV Wn K : Nat) : Int) ≤ lg) (hh : needZ cp us lg ≤ (fr : Int)) : needZ cp (m - fr') lg' ≤ (fr' : Int) := by
  have hmore : ceilV (Wn + D) K = ceilV Wn K + moreK K Wn D := by
    unfold moreK
    have := ceilV_mono K (show Wn ≤ Wn + D by omega)
    omega
  unfold grB at hg
  cases cp with
  | true =>
    show ((m - fr' : Nat) : Int) ≤ fr'
    have hh : (us : Int) ≤ fr := hh
    by_cases hx : moreK K Wn D = 0
    · omega
    · rw [if_neg hx] at hg
      by_cases ho : m < us + moreK K Wn D
      · rw [if_pos ho] at hg; cases hg
      · rw [if_neg ho] at hg
        simp at hg
        omega
  | false =>
    show lg' ≤ (fr' : Int)
    have hh : lg ≤ (fr : Int) := hh
    by_cases hx : moreK K Wn D = 0
    · have h1 := hsame hx
      rw [hx] at hf hmore
      exact hl _ (by omega) (by omega)
    · rw [if_neg hx] at hg
      by_cases ho : m < us + moreK K Wn D
      · rw [if_pos ho] at hg; cases hg
      · rw [if_neg ho] at hg
        simp at hg
        split at hg <;> exact hl _ (by omega) (by omega)
/-- The greatest increment behind a change of one queue. -/
theorem lgQ_set {K z : Int} {Q : List (List IncR)} {b : Nat} {q' : List IncR} (hz : 0 ≤ z) (h1 : lgQ K Q ≤ z) (h2 : ∀ i ∈ q', Hd.ceilZ i.wo K ≤ z) : lgQ K (Q.set b q') ≤ z := by
  rw [lgQ_iff hz] at h1 ⊢
  intro q'' hq i hi
  rcases List.mem_or_eq_of_mem_set hq with h | rfl
  · exact h1 _ h i hi
  · exact h2 i hi
/-- The queues behind a growth. -/
def GoodQ (K rl : Nat) (lg : Int) (Wd : Nat) (Q2 : List (List IncR)) : Prop := Q2.length = rl ∧ ∀ z : Int, lg ≤ z → ((ceilV Wd K : Nat) : Int) ≤ z → lgQ K Q2 ≤ z
theorem good_rep {K Wd b k rl : Nat} {Q : List (List IncR)} {q : List IncR} {lg s bt fi la : Int} (hb : Q[b]? = some q) (hl : lg = lgQ K Q) (hr : Q.length = rl) (hk : K ≤ 8) (hw : Wd ≤ 20000) : GoodQ K rl lg Wd (Q.set b (q.set k ⟨s, bt, fi, la, (Wd : Int)⟩)) := by
  subst hl
  refine ⟨by rw [List.length_set, hr], fun z h1 h2 => lgQ_set (by have := lgQ_nonneg K Q; omega) h1 fun i hi => ?_⟩
  rcases List.mem_or_eq_of_mem_set hi with h | rfl
  · exact (lgQ_iff (by have := lgQ_nonneg K Q; omega) Q).1 h1 q (List.mem_iff_getElem?.2 ⟨b, hb⟩) i h
  · show Hd.ceilZ (Wd : Int) K ≤ z
    rw [ceilZ_nat (by omega) (by omega)]
    exact h2
theorem good_add {K Wd b rl : Nat} {Q : List (List IncR)} {q : List IncR} {lg s bt fi la : Int} (hb : Q[b]? = some q) (hl : lg = lgQ K Q) (hr : Q.length = rl) (hk : K ≤ 8) (hw : Wd ≤ 20000) : GoodQ K rl lg Wd (Q.set b (q ++ [⟨s, bt, fi, la, (Wd : Int)⟩])) := by
  subst hl
  refine ⟨by rw [List.length_set, hr], fun z h1 h2 => lgQ_set (by have := lgQ_nonneg K Q; omega) h1 fun i hi => ?_⟩
  rcases List.mem_append.1 hi with h | h
  · exact (lgQ_iff (by have := lgQ_nonneg K Q; omega) Q).1 h1 q (List.mem_iff_getElem?.2 ⟨b, hb⟩) i h
  · rw [List.mem_singleton] at h
    subst h
    show Hd.ceilZ (Wd : Int) K ≤ z
    rw [ceilZ_nat (by omega) (by omega)]
    exact h2
theorem can_same {K m mk : Nat} {F : Nat → Fr} {b : Nat} {Q : List (List IncR)} {q : List IncR} {sq bt fi la lg : Int} {Wn : Nat} (hc : CanG K m mk F b q sq bt fi la Wn) (hb : Q[b]? = some q) (hl : lg = lgQ K Q) (hk : K ≤ 8) (hw : Wn ≤ 16384) : ((ceilV Wn K : Nat) : Int) ≤ lg := by
  subst hl
  rcases hc with ⟨_, _, _, _, rfl⟩ | ⟨h, _⟩
  · rw [ceilV_zero]; exact lgQ_nonneg K Q
  · have h1 := (lgQ_iff (lgQ_nonneg K Q) Q).1 (Int.le_refl _) q (List.mem_iff_getElem?.2 ⟨b, hb⟩) _ h
    dsimp only at h1
    rw [ceilZ_nat (by omega) (by omega)] at h1
    exact h1
theorem can_belt {K m mk : Nat} {F : Nat → Fr} {b : Nat} {q : List IncR} {sq bt fi la : Int} {Wn : Nat} (hc : CanG K m mk F b q sq bt fi la Wn) : bt = b := by
  rcases hc with ⟨_, h, _⟩ | ⟨_, _, h, _⟩ <;> exact h
/-- The copy of everything fits. -/
theorem keeps_half {m us X : Nat} {lg cw : Int} (h : grB true m us lg cw X = true) (hX : X ≠ 0) : 2 * (us + X) ≤ m := by
  unfold grB at h
  rw [if_neg hX] at h
  by_cases ho : m < us + X
  · rw [if_pos ho] at h; cases h
  · rw [if_neg ho] at h
    simp at h
    omega
end Go.Proofs.YtmhbbjbbckdlbaaDoor
