/-
  Numbers of made spaces, and what holds of growth that is granted.
-/
import Derived.Test.YtmhbbjbbckdlbaaDoorVBel
import Derived.Test.YtmhbbjbbckdlbaaDoorVRep
import Derived.Test.YtmhbbjbbckdlbaaDoorBap
import Derived.Test.YtmhbbjbbckdlbaaDoorQAll
namespace Go.Proofs.YtmhbbjbbckdlbaaDoor
open Go.RowKit
set_option maxRecDepth 100000
set_option linter.unusedVariables false

theorem flat_memV {F : Nat → Fr} {n k : Nat} {I : List IncR} (h : AllP F n k I) {i : IncR} : i ∈ (qOf I).flatten ↔ i ∈ I := by
  simp only [qOf, List.flatten_cons, List.flatten_nil, List.mem_append, List.mem_filter]
  constructor
  · rintro (⟨h, _⟩ | ⟨h, _⟩ | ⟨h, _⟩ | h)
    · exact h
    · exact h
    · exact h
    · cases h
  · intro hi
    have := allP_belts h i hi
    rcases (by omega : i.bt = 0 ∨ i.bt = 1 ∨ i.bt = 2) with e | e | e
    · exact .inl ⟨hi, by simp [e]⟩
    · exact .inr (.inl ⟨hi, by simp [e]⟩)
    · exact .inr (.inr (.inl ⟨hi, by simp [e]⟩))
theorem moreK_le {K W D : Nat} : moreK K W D ≤ W + D := by
  unfold moreK
  have h := ceilV_le (a := W + D) (k := K) Nat.one_le_two_pow
  omega
theorem extZ_natV {k W d : Nat} (hW : W ≤ 16384) (hd : d ≤ 48) (hk : k ≤ 8) : extZ k W d = (moreK k W d : Nat) := by
  unfold extZ moreK
  have h1 := ceilV_mono k (show W ≤ W + d by omega)
  have h2 := ceilV_le (a := W + d) (k := k) Nat.one_le_two_pow
  rw [IntWalk.i64_in ((W : Int) + d) (by omega), show (W : Int) + d = ((W + d : Nat) : Int) by simp, ceilZ_nat (by omega) (by omega), ceilZ_nat (by omega) (by omega), IntWalk.i64_in _ (by omega)]
  omega
section
variable (s : ByteArray) (A : Option Addr) (c : Nat) (R : List Rl) (f : Int) (K : Nat) (B : Option Addr) (mk d : Nat) (A' : Option Addr) (n c' : Nat) (F : Nat → Fr) (QA : Option Addr) (QC : Nat) (Q : List (List IncR)) (w : World)
theorem refGrants_at (sq bt fi la : Int) (W D : Nat) (hW0 : W ≤ 16384) (hD0 : D ≤ 48) (hK : K ≤ 8) (hR : RArr w (Lt w.heap.size) A c R) (hW : WfR R) (hs : s.size ≤ 9223372036854775807) (hT : Tab w w.heap.size A' n c' F) (hn : n ≤ 64) (hQ : QArr w (Lt w.heap.size) QA QC Q) :
    Calls Tryd.prog 14 #[.agg #[.string s, .slice A R.length c, .int .i64 f], .agg #[.int .i64 K, .slice B mk d, .slice A' n c'], .slice QA Q.length QC, .agg #[.int .i64 sq, .int .i64 bt, .int .i64 fi, .int .i64 la, .int .i64 W], .int .i64 D] w fun e w' => e = .returned (.bool (grB (cplB s R f) n (usN F n) (lgQ K Q) (ceilV W K : Nat) (moreK K W D))) ∧ Below w.heap.size w w' :=
  refGrants_any s A c R f K B mk d A' n c' F QA QC Q w sq bt fi la W D (ceilV W K : Nat) (moreK K W D) hR hW hs hT hn hQ (extZ_natV hW0 hD0 hK) (by have := moreK_le (K := K) (W := W) (D := D); omega) (ceilZ_nat (by omega) (by omega)) (by omega) (by have h := ceilV_le (a := W) (k := K) Nat.one_le_two_pow; omega)
theorem devGrants_at (sq bt fi la : Int) (W D : Nat) (hW0 : W ≤ 16384) (hD0 : D ≤ 48) (hK : K ≤ 8) (hR : RArr w (Lt w.heap.size) A c R) (hW : WfR R) (hs : s.size ≤ 9223372036854775807) (hT : Tab w w.heap.size A' n c' F) (hn : n ≤ 64) (hQ : QArr w (Lt w.heap.size) QA QC Q) (hDb : Db w) :
    Calls Tryd.prog 13 #[.agg #[.string s, .slice A R.length c, .int .i64 f], .agg #[.int .i64 K, .slice B mk d, .slice A' n c'], .slice QA Q.length QC, .agg #[.int .i64 sq, .int .i64 bt, .int .i64 fi, .int .i64 la, .int .i64 W], .int .i64 D] w fun e w' => e = .returned (.bool (grB (cplB s R f) n (usN F n) (lgQ K Q) (ceilV W K : Nat) (moreK K W D))) ∧ Below w.heap.size w w' :=
  devGrants_any s A c R f K B mk d A' n c' F QA QC Q w sq bt fi la W D (ceilV W K : Nat) (moreK K W D) hR hW hs hT hn hQ hDb (extZ_natV hW0 hD0 hK) (by have := moreK_le (K := K) (W := W) (D := D); omega) (ceilZ_nat (by omega) (by omega)) (by omega) (by have h := ceilV_le (a := W) (k := K) Nat.one_le_two_pow; omega)
end

/-- The greatest increment: as few frames as this, if all have no more. -/
theorem lgL_le {K z : Int} : ∀ (q : List IncR) (a : Int), lgL K a q ≤ z ↔ a ≤ z ∧ ∀ i ∈ q, Hd.ceilZ i.wo K ≤ z
  | [], a => by simp [lgL]
  | i :: q, a => by
    have ih := lgL_le (K := K) (z := z) q (if a < Hd.ceilZ i.wo K then Hd.ceilZ i.wo K else a)
    have e : lgL K a (i :: q) = lgL K (if a < Hd.ceilZ i.wo K then Hd.ceilZ i.wo K else a) q := rfl
    rw [e, ih]
    constructor
    · rintro ⟨h1, h2⟩
      have h3 : a ≤ z ∧ Hd.ceilZ i.wo K ≤ z := by split at h1 <;> omega
      exact ⟨h3.1, fun x hx => by
        rcases List.mem_cons.1 hx with rfl | hx
        · exact h3.2
        · exact h2 x hx⟩
    · rintro ⟨h1, h2⟩
      have h3 := h2 i (by simp)
      exact ⟨by split <;> omega, fun x hx => h2 x (List.mem_cons_of_mem _ hx)⟩
theorem lgQ_iff {K z : Int} (hz : 0 ≤ z) (Q : List (List IncR)) : lgQ K Q ≤ z ↔ ∀ q ∈ Q, ∀ i ∈ q, Hd.ceilZ i.wo K ≤ z := by
  have key : ∀ (Q : List (List IncR)) (a : Int), Q.foldl (lgL K) a ≤ z ↔ a ≤ z ∧ ∀ q ∈ Q, ∀ i ∈ q, Hd.ceilZ i.wo K ≤ z := by
    intro Q
    induction Q with
    | nil => intro a; simp
    | cons q Q ih =>
      intro a
      rw [List.foldl_cons, ih, lgL_le]
      constructor
      · rintro ⟨⟨h1, h2⟩, h3⟩
        exact ⟨h1, fun x hx => by
          rcases List.mem_cons.1 hx with rfl | hx
          · exact h2
          · exact h3 x hx⟩
      · rintro ⟨h1, h2⟩
        exact ⟨⟨h1, h2 q (by simp)⟩, fun x hx => h2 x (List.mem_cons_of_mem _ hx)⟩
  unfold lgQ
  rw [key]
  exact ⟨fun h => h.2, fun h => ⟨hz, h⟩⟩
/-- What is granted for some frames is granted for fewer. -/
theorem grB_mono {cp : Bool} {n us : Nat} {lg cw : Int} {X Y : Nat} (h : grB cp n us lg cw Y = true) (hXY : X ≤ Y) : grB cp n us lg cw X = true := by
  unfold grB at h ⊢
  by_cases hx : X = 0
  · rw [if_pos hx]
  · rw [if_neg hx]
    rw [if_neg (by omega)] at h
    by_cases ho : n < us + Y
    · rw [if_pos ho] at h; cases h
    · rw [if_neg ho] at h
      rw [if_neg (by omega)]
      cases cp with
      | true =>
        simp at h ⊢
        omega
      | false =>
        simp at h ⊢
        split at h <;> split <;> omega
/-- What is granted has room. -/
theorem grB_room {cp : Bool} {n us : Nat} {lg cw : Int} {X : Nat} (h : grB cp n us lg cw X = true) (hu : us ≤ n) : us + X ≤ n := by
  unfold grB at h
  by_cases hx : X = 0
  · omega
  · rw [if_neg hx] at h
    by_cases ho : n < us + X
    · rw [if_pos ho] at h; cases h
    · omega
end Go.Proofs.YtmhbbjbbckdlbaaDoor
