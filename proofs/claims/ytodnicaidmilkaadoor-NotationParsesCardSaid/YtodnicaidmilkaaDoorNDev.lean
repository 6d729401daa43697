/-
  The developers' way of reading a text, as plain functions; it gives what the grammar gives.
-/
import Derived.Test.YtodnicaidmilkaaDoorNCfg
namespace Go.Proofs.YtodnicaidmilkaaDoor
open Go.RowKit
set_option maxRecDepth 100000
set_option linter.unusedVariables false

/-- The bytes of one kind, m of them at most. -/
def runL (B : Nat → Bool) (m : Nat) (L : List Nat) : List Nat := (L.takeWhile B).take m
def dnumP (L : List Nat) : Option (Nat × List Nat) :=
  if [48].isPrefixOf L then some (0, L.drop 1) else if (runL digB 4 L).length = 0 then none else some (valD (runL digB 4 L), L.drop (runL digB 4 L).length)
def afterD (t L : List Nat) : Option (Nat × List Nat) := (fixP t L).bind dnumP
def dshP (L : List Nat) : Option (Nat × List Nat) :=
  if tAll.isPrefixOf L then some (0, L.drop 3)
  else (dnumP L).bind fun x => if x.1 = 0 then none else (fixP tPct x.2).bind fun K => if x.1 ≤ 100 then some (x.1, K) else none
def drulP (L : List Nat) : Option (Pr × List Nat) :=
  (dshP L).bind fun x => (afterD tSl x.2).bind fun y => (afterD tSl y.2).bind fun z => (afterD tGt z.2).bind fun u => some (⟨x.1, y.1, z.1, u.1⟩, u.2)
def drlsP : Nat → List Nat → Option (List Pr × List Nat)
  | 0, _ => none
  | n + 1, L => (drulP L).bind fun x => match fixP tCo x.2 with
    | some K => (drlsP n K).bind fun y => some (x.1 :: y.1, y.2)
    | none => some ([x.1], x.2)
def cfgD (L : List Nat) : Option ((List Nat × Nat × List Pr) × List Nat) :=
  if (runL chrB 16 L).length = 0 then none
  else (afterD tFull (L.drop (runL chrB 16 L).length)).bind fun x => (fixP tCol x.2).bind fun K => (drlsP 1025 K).bind fun y => some ((runL chrB 16 L, x.1, y.1), y.2)
def textD (L : List Nat) : Option (List Nat × Nat × List Pr) := (cfgD L).bind fun y => if y.2 = [] then some y.1 else none

theorem run_pre (B : Nat → Bool) (m : Nat) (L : List Nat) : runL B m L ++ L.drop (runL B m L).length = L := by
  have h1 : (L.takeWhile B) = L.take (L.takeWhile B).length := by
    have h := congrArg (List.take (L.takeWhile B).length) (List.takeWhile_append_dropWhile (p := B) (l := L))
    rw [List.take_left] at h
    exact h
  have h2 : runL B m L = L.take (min m (L.takeWhile B).length) := by
    unfold runL
    rw [h1, List.take_take]
    simp
  have h3 : (runL B m L).length = min m (L.takeWhile B).length := by unfold runL; rw [List.length_take]
  rw [h3, h2]
  exact List.take_append_drop _ _
theorem run_all (B : Nat → Bool) (m : Nat) (L : List Nat) : ∀ c ∈ runL B m L, B c = true := fun c hc => by
  have h := List.mem_of_mem_take hc
  clear hc
  induction L with
  | nil => simp at h
  | cons d L ih =>
    rw [List.takeWhile_cons] at h
    split at h
    · rename_i hd
      simp at h
      rcases h with rfl | h
      · exact hd
      · exact ih (by simpa using h)
    · simp at h
theorem run_le (B : Nat → Bool) (m : Nat) (L : List Nat) : (runL B m L).length ≤ m := by unfold runL; rw [List.length_take]; omega
theorem run_app {B : Nat → Bool} {m : Nat} {A K : List Nat} (hA : ∀ c ∈ A, B c = true) (hm : A.length ≤ m) (hK : ∀ c, K.head? = some c → B c = false) : runL B m (A ++ K) = A := by
  have e : (A ++ K).takeWhile B = A := by
    induction A with
    | nil =>
      cases K with
      | nil => rfl
      | cons c K => rw [List.nil_append, List.takeWhile_cons, hK c rfl]; rfl
    | cons d A ih =>
      rw [List.cons_append, List.takeWhile_cons, hA d (by simp)]
      simp only [if_true]
      rw [ih (fun c hc => hA c (by simp [hc])) (by simp at hm; omega)]
  unfold runL
  rw [e, List.take_of_length_le hm]

theorem zero_pre {L : List Nat} : [48].isPrefixOf L = true ↔ L.head? = some 48 := by
  cases L with
  | nil => simp
  | cons c L =>
    simp [List.isPrefixOf]
    exact eq_comm
theorem dnum_of {L K : List Nat} {n : Nat} (h : dnumP L = some (n, K)) : L = decL n ++ K ∧ n ≤ 9999 := by
  unfold dnumP at h
  split at h
  · rename_i h0
    injection h with h
    injection h with h1 h2
    subst h1 h2
    rw [zero_pre] at h0
    cases L with
    | nil => simp at h0
    | cons c L =>
      simp at h0
      subst h0
      exact ⟨by rw [decL_small (by omega)]; rfl, by omega⟩
  · rename_i h0
    split at h
    · cases h
    · rename_i h1
      injection h with h
      injection h with h2 h3
      subst h2 h3
      obtain ⟨v1, v2⟩ := valD_dec (run_all digB 4 L) h1 (run_le digB 4 L) (fun ⟨e1, e2⟩ => h0 (by
        rw [zero_pre]
        have := run_pre digB 4 L
        rw [← this]
        cases hr : runL digB 4 L with
        | nil => rw [hr] at e2; simp at e2
        | cons d D => rw [hr] at e2; simpa using e2))
      exact ⟨by rw [v2, run_pre], v1⟩
theorem decL_digs {n : Nat} (h : n ≤ 9999) : (∀ c ∈ decL n, digB c = true) ∧ 0 < (decL n).length ∧ (decL n).length ≤ 4 ∧ valD (decL n) = n ∧ (n ≠ 0 → ∀ K, (decL n ++ K).head? ≠ some 48) := by
  rcases decL_cases h with ⟨h1, e⟩ | ⟨h1, h2, e⟩ | ⟨h1, h2, e⟩ | ⟨h1, e⟩
  · rw [e]
    refine ⟨fun c hc => ?_, by simp, by simp, by simp [valD], fun h0 K => by simp; omega⟩
    simp at hc; subst hc; exact dig_in (by omega) (by omega)
  · rw [e]
    refine ⟨fun c hc => ?_, by simp, by simp, by simp [valD]; omega, fun _ K => by simp; omega⟩
    simp at hc; rcases hc with rfl | rfl <;> exact dig_in (by omega) (by omega)
  · rw [e]
    refine ⟨fun c hc => ?_, by simp, by simp, by simp [valD]; omega, fun _ K => by simp; omega⟩
    simp at hc; rcases hc with rfl | rfl | rfl <;> exact dig_in (by omega) (by omega)
  · rw [e]
    refine ⟨fun c hc => ?_, by simp, by simp, by simp [valD]; omega, fun _ K => by simp; omega⟩
    simp at hc; rcases hc with rfl | rfl | rfl | rfl <;> exact dig_in (by omega) (by omega)
theorem dnum_mk {n : Nat} (h : n ≤ 9999) {K : List Nat} (hK : NoDig K) : dnumP (decL n ++ K) = some (n, K) := by
  obtain ⟨d1, d2, d3, d4, d5⟩ := decL_digs h
  unfold dnumP
  by_cases h0 : n = 0
  · subst h0
    rw [decL_small (by omega), if_pos (by rw [zero_pre]; rfl)]
    rfl
  · rw [if_neg (by rw [zero_pre]; exact d5 h0 K), run_app d1 d3 hK, if_neg (by omega), d4, List.drop_left]
theorem after_of {t L K : List Nat} {n : Nat} (h : afterD t L = some (n, K)) : L = t ++ (decL n ++ K) ∧ n ≤ 9999 := by
  unfold afterD at h
  rw [Option.bind_eq_some_iff] at h
  obtain ⟨M, h1, h2⟩ := h
  obtain ⟨e2, b⟩ := dnum_of h2
  exact ⟨by rw [fixP_of h1, e2], b⟩
theorem after_mk (t : List Nat) {n : Nat} (h : n ≤ 9999) {K : List Nat} (hK : NoDig K) : afterD t (t ++ (decL n ++ K)) = some (n, K) := by
  unfold afterD
  rw [fixP_mk, Option.bind_some, dnum_mk h hK]
theorem all_pre {L : List Nat} (h : tAll.isPrefixOf L = true) : L = tAll ++ L.drop 3 := by
  rw [List.isPrefixOf_iff_prefix] at h
  obtain ⟨K, rfl⟩ := h
  rfl
theorem all_not {L : List Nat} (h : L.head? ≠ some 97) : ¬ tAll.isPrefixOf L = true := fun e => h (by rw [all_pre e]; rfl)
theorem dsh_of {L K : List Nat} {p : Nat} (h : dshP L = some (p, K)) : L = shL p ++ K ∧ p ≤ 100 := by
  unfold dshP at h
  split at h
  · rename_i h0
    injection h with h
    injection h with h1 h2
    subst h1 h2
    exact ⟨all_pre h0, by omega⟩
  · rw [Option.bind_eq_some_iff] at h
    obtain ⟨⟨n, M⟩, h1, h⟩ := h
    split at h
    · cases h
    · rename_i h2
      have h2 : n ≠ 0 := h2
      rw [Option.bind_eq_some_iff] at h
      obtain ⟨M2, h3, h⟩ := h
      split at h
      · rename_i h4
        have h4 : n ≤ 100 := h4
        injection h with h
        injection h with h5 h6
        have h5 : n = p := h5
        subst h5 h6
        obtain ⟨e1, _⟩ := dnum_of h1
        have e2 : M = tPct ++ M2 := fixP_of h3
        refine ⟨?_, h4⟩
        unfold shL
        rw [if_neg h2, e1, e2, List.append_assoc]
      · cases h
theorem dsh_mk {p : Nat} (h : p ≤ 100) (K : List Nat) : dshP (shL p ++ K) = some (p, K) := by
  unfold dshP shL
  by_cases h0 : p = 0
  · subst h0
    rw [if_pos rfl, if_pos (by rw [List.isPrefixOf_iff_prefix]; exact List.prefix_append _ _)]
    rfl
  · rw [if_neg h0, List.append_assoc, if_neg (all_not (decL_head (by omega) _)), dnum_mk (by omega) (nd_pct K), Option.bind_some, if_neg h0, fixP_mk, Option.bind_some, if_pos h]
theorem drul_of {L K : List Nat} {r : Pr} (h : drulP L = some (r, K)) : L = rulL r ++ K ∧ PrOk r := by
  unfold drulP at h
  rw [Option.bind_eq_some_iff] at h
  obtain ⟨⟨p, L1⟩, h1, h⟩ := h
  rw [Option.bind_eq_some_iff] at h
  obtain ⟨⟨l, L2⟩, h2, h⟩ := h
  rw [Option.bind_eq_some_iff] at h
  obtain ⟨⟨b, L3⟩, h3, h⟩ := h
  rw [Option.bind_eq_some_iff] at h
  obtain ⟨⟨t, L4⟩, h4, h⟩ := h
  injection h with h
  injection h with h8 h9
  have h9 : L4 = K := h9
  subst h8 h9
  obtain ⟨e1, p1⟩ := dsh_of h1
  obtain ⟨e2, b2⟩ := after_of h2
  obtain ⟨e3, b3⟩ := after_of h3
  obtain ⟨e4, b4⟩ := after_of h4
  have e2 : L1 = tSl ++ (decL l ++ L2) := e2
  have e3 : L2 = tSl ++ (decL b ++ L3) := e3
  have e4 : L3 = tGt ++ (decL t ++ L4) := e4
  refine ⟨?_, p1, b2, b3, b4⟩
  unfold rulL
  rw [e1, e2, e3, e4]
  simp only [List.append_assoc]
theorem drul_mk {r : Pr} (h : PrOk r) {K : List Nat} (hK : NoDig K) : drulP (rulL r ++ K) = some (r, K) := by
  obtain ⟨h1, h2, h3, h4⟩ := h
  unfold drulP rulL
  simp only [List.append_assoc]
  rw [dsh_mk h1, Option.bind_some, after_mk tSl h2 (nd_sl _), Option.bind_some, after_mk tSl h3 (nd_gt _), Option.bind_some, after_mk tGt h4 hK, Option.bind_some]
theorem drls_of : ∀ (n : Nat) (L : List Nat) (R : List Pr) (K : List Nat), drlsP n L = some (R, K) → L = rlsL R ++ K ∧ R ≠ [] ∧ ∀ r ∈ R, PrOk r
  | 0, L, R, K, h => by cases h
  | n + 1, L, R, K, h => by
    unfold drlsP at h
    rw [Option.bind_eq_some_iff] at h
    obtain ⟨⟨r, L1⟩, h1, h⟩ := h
    obtain ⟨e1, o1⟩ := drul_of h1
    simp only at h
    rcases h2 : fixP tCo L1 with _ | L2
    · rw [h2] at h
      injection h with h
      injection h with h3 h4
      subst h3 h4
      refine ⟨e1, by simp, fun x hx => ?_⟩
      simp at hx
      subst hx
      exact o1
    · rw [h2] at h
      simp only at h
      rw [Option.bind_eq_some_iff] at h
      obtain ⟨⟨S, K2⟩, h3, h⟩ := h
      injection h with h
      injection h with h4 h5
      have h5 : K2 = K := h5
      subst h4 h5
      obtain ⟨e3, n3, o3⟩ := drls_of n L2 S K2 h3
      have e2 := fixP_of h2
      refine ⟨?_, by simp, fun x hx => ?_⟩
      · cases S with
        | nil => exact absurd rfl n3
        | cons s S =>
          have e4 : rlsL (r :: s :: S) = rulL r ++ (tCo ++ rlsL (s :: S)) := rfl
          show L = rlsL (r :: s :: S) ++ K2
          rw [e1, e2, e3, e4]
          simp only [List.append_assoc]
      · simp at hx
        rcases hx with rfl | hx
        · exact o1
        · exact o3 x hx
theorem drls_mk : ∀ (R : List Pr) (n : Nat), R ≠ [] → R.length ≤ n → (∀ r ∈ R, PrOk r) → drlsP n (rlsL R) = some (R, [])
  | [], _, h, _, _ => absurd rfl h
  | [r], n + 1, _, _, h => by
    have e := drul_mk (h r (by simp)) noDig_nil
    rw [List.append_nil] at e
    unfold drlsP rlsL
    rw [e, Option.bind_some]
    rfl
  | r :: s :: R, n + 1, _, hn, h => by
    have ih := drls_mk (s :: R) n (by simp) (by simp at hn ⊢; omega) (fun x hx => h x (by simp [hx]))
    have e : rlsL (r :: s :: R) = rulL r ++ (tCo ++ rlsL (s :: R)) := rfl
    rw [e]
    unfold drlsP
    rw [drul_mk (h r (by simp)) (nd_co _), Option.bind_some]
    simp only
    rw [fixP_mk]
    simp only
    rw [ih, Option.bind_some]
theorem textD_of {L nm : List Nat} {f : Nat} {R : List Pr} (h : textD L = some (nm, f, R)) : L = textL nm f R ∧ NmOk nm ∧ f ≤ 9999 ∧ R ≠ [] ∧ ∀ r ∈ R, PrOk r := by
  unfold textD at h
  rw [Option.bind_eq_some_iff] at h
  obtain ⟨⟨x, K⟩, h0, h⟩ := h
  split at h
  · rename_i hK
    have hK : K = [] := hK
    injection h with h
    have h : x = (nm, f, R) := h
    subst h hK
    unfold cfgD at h0
    split at h0
    · cases h0
    · rename_i hn
      rw [Option.bind_eq_some_iff] at h0
      obtain ⟨⟨g, L1⟩, h1, h0⟩ := h0
      rw [Option.bind_eq_some_iff] at h0
      obtain ⟨L2, h2, h0⟩ := h0
      rw [Option.bind_eq_some_iff] at h0
      obtain ⟨⟨S, L3⟩, h3, h0⟩ := h0
      injection h0 with h0
      injection h0 with h4 h5
      injection h4 with h6 h7
      injection h7 with h8 h9
      have h8 : g = f := h8
      have h9 : S = R := h9
      have h5 : L3 = [] := h5
      subst h6 h8 h9 h5
      obtain ⟨e1, b1⟩ := after_of h1
      have e2 : L1 = tCol ++ L2 := fixP_of h2
      obtain ⟨e3, n3, o3⟩ := drls_of _ _ _ _ h3
      refine ⟨?_, ⟨by omega, run_le _ _ _, run_all _ _ _⟩, b1, n3, o3⟩
      unfold textL
      rw [List.append_nil] at e3
      rw [← e3, ← e2, ← e1, run_pre]
  · cases h
theorem textD_mk {nm : List Nat} {f : Nat} {R : List Pr} (hn : NmOk nm) (hf : f ≤ 9999) (h0 : R ≠ []) (hl : R.length ≤ 1025) (hR : ∀ r ∈ R, PrOk r) : textD (textL nm f R) = some (nm, f, R) := by
  obtain ⟨n1, n2, n3⟩ := hn
  have e : runL chrB 16 (textL nm f R) = nm := by
    unfold textL
    exact run_app n3 n2 fun c hc => by
      have : c = 32 := by
        simp [tFull] at hc
        exact hc.symm
      subst this
      rfl
  have e2 : (textL nm f R).drop nm.length = tFull ++ (decL f ++ (tCol ++ rlsL R)) := by
    unfold textL
    rw [List.drop_left]
  unfold textD cfgD
  rw [e, e2, if_neg (by omega), after_mk tFull hf (nd_col _), Option.bind_some, fixP_mk, Option.bind_some, drls_mk R 1025 h0 hl hR, Option.bind_some, Option.bind_some, if_pos rfl]
/-- The developers' way of reading gives what the grammar gives. -/
theorem textD_is {L : List Nat} (hL : L.length ≤ 1024) : textD L = textP L := by
  rcases e : textP L with _ | ⟨nm, f, R⟩
  · rcases e2 : textD L with _ | ⟨nm, f, R⟩
    · rfl
    · obtain ⟨h1, h2, h3, h4, h5⟩ := textD_of e2
      have := textP_mk h2 h3 h4 h5
      rw [← h1, e] at this
      cases this
  · obtain ⟨h1, h2, h3, h4, h5⟩ := textP_of e
    have hl : R.length ≤ 1025 := by
      have a := rlsL_len R
      have b : (rlsL R).length ≤ L.length := by
        rw [h1]
        unfold textL
        simp only [List.length_append]
        omega
      omega
    have := textD_mk h2 h3 h4 hl h5
    rw [← h1] at this
    exact this
end Go.Proofs.YtodnicaidmilkaaDoor
