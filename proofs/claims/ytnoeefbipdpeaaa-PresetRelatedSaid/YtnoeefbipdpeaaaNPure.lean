/-
  Plain mathematics of chapter 13: the text of a configuration as a list of bytes, and a parser as a function; what was printed is read again, and what is read is the one text of what it says. Nothing here speaks of the program.
-/
import Derived.Test.YtnoeefbipdpeaaaCPure
namespace Go.Proofs.Ytnoeefbipdpeaaa
set_option maxRecDepth 100000
set_option linter.unusedVariables false

/-- A rule as its text says it: the percentage (0: all), limit, batch, target. -/
structure Pr where
  p : Nat
  l : Nat
  b : Nat
  t : Nat

/-- A number in decimal. -/
def decL (n : Nat) : List Nat := if h : n < 10 then [48 + n] else decL (n / 10) ++ [48 + n % 10]
termination_by n
decreasing_by omega
def valD (ds : List Nat) : Nat := ds.foldl (fun n c => n * 10 + (c - 48)) 0
def numP (L : List Nat) : Option (Nat × List Nat) :=
  if (L.takeWhile digB).length = 0 ∨ 4 < (L.takeWhile digB).length ∨ (1 < (L.takeWhile digB).length ∧ L.head? = some 48) then none else some (valD (L.takeWhile digB), L.dropWhile digB)
def fixP (t L : List Nat) : Option (List Nat) := if t.isPrefixOf L then some (L.drop t.length) else none
/-- all, %, and the like. -/
def tAll : List Nat := [97, 108, 108]
def tPct : List Nat := [37]
def tSl : List Nat := [47]
def tGt : List Nat := [62]
def tCo : List Nat := [44, 32]
def tFull : List Nat := [32, 102, 117, 108, 108, 32]
def tCol : List Nat := [58, 32]
def shP (L : List Nat) : Option (Nat × List Nat) :=
  if L.head? = some 97 then (fixP tAll L).bind fun K => some (0, K)
  else (numP L).bind fun x => (fixP tPct x.2).bind fun K => if 1 ≤ x.1 ∧ x.1 ≤ 100 then some (x.1, K) else none
def rulP (L : List Nat) : Option (Pr × List Nat) :=
  (shP L).bind fun x => (fixP tSl x.2).bind fun K => (numP K).bind fun y => (fixP tSl y.2).bind fun K => (numP K).bind fun z => (fixP tGt z.2).bind fun K => (numP K).bind fun u => some (⟨x.1, y.1, z.1, u.1⟩, u.2)
/-- The rules, n of them at most. -/
def rlsP : Nat → List Nat → Option (List Pr)
  | 0, _ => none
  | n + 1, L => (rulP L).bind fun x => if x.2 = [] then some [x.1] else (fixP tCo x.2).bind fun K => (rlsP n K).bind fun R => some (x.1 :: R)
/-- Name, full and rules of a text. -/
def textP (L : List Nat) : Option (List Nat × Nat × List Pr) :=
  if (L.takeWhile fun c => decide (c ≠ 32)).length < 1 ∨ 16 < (L.takeWhile fun c => decide (c ≠ 32)).length ∨ (L.takeWhile fun c => decide (c ≠ 32)).all chrB = false then none
  else (fixP tFull (L.dropWhile fun c => decide (c ≠ 32))).bind fun K => (numP K).bind fun x => (fixP tCol x.2).bind fun K => (rlsP K.length K).bind fun R => some (L.takeWhile fun c => decide (c ≠ 32), x.1, R)

def shL (p : Nat) : List Nat := if p = 0 then tAll else decL p ++ tPct
def rulL (r : Pr) : List Nat := shL r.p ++ (tSl ++ (decL r.l ++ (tSl ++ (decL r.b ++ (tGt ++ decL r.t)))))
def rlsL : List Pr → List Nat
  | [] => []
  | [r] => rulL r
  | r :: R => rulL r ++ (tCo ++ rlsL R)
def textL (nm : List Nat) (f : Nat) (R : List Pr) : List Nat := nm ++ (tFull ++ (decL f ++ (tCol ++ rlsL R)))

/-! Fixed texts. -/
theorem fixP_mk (t K : List Nat) : fixP t (t ++ K) = some K := by
  unfold fixP
  rw [if_pos (by rw [List.isPrefixOf_iff_prefix]; exact List.prefix_append t K), List.drop_left]
theorem fixP_of {t L K : List Nat} (h : fixP t L = some K) : L = t ++ K := by
  unfold fixP at h
  split at h
  · rename_i h2
    injection h with h
    subst h
    rw [List.isPrefixOf_iff_prefix] at h2
    obtain ⟨M, rfl⟩ := h2
    rw [List.drop_left]
  · cases h

/-! Numbers. -/
theorem decL_small {n : Nat} (h : n < 10) : decL n = [48 + n] := by rw [decL, dif_pos h]
theorem decL_big {n : Nat} (h : ¬ n < 10) : decL n = decL (n / 10) ++ [48 + n % 10] := by rw [decL, dif_neg h]
/-- The digits of a number of at most four. -/
theorem decL_cases {n : Nat} (h : n ≤ 9999) : (n < 10 ∧ decL n = [48 + n]) ∨ (10 ≤ n ∧ n < 100 ∧ decL n = [48 + n / 10, 48 + n % 10]) ∨ (100 ≤ n ∧ n < 1000 ∧ decL n = [48 + n / 100, 48 + n / 10 % 10, 48 + n % 10]) ∨ (1000 ≤ n ∧ decL n = [48 + n / 1000, 48 + n / 100 % 10, 48 + n / 10 % 10, 48 + n % 10]) := by
  by_cases h1 : n < 10
  · exact .inl ⟨h1, decL_small h1⟩
  · by_cases h2 : n < 100
    · refine .inr (.inl ⟨by omega, h2, ?_⟩)
      rw [decL_big h1, decL_small (by omega)]
      rfl
    · by_cases h3 : n < 1000
      · refine .inr (.inr (.inl ⟨by omega, h3, ?_⟩))
        rw [decL_big h1, decL_big (n := n / 10) (by omega), decL_small (by omega), Nat.div_div_eq_div_mul]
        rfl
      · refine .inr (.inr (.inr ⟨by omega, ?_⟩))
        rw [decL_big h1, decL_big (n := n / 10) (by omega), decL_big (n := n / 10 / 10) (by omega), decL_small (by omega)]
        simp only [Nat.div_div_eq_div_mul]
        rfl
theorem dig_in {c : Nat} (h : 48 ≤ c) (h2 : c ≤ 57) : digB c = true := by unfold digB; simp [h, h2]
theorem dig_of {c : Nat} (h : digB c = true) : 48 ≤ c ∧ c ≤ 57 := by simpa [digB] using h
def NoDig (K : List Nat) : Prop := ∀ c, K.head? = some c → digB c = false
theorem span_app {ds K : List Nat} (h : ∀ c ∈ ds, digB c = true) (hK : NoDig K) : (ds ++ K).takeWhile digB = ds ∧ (ds ++ K).dropWhile digB = K := by
  induction ds with
  | nil =>
    cases K with
    | nil => exact ⟨rfl, rfl⟩
    | cons c K =>
      have := hK c rfl
      exact ⟨by rw [List.nil_append, List.takeWhile_cons, this]; rfl, by rw [List.nil_append, List.dropWhile_cons, this]; rfl⟩
  | cons d ds ih =>
    have hd := h d (by simp)
    obtain ⟨i1, i2⟩ := ih fun c hc => h c (by simp [hc])
    simp only [List.cons_append, List.takeWhile_cons, List.dropWhile_cons, hd, if_true, i1, i2]
    exact ⟨trivial, trivial⟩
theorem numP_mk {n : Nat} (h : n ≤ 9999) {K : List Nat} (hK : NoDig K) : numP (decL n ++ K) = some (n, K) := by
  have key : (∀ c ∈ decL n, digB c = true) ∧ 0 < (decL n).length ∧ (decL n).length ≤ 4 ∧ (1 < (decL n).length → (decL n ++ K).head? ≠ some 48) ∧ valD (decL n) = n := by
    rcases decL_cases h with ⟨h1, e⟩ | ⟨h1, h2, e⟩ | ⟨h1, h2, e⟩ | ⟨h1, e⟩
    · rw [e]
      refine ⟨fun c hc => ?_, by simp, by simp, by simp, by simp [valD]⟩
      simp at hc; subst hc; exact dig_in (by omega) (by omega)
    · rw [e]
      refine ⟨fun c hc => ?_, by simp, by simp, fun _ => by simp; omega, by simp [valD]; omega⟩
      simp at hc; rcases hc with rfl | rfl <;> exact dig_in (by omega) (by omega)
    · rw [e]
      refine ⟨fun c hc => ?_, by simp, by simp, fun _ => by simp; omega, by simp [valD]; omega⟩
      simp at hc; rcases hc with rfl | rfl | rfl <;> exact dig_in (by omega) (by omega)
    · rw [e]
      refine ⟨fun c hc => ?_, by simp, by simp, fun _ => by simp; omega, by simp [valD]; omega⟩
      simp at hc; rcases hc with rfl | rfl | rfl | rfl <;> exact dig_in (by omega) (by omega)
  obtain ⟨k1, k2, k3, k4, k5⟩ := key
  obtain ⟨s1, s2⟩ := span_app k1 hK
  unfold numP
  rw [s1, s2, if_neg (by rintro (h | h | ⟨h, h'⟩); (· omega); (· omega); (· exact k4 h h')), k5]
theorem digs_all (L : List Nat) : ∀ c ∈ L.takeWhile digB, digB c = true := fun c hc => by
  induction L with
  | nil => simp at hc
  | cons d L ih =>
    rw [List.takeWhile_cons] at hc
    split at hc
    · rename_i h
      simp at hc
      rcases hc with rfl | hc
      · exact h
      · exact ih (by simpa using hc)
    · simp at hc
theorem drop_noDig (L : List Nat) : NoDig (L.dropWhile digB) := fun c hc => by
  induction L with
  | nil => simp at hc
  | cons d L ih =>
    rw [List.dropWhile_cons] at hc
    split at hc
    · exact ih hc
    · rename_i h
      simp at hc
      subst hc
      simpa using h
theorem valD_dec {ds : List Nat} (h : ∀ c ∈ ds, digB c = true) (h0 : ds.length ≠ 0) (h4 : ds.length ≤ 4) (hz : ¬ (1 < ds.length ∧ ds.head? = some 48)) : valD ds ≤ 9999 ∧ decL (valD ds) = ds := by
  match ds, h0, h4 with
  | [a], _, _ =>
    have ha := dig_of (h a (by simp))
    have e : valD [a] = a - 48 := by simp [valD]
    rw [e]
    refine ⟨by omega, ?_⟩
    rw [decL_small (by omega)]
    congr 1; omega
  | [a, b], _, _ =>
    have ha := dig_of (h a (by simp))
    have hb := dig_of (h b (by simp))
    have hz' : a ≠ 48 := fun e => hz (by simp [e])
    have e : valD [a, b] = (a - 48) * 10 + (b - 48) := by simp [valD]
    obtain ⟨x, hx⟩ : ∃ x, x = valD [a, b] := ⟨_, rfl⟩
    rw [← hx] at e ⊢
    refine ⟨by omega, ?_⟩
    rcases decL_cases (n := x) (by omega) with ⟨h1, e'⟩ | ⟨h1, h2, e'⟩ | ⟨h1, h2, e'⟩ | ⟨h1, e'⟩
    · omega
    · rw [e']; simp; omega
    · omega
    · omega
  | [a, b, c], _, _ =>
    have ha := dig_of (h a (by simp))
    have hb := dig_of (h b (by simp))
    have hc := dig_of (h c (by simp))
    have hz' : a ≠ 48 := fun e => hz (by simp [e])
    have e : valD [a, b, c] = ((a - 48) * 10 + (b - 48)) * 10 + (c - 48) := by simp [valD]
    obtain ⟨x, hx⟩ : ∃ x, x = valD [a, b, c] := ⟨_, rfl⟩
    rw [← hx] at e ⊢
    refine ⟨by omega, ?_⟩
    rcases decL_cases (n := x) (by omega) with ⟨h1, e'⟩ | ⟨h1, h2, e'⟩ | ⟨h1, h2, e'⟩ | ⟨h1, e'⟩
    · omega
    · omega
    · rw [e']; simp; omega
    · omega
  | [a, b, c, d], _, _ =>
    have ha := dig_of (h a (by simp))
    have hb := dig_of (h b (by simp))
    have hc := dig_of (h c (by simp))
    have hd := dig_of (h d (by simp))
    have hz' : a ≠ 48 := fun e => hz (by simp [e])
    have e : valD [a, b, c, d] = (((a - 48) * 10 + (b - 48)) * 10 + (c - 48)) * 10 + (d - 48) := by simp [valD]
    obtain ⟨x, hx⟩ : ∃ x, x = valD [a, b, c, d] := ⟨_, rfl⟩
    rw [← hx] at e ⊢
    refine ⟨by omega, ?_⟩
    rcases decL_cases (n := x) (by omega) with ⟨h1, e'⟩ | ⟨h1, h2, e'⟩ | ⟨h1, h2, e'⟩ | ⟨h1, e'⟩
    · omega
    · omega
    · omega
    · rw [e']; simp; omega
theorem numP_of {L K : List Nat} {n : Nat} (h : numP L = some (n, K)) : L = decL n ++ K ∧ n ≤ 9999 ∧ NoDig K := by
  unfold numP at h
  split at h
  · cases h
  · rename_i h2
    injection h with h
    injection h with h3 h4
    subst h3 h4
    have hne : (L.takeWhile digB).length ≠ 0 := fun e => h2 (.inl e)
    obtain ⟨v1, v2⟩ := valD_dec (digs_all L) hne (Nat.not_lt.1 fun e => h2 (.inr (.inl e))) (fun ⟨e1, e2⟩ => h2 (.inr (.inr ⟨e1, by
      cases L with
      | nil => simp at e1
      | cons d L =>
        rw [List.takeWhile_cons] at e1 e2
        split at e2
        · simpa using e2
        · simp at e2⟩)))
    exact ⟨by rw [v2, List.takeWhile_append_dropWhile], v1, drop_noDig L⟩

/-! The grammar: what was printed is read. -/
def PrOk (r : Pr) : Prop := r.p ≤ 100 ∧ r.l ≤ 9999 ∧ r.b ≤ 9999 ∧ r.t ≤ 9999
theorem noDig_cons {c : Nat} {K : List Nat} (h : digB c = false) : NoDig (c :: K) := fun d hd => by
  simp at hd
  subst hd
  exact h
theorem noDig_nil : NoDig [] := fun d hd => by simp at hd
theorem nd_pct (K : List Nat) : NoDig (tPct ++ K) := noDig_cons rfl
theorem nd_sl (K : List Nat) : NoDig (tSl ++ K) := noDig_cons rfl
theorem nd_gt (K : List Nat) : NoDig (tGt ++ K) := noDig_cons rfl
theorem nd_co (K : List Nat) : NoDig (tCo ++ K) := noDig_cons rfl
theorem nd_col (K : List Nat) : NoDig (tCol ++ K) := noDig_cons rfl
theorem decL_head {n : Nat} (h : n ≤ 9999) (K : List Nat) : (decL n ++ K).head? ≠ some 97 := by
  rcases decL_cases h with ⟨h1, e⟩ | ⟨h1, h2, e⟩ | ⟨h1, h2, e⟩ | ⟨h1, e⟩ <;> (rw [e]; simp; omega)
theorem decL_pos (n : Nat) : 0 < (decL n).length := by
  rw [decL]
  split
  · simp
  · simp
theorem shP_mk {p : Nat} (h : p ≤ 100) (K : List Nat) : shP (shL p ++ K) = some (p, K) := by
  unfold shP shL
  by_cases h0 : p = 0
  · subst h0
    rw [if_pos rfl, if_pos (show (tAll ++ K).head? = some 97 from rfl), fixP_mk]
    rfl
  · rw [if_neg h0, List.append_assoc, if_neg (decL_head (by omega) _), numP_mk (by omega) (nd_pct K), Option.bind_some, fixP_mk, Option.bind_some, if_pos (by show 1 ≤ p ∧ p ≤ 100; omega)]
theorem rulP_mk {r : Pr} (h : PrOk r) {K : List Nat} (hK : NoDig K) : rulP (rulL r ++ K) = some (r, K) := by
  obtain ⟨h1, h2, h3, h4⟩ := h
  unfold rulP rulL
  simp only [List.append_assoc]
  rw [shP_mk h1, Option.bind_some, fixP_mk, Option.bind_some, numP_mk h2 (nd_sl _), Option.bind_some, fixP_mk, Option.bind_some, numP_mk h3 (nd_gt _), Option.bind_some, fixP_mk, Option.bind_some, numP_mk h4 hK, Option.bind_some]
theorem rulL_pos (r : Pr) : 0 < (rulL r).length := by
  unfold rulL
  have := decL_pos r.l
  simp only [List.length_append]
  omega
theorem rlsP_mk : ∀ (R : List Pr) (n : Nat), R ≠ [] → R.length ≤ n → (∀ r ∈ R, PrOk r) → rlsP n (rlsL R) = some R
  | [], _, h, _, _ => absurd rfl h
  | [r], n + 1, _, _, h => by
    have e := rulP_mk (h r (by simp)) noDig_nil
    rw [List.append_nil] at e
    unfold rlsP rlsL
    rw [e, Option.bind_some, if_pos rfl]
  | r :: s :: R, n + 1, _, hn, h => by
    have ih := rlsP_mk (s :: R) n (by simp) (by simp at hn ⊢; omega) (fun x hx => h x (by simp [hx]))
    have e : rlsL (r :: s :: R) = rulL r ++ (tCo ++ rlsL (s :: R)) := rfl
    rw [e]
    unfold rlsP
    rw [rulP_mk (h r (by simp)) (nd_co _), Option.bind_some, if_neg (by simp [tCo]), fixP_mk, Option.bind_some, ih, Option.bind_some]
theorem rlsL_len : ∀ R : List Pr, R.length ≤ (rlsL R).length
  | [] => Nat.zero_le _
  | [r] => by
    have := rulL_pos r
    simp [rlsL]
    omega
  | r :: s :: R => by
    have ih := rlsL_len (s :: R)
    have e : rlsL (r :: s :: R) = rulL r ++ (tCo ++ rlsL (s :: R)) := rfl
    rw [e, List.length_append, List.length_append]
    have := rulL_pos r
    simp only [List.length_cons] at ih ⊢
    omega
def NmOk (nm : List Nat) : Prop := 1 ≤ nm.length ∧ nm.length ≤ 16 ∧ ∀ c ∈ nm, chrB c = true
theorem span_name {nm K : List Nat} (h : ∀ c ∈ nm, chrB c = true) : (nm ++ 32 :: K).takeWhile (fun c => decide (c ≠ 32)) = nm ∧ (nm ++ 32 :: K).dropWhile (fun c => decide (c ≠ 32)) = 32 :: K := by
  induction nm with
  | nil => exact ⟨rfl, rfl⟩
  | cons d ds ih =>
    have hd : d ≠ 32 := fun e => by
      have := h d (by simp)
      rw [e] at this
      cases this
    obtain ⟨i1, i2⟩ := ih fun c hc => h c (by simp [hc])
    have hd2 : decide (d ≠ 32) = true := decide_eq_true hd
    rw [List.cons_append, List.takeWhile_cons, List.dropWhile_cons, if_pos hd2, if_pos hd2, i1, i2]
    exact ⟨rfl, rfl⟩
theorem textP_mk {nm : List Nat} {f : Nat} {R : List Pr} (hn : NmOk nm) (hf : f ≤ 9999) (h0 : R ≠ []) (hR : ∀ r ∈ R, PrOk r) : textP (textL nm f R) = some (nm, f, R) := by
  obtain ⟨n1, n2, n3⟩ := hn
  obtain ⟨s1, s2⟩ := span_name (nm := nm) (K := [102, 117, 108, 108, 32] ++ (decL f ++ (tCol ++ rlsL R))) n3
  have e : textL nm f R = nm ++ 32 :: ([102, 117, 108, 108, 32] ++ (decL f ++ (tCol ++ rlsL R))) := rfl
  have e2 : (32 :: ([102, 117, 108, 108, 32] ++ (decL f ++ (tCol ++ rlsL R))) : List Nat) = tFull ++ (decL f ++ (tCol ++ rlsL R)) := rfl
  unfold textP
  rw [e, s1, s2, e2, if_neg (by
    rintro (h | h | h)
    · omega
    · omega
    · rw [List.all_eq_true.2 n3] at h; cases h), fixP_mk, Option.bind_some, numP_mk hf (nd_col _), Option.bind_some, fixP_mk, Option.bind_some, rlsP_mk R _ h0 (rlsL_len R) hR, Option.bind_some]

/-! What is read is the one text of what it says. -/
theorem shP_of {L K : List Nat} {p : Nat} (h : shP L = some (p, K)) : L = shL p ++ K ∧ p ≤ 100 := by
  unfold shP at h
  split at h
  · rw [Option.bind_eq_some_iff] at h
    obtain ⟨M, h1, h2⟩ := h
    injection h2 with h2
    injection h2 with h2 h3
    subst h2 h3
    exact ⟨fixP_of h1, by omega⟩
  · rw [Option.bind_eq_some_iff] at h
    obtain ⟨⟨n, M⟩, h1, h⟩ := h
    rw [Option.bind_eq_some_iff] at h
    obtain ⟨M2, h2, h⟩ := h
    split at h
    · rename_i h4
      injection h with h
      injection h with h5 h6
      have h5 : n = p := h5
      subst h5 h6
      obtain ⟨e1, _, _⟩ := numP_of h1
      have e2 : M = tPct ++ M2 := fixP_of h2
      have h4 : 1 ≤ n ∧ n ≤ 100 := h4
      refine ⟨?_, h4.2⟩
      unfold shL
      rw [if_neg (by omega), e1, e2, List.append_assoc]
    · cases h
theorem rulP_of {L K : List Nat} {r : Pr} (h : rulP L = some (r, K)) : L = rulL r ++ K ∧ PrOk r ∧ NoDig K := by
  unfold rulP at h
  rw [Option.bind_eq_some_iff] at h
  obtain ⟨⟨p, L1⟩, h1, h⟩ := h
  rw [Option.bind_eq_some_iff] at h
  obtain ⟨L2, h2, h⟩ := h
  rw [Option.bind_eq_some_iff] at h
  obtain ⟨⟨l, L3⟩, h3, h⟩ := h
  rw [Option.bind_eq_some_iff] at h
  obtain ⟨L4, h4, h⟩ := h
  rw [Option.bind_eq_some_iff] at h
  obtain ⟨⟨b, L5⟩, h5, h⟩ := h
  rw [Option.bind_eq_some_iff] at h
  obtain ⟨L6, h6, h⟩ := h
  rw [Option.bind_eq_some_iff] at h
  obtain ⟨⟨t, L7⟩, h7, h⟩ := h
  injection h with h
  injection h with h8 h9
  have h9 : L7 = K := h9
  subst h8 h9
  obtain ⟨e1, p1⟩ := shP_of h1
  have e2 : L1 = tSl ++ L2 := fixP_of h2
  obtain ⟨e3, b3, _⟩ := numP_of h3
  have e4 : L3 = tSl ++ L4 := fixP_of h4
  obtain ⟨e5, b5, _⟩ := numP_of h5
  have e6 : L5 = tGt ++ L6 := fixP_of h6
  obtain ⟨e7, b7, d7⟩ := numP_of h7
  refine ⟨?_, ⟨p1, b3, b5, b7⟩, d7⟩
  unfold rulL
  rw [e1, e2, e3, e4, e5, e6, e7]
  simp only [List.append_assoc]
theorem rlsP_of : ∀ (n : Nat) (L : List Nat) (R : List Pr), rlsP n L = some R → L = rlsL R ∧ R ≠ [] ∧ ∀ r ∈ R, PrOk r
  | 0, L, R, h => by cases h
  | n + 1, L, R, h => by
    unfold rlsP at h
    rw [Option.bind_eq_some_iff] at h
    obtain ⟨⟨r, L1⟩, h1, h⟩ := h
    obtain ⟨e1, o1, _⟩ := rulP_of h1
    split at h
    · rename_i h2
      have h2 : L1 = [] := h2
      injection h with h
      subst h h2
      refine ⟨by rw [e1, List.append_nil]; rfl, by simp, fun x hx => ?_⟩
      simp at hx
      subst hx
      exact o1
    · rw [Option.bind_eq_some_iff] at h
      obtain ⟨L2, h2, h⟩ := h
      rw [Option.bind_eq_some_iff] at h
      obtain ⟨S, h3, h⟩ := h
      injection h with h
      subst h
      obtain ⟨e3, n3, o3⟩ := rlsP_of n L2 S h3
      have e2 : L1 = tCo ++ L2 := fixP_of h2
      refine ⟨?_, by simp, fun x hx => ?_⟩
      · cases S with
        | nil => exact absurd rfl n3
        | cons s S => rw [e1, e2, e3]; rfl
      · simp at hx
        rcases hx with rfl | hx
        · exact o1
        · exact o3 x hx
theorem take_drop_name (L : List Nat) : (L.takeWhile fun c => decide (c ≠ 32)) ++ (L.dropWhile fun c => decide (c ≠ 32)) = L := List.takeWhile_append_dropWhile
theorem textP_of {L nm : List Nat} {f : Nat} {R : List Pr} (h : textP L = some (nm, f, R)) : L = textL nm f R ∧ NmOk nm ∧ f ≤ 9999 ∧ R ≠ [] ∧ ∀ r ∈ R, PrOk r := by
  unfold textP at h
  split at h
  · cases h
  · rename_i h0
    rw [Option.bind_eq_some_iff] at h
    obtain ⟨L1, h1, h⟩ := h
    rw [Option.bind_eq_some_iff] at h
    obtain ⟨⟨g, L2⟩, h2, h⟩ := h
    rw [Option.bind_eq_some_iff] at h
    obtain ⟨L3, h3, h⟩ := h
    rw [Option.bind_eq_some_iff] at h
    obtain ⟨S, h4, h⟩ := h
    injection h with h
    injection h with h5 h
    injection h with h6 h7
    have h6 : g = f := h6
    subst h5 h6 h7
    have e1 := fixP_of h1
    obtain ⟨e2, b2, _⟩ := numP_of h2
    have e3 : L2 = tCol ++ L3 := fixP_of h3
    obtain ⟨e4, n4, o4⟩ := rlsP_of _ _ _ h4
    refine ⟨?_, ⟨Nat.not_lt.1 fun e => h0 (.inl e), Nat.not_lt.1 fun e => h0 (.inr (.inl e)), fun c hc => ?_⟩, b2, n4, o4⟩
    · unfold textL
      rw [← e4, ← e3, ← e2, ← e1, take_drop_name]
    · rcases hb : (L.takeWhile fun c => decide (c ≠ 32)).all chrB with _ | _
      · exact absurd (.inr (.inr hb)) h0
      · exact List.all_eq_true.1 hb c hc
end Go.Proofs.Ytnoeefbipdpeaaa
