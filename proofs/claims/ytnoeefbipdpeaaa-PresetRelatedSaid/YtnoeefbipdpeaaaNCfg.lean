/-
  What Print and Parse say, as plain functions; that each gives back what the other was given.
-/
import Derived.Test.YtnoeefbipdpeaaaNStr
import Derived.Test.YtnoeefbipdpeaaaCVal
namespace Go.Proofs.Ytnoeefbipdpeaaa
open Go.RowKit
set_option maxRecDepth 100000
set_option linter.unusedVariables false

theorem pct_step : ∀ n : Fin 100, Sh.pctF n < Sh.pctF (n + 1) := by decide +kernel
theorem pct_lt' {q : Nat} (hq : q ≤ 100) : ∀ {p : Nat}, p < q → Sh.pctF p < Sh.pctF q := by
  induction q with
  | zero => intro p h; omega
  | succ q ih =>
    intro p h
    have h1 : Sh.pctF q < Sh.pctF (q + 1) := pct_step ⟨q, by omega⟩
    rcases (by omega : p = q ∨ p < q) with rfl | h2
    · exact h1
    · exact Nat.lt_trans (ih (by omega) h2) h1
theorem pct_inj {p q : Nat} (hp : p ≤ 100) (hq : q ≤ 100) (h : Sh.pctF p = Sh.pctF q) : p = q := by
  rcases Nat.lt_trichotomy p q with h1 | h1 | h1
  · have := pct_lt' hq h1; omega
  · exact h1
  · have := pct_lt' hp h1; omega
theorem pct_zero : Sh.pctF 0 = 0 := by decide +kernel
/-- The percentage of a share, if it has one. -/
def pctOf (x : Nat) : Option Nat := (List.range 101).find? fun p => Sh.pctF p == x
theorem pctOf_some {x p : Nat} (h : pctOf x = some p) : p ≤ 100 ∧ Sh.pctF p = x := by
  have h1 := List.find?_some h
  have h2 := List.mem_of_find?_eq_some h
  rw [List.mem_range] at h2
  exact ⟨by omega, by simpa using h1⟩
theorem pctOf_none {x : Nat} (h : pctOf x = none) : ∀ p, p ≤ 100 → Sh.pctF p ≠ x := fun p hp e => by
  have := List.find?_eq_none.1 h p (List.mem_range.2 (by omega))
  simp [e] at this
theorem pctOf_mk {p : Nat} (hp : p ≤ 100) : pctOf (Sh.pctF p) = some p := by
  rcases h : pctOf (Sh.pctF p) with _ | q
  · exact absurd rfl (pctOf_none h p hp)
  · obtain ⟨h1, h2⟩ := pctOf_some h
    rw [pct_inj h1 hp h2]
/-- The rules that a text's rules say, and the other way. -/
def mkR (R : List Pr) : List Rl := R.map fun r => ⟨Sh.pctF r.p, r.l, r.b, r.t⟩
def prR : List Rl → Option (List Pr)
  | [] => some []
  | r :: R => (pctOf r.s).bind fun p => (prR R).bind fun S => some (⟨p, r.l.toNat, r.b.toNat, r.t.toNat⟩ :: S)
theorem mkR_length (R : List Pr) : (mkR R).length = R.length := by simp [mkR]
theorem prR_mkR : ∀ {R : List Pr}, (∀ r ∈ R, PrOk r) → prR (mkR R) = some R
  | [], _ => rfl
  | r :: R, h => by
    have ih := prR_mkR (R := R) fun x hx => h x (by simp [hx])
    have e : mkR (r :: R) = ⟨Sh.pctF r.p, r.l, r.b, r.t⟩ :: mkR R := rfl
    rw [e]
    unfold prR
    rw [pctOf_mk (h r (by simp)).1, Option.bind_some, ih, Option.bind_some]
    simp
theorem mkR_prR : ∀ {R : List Rl} {S : List Pr}, prR R = some S → (∀ r ∈ R, 0 ≤ r.l ∧ 0 ≤ r.b ∧ 0 ≤ r.t) → mkR S = R ∧ S.length = R.length
  | [], S, h, _ => by
    injection h with h
    subst h
    exact ⟨rfl, rfl⟩
  | r :: R, S, h, hn => by
    unfold prR at h
    rw [Option.bind_eq_some_iff] at h
    obtain ⟨p, h1, h⟩ := h
    rw [Option.bind_eq_some_iff] at h
    obtain ⟨T, h2, h⟩ := h
    injection h with h
    subst h
    obtain ⟨i1, i2⟩ := mkR_prR h2 fun x hx => hn x (by simp [hx])
    obtain ⟨n1, n2, n3⟩ := hn r (by simp)
    refine ⟨?_, by simp [i2]⟩
    have e : mkR (⟨p, r.l.toNat, r.b.toNat, r.t.toNat⟩ :: T) = ⟨Sh.pctF p, (r.l.toNat : Int), (r.b.toNat : Int), (r.t.toNat : Int)⟩ :: mkR T := rfl
    rw [e, i1, (pctOf_some h1).2, Int.toNat_of_nonneg n1, Int.toNat_of_nonneg n2, Int.toNat_of_nonneg n3]
theorem prR_mem : ∀ {R : List Rl} {S : List Pr}, prR R = some S → ∀ x ∈ S, ∃ r ∈ R, x.p ≤ 100 ∧ x.l = r.l.toNat ∧ x.b = r.b.toNat ∧ x.t = r.t.toNat
  | [], S, h, x, hx => by
    injection h with h
    subst h
    simp at hx
  | r :: R, S, h, x, hx => by
    unfold prR at h
    rw [Option.bind_eq_some_iff] at h
    obtain ⟨p, h1, h⟩ := h
    rw [Option.bind_eq_some_iff] at h
    obtain ⟨T, h2, h⟩ := h
    injection h with h
    subst h
    simp at hx
    rcases hx with rfl | hx
    · exact ⟨r, by simp, (pctOf_some h1).1, rfl, rfl, rfl⟩
    · obtain ⟨y, hy, h3⟩ := prR_mem h2 x hx
      exact ⟨y, by simp [hy], h3⟩

/-- What Print says: the error, and the text. -/
def prtE (s : ByteArray) (R : List Rl) (f : Int) : Int := if chk s R f = 0 then (match prR R with | some _ => 0 | none => 6) else chk s R f
def prtL (s : ByteArray) (R : List Rl) (f : Int) : List Nat := if chk s R f = 0 then (match prR R with | some S => textL (txL s) f.toNat S | none => []) else []
/-- What Parse says: the error, and what the text says. -/
def prsE (L : List Nat) : Int := if 1024 < L.length then 9 else match textP L with
  | none => 11
  | some (nm, f, R) => chk (tx nm) (mkR R) f
theorem rule_bounds {s : ByteArray} {R : List Rl} {f : Int} (h : chk s R f = 0) : ∀ r ∈ R, 0 ≤ r.l ∧ r.l ≤ 64 ∧ 0 ≤ r.b ∧ r.b ≤ 64 ∧ 0 ≤ r.t ∧ r.t ≤ 4 := fun r hr => by
  obtain ⟨_, _, h4, h1, _⟩ := chk_ok h
  obtain ⟨j, hj⟩ := List.mem_iff_getElem?.1 hr
  obtain ⟨_, h2, h3⟩ := ruleE_ok (h1 j r hj)
  have hl := gt_lt hj
  unfold tgtOk at h3
  unfold limBad at h2
  split at h3 <;> omega
theorem full_bounds {s : ByteArray} {R : List Rl} {f : Int} (h : chk s R f = 0) : 0 ≤ f ∧ f ≤ 64 := by
  obtain ⟨_, _, _, _, _, h1⟩ := chk_ok h
  unfold fullB at h1
  split at h1
  · have := of_decide_eq_true h1; omega
  · have := of_decide_eq_true h1; omega
theorem dec_len {n : Nat} (h : n ≤ 9999) : (decL n).length ≤ 4 := by
  rcases decL_cases h with ⟨h1, e⟩ | ⟨h1, h2, e⟩ | ⟨h1, h2, e⟩ | ⟨h1, e⟩ <;> (rw [e]; simp)
theorem rul_len {r : Pr} (h : PrOk r) : (rulL r).length ≤ 20 := by
  obtain ⟨h1, h2, h3, h4⟩ := h
  have a := dec_len h2
  have b := dec_len h3
  have c := dec_len h4
  have d := dec_len (n := r.p) (by omega)
  unfold rulL shL
  split
  · simp only [List.length_append, tAll, tSl, tGt, List.length_cons, List.length_nil]; omega
  · simp only [List.length_append, tPct, tSl, tGt, List.length_cons, List.length_nil]; omega
theorem rls_len : ∀ R : List Pr, (∀ r ∈ R, PrOk r) → (rlsL R).length ≤ 22 * R.length
  | [], _ => by simp [rlsL]
  | [r], h => by
    have := rul_len (h r (by simp))
    simp [rlsL]
    omega
  | r :: s :: R, h => by
    have ih := rls_len (s :: R) fun x hx => h x (by simp [hx])
    have e : rlsL (r :: s :: R) = rulL r ++ (tCo ++ rlsL (s :: R)) := rfl
    have := rul_len (h r (by simp))
    rw [e]
    simp only [List.length_append, tCo, List.length_cons, List.length_nil] at ih ⊢
    omega
/-- What was printed is read as the same configuration. -/
theorem print_back {s : ByteArray} {R : List Rl} {f : Int} (h : prtE s R f = 0) : ∃ S, chk s R f = 0 ∧ prtL s R f = textL (txL s) f.toNat S ∧ textP (prtL s R f) = some (txL s, f.toNat, S) ∧ mkR S = R ∧ prsE (prtL s R f) = 0 ∧ Byt (prtL s R f) ∧ 0 < (prtL s R f).length := by
  unfold prtE at h
  split at h
  · rename_i hc
    split at h
    · rename_i S hS
      have hb := rule_bounds hc
      have hfb := full_bounds hc
      obtain ⟨e1, e2⟩ := mkR_prR hS fun r hr => ⟨(hb r hr).1, (hb r hr).2.2.1, (hb r hr).2.2.2.2.1⟩
      have ok : ∀ r ∈ S, PrOk r := fun x hx => by
        obtain ⟨r, hr, p1, p2, p3, p4⟩ := prR_mem hS x hx
        have := hb r hr
        exact ⟨p1, by omega, by omega, by omega⟩
      have hn := (nmOk_of (chk_ok hc).1).1
      have hne : S ≠ [] := fun e => by
        have := (chk_ok hc).2.1
        rw [e] at e2
        simp at e2
        omega
      have hl4 : S.length ≤ 4 := by have := (chk_ok hc).2.2.1; omega
      have ht : prtL s R f = textL (txL s) f.toNat S := by
        unfold prtL
        rw [if_pos hc, hS]
      have hp := textP_mk (nm := txL s) (f := f.toNat) (R := S) hn (by omega) hne ok
      have hlen : (textL (txL s) f.toNat S).length ≤ 1024 := by
        have a := rls_len S ok
        have b := dec_len (n := f.toNat) (by omega)
        have c := hn.2.1
        unfold textL
        simp only [List.length_append, tFull, tCol, List.length_cons, List.length_nil]
        omega
      have hby : Byt (textL (txL s) f.toNat S) := by
        unfold textL
        exact (byt_txL s).append (byt_fix.2.2.2.2.2.1.append ((byt_dec (by omega)).append (byt_fix.2.2.2.2.2.2.append (byt_rls S ok))))
      refine ⟨S, hc, ht, by rw [ht]; exact hp, e1, ?_, by rw [ht]; exact hby, ?_⟩
      · unfold prsE
        rw [ht, if_neg (by omega), hp]
        show chk (tx (txL s)) (mkR S) (f.toNat : Int) = 0
        rw [tx_txL, e1, Int.toNat_of_nonneg hfb.1]
        exact hc
      · rw [ht]
        unfold textL
        have := hn.1
        rw [List.length_append]
        omega
    · cases h
  · rename_i hc
    exact absurd h hc
/-- What is read is the one text of what it says. -/
theorem parse_back {L nm : List Nat} {f : Nat} {R : List Pr} (h : prsE L = 0) (ht : textP L = some (nm, f, R)) : prtE (tx nm) (mkR R) f = 0 ∧ prtL (tx nm) (mkR R) f = L := by
  obtain ⟨e, hn, _, _, ok⟩ := textP_of ht
  unfold prsE at h
  split at h
  · cases h
  · rw [ht] at h
    have h : chk (tx nm) (mkR R) (f : Int) = 0 := h
    have hb : Byt nm := fun c hc => chrB_lt (hn.2.2 c hc)
    unfold prtE prtL
    rw [if_pos h, if_pos h, prR_mkR ok]
    refine ⟨rfl, ?_⟩
    show textL (txL (tx nm)) ((f : Int).toNat) R = L
    rw [txL_tx hb, Int.toNat_natCast, e]
end Go.Proofs.Ytnoeefbipdpeaaa
