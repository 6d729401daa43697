/-
  Words for rows of numbers: what may only be read, and what the call itself has made (as s11 and s15 have them, without the space).
-/
import Derived.Test.YtjkbjbikofindaaMSpace
import Derived.Laws.AppendOwnNone
import Derived.Laws.StructEq
import Derived.RegionTactic
namespace Go.Proofs.Ytjkbjbikofindaa
open Go.RowKit
set_option maxRecDepth 100000
set_option linter.unusedVariables false

theorem get_lt {α : Type} {l : List α} {j : Nat} {x : α} (h : l[j]? = some x) : j < l.length := (List.getElem?_eq_some_iff.1 h).1

theorem nth_of {α : Type} {l : List α} {j : Nat} (h : j < l.length) : ∃ x, l[j]? = some x := ⟨l[j], List.getElem?_eq_getElem h⟩

def Lt (B : Nat) : Nat → Prop := fun b => b < B
def Rng (lo hi : Nat) : Nat → Prop := fun b => lo ≤ b ∧ b < hi

theorem row_t {w : World} {base s n g : Nat} {t : TypeId} {v : Value} {xs : List Value} (h : w.ownsRow base t s v n xs) (hg : v.ownBlock = some g) : ∃ cur, w.heap[g]? = some (.cells cur t (0, 0)) ∧ base ≤ g := by
  obtain ⟨_, ⟨rfl, _⟩ | ⟨g', cap, cur, rfl, hb, hh, _⟩⟩ := h
  · simp [Value.ownBlock] at hg
  · simp [Value.ownBlock] at hg
    subst hg
    exact ⟨cur, hh, hb⟩
theorem ownsRow_lower {w : World} {B B' s n : Nat} {e : TypeId} {v : Value} {xs : List Value} (h : w.ownsRow B e s v n xs) (hb : B' ≤ B) : w.ownsRow B' e s v n xs :=
  ⟨h.1, h.2.imp id fun ⟨g, cap, cur, h1, h2, h3⟩ => ⟨g, cap, cur, h1, Nat.le_trans hb h2, h3⟩⟩

theorem grown_nil {w w1 : World} (h : w.grownBy w1 none) : Below w.heap.size w w1 := ⟨h.os, h.tape, h.output, h.size, fun k hk => h.block k hk (by simp)⟩
def IffOf (P : Prop) (w : World) (e : Ending) (w' : World) : Prop := ∃ b, e = .returned (.bool b) ∧ (b = true ↔ P) ∧ Below w.heap.size w w'
theorem iff_no {P : Prop} (h : ¬ P) : (false = true) ↔ P := ⟨fun e => absurd e (by decide), fun e => absurd e h⟩
theorem iff_yes {P : Prop} (h : P) : (true = true) ↔ P := ⟨fun _ => h, fun _ => rfl⟩

theorem row_blk {w : World} {B s n : Nat} {e : TypeId} {v : Value} {xs : List Value} (h : w.ownsRow B e s v n xs) : ∀ x, v.ownBlock = some x → B ≤ x := fun x hx => (h.lt x hx).1

/-- The slice at A (capacity c) holds the numbers S, in a block of which P is true. -/
def SArr (w : World) (P : Nat → Prop) (A : Option Addr) (c : Nat) (S : List Int) : Prop :=
  S.length ≤ c ∧ c ≤ maxLen ∧ (A = none → c = 0) ∧ (0 < S.length → ∃ b o, A = some ⟨b, o, none⟩ ∧ P b ∧ ∀ (j : Nat) (s : Int), S[j]? = some s → w.cell? ⟨b, o + j, none⟩ = some (.int .i64 s))
section
variable {w w' : World} {P P' : Nat → Prop} {A : Option Addr} {c : Nat} {S : List Int}
theorem SArr.at_ (h : SArr w P A c S) {j : Nat} {s : Int} (hj : S[j]? = some s) : ∃ b o, A = some ⟨b, o, none⟩ ∧ P b ∧ b < w.heap.size ∧ w.cell? ⟨b, o + j, none⟩ = some (.int .i64 s) := by
  obtain ⟨b, o, hA, hb, hc⟩ := h.2.2.2 (by have := get_lt hj; omega)
  exact ⟨b, o, hA, hb, cell_lt (hc j s hj), hc j s hj⟩
theorem SArr.keep (h : SArr w P A c S) (hk : ∀ b o, P b → w'.cell? ⟨b, o, none⟩ = w.cell? ⟨b, o, none⟩) : SArr w' P A c S := by
  refine ⟨h.1, h.2.1, h.2.2.1, fun hn => ?_⟩
  obtain ⟨b, o, hA, hb, hc⟩ := h.2.2.2 hn
  exact ⟨b, o, hA, hb, fun j s hj => (hk _ _ hb).trans (hc j s hj)⟩
theorem SArr.mono (h : SArr w P A c S) (hp : ∀ b, P b → P' b) : SArr w P' A c S := by
  refine ⟨h.1, h.2.1, h.2.2.1, fun hn => ?_⟩
  obtain ⟨b, o, hA, hb, hc⟩ := h.2.2.2 hn
  exact ⟨b, o, hA, hp b hb, hc⟩
theorem SArr.nil (w : World) (P : Nat → Prop) : SArr w P none 0 [] := ⟨by simp, by simp, fun _ => rfl, fun h => absurd h (by simp)⟩
theorem SArr.below {B : Nat} (h : SArr w (Lt B) A c S) (hb : Below B w w') : SArr w' (Lt B) A c S := h.keep fun b o hp => hb.cell hp
theorem SArr.next (h : SArr w (Lt w.heap.size) A c S) (hb : Below w.heap.size w w') : SArr w' (Lt w'.heap.size) A c S := (h.below hb).mono fun b hp => Nat.lt_of_lt_of_le hp hb.size
theorem SArr.lt (h : SArr w P A c S) : SArr w (Lt w.heap.size) A c S := by
  refine ⟨h.1, h.2.1, h.2.2.1, fun hn => ?_⟩
  obtain ⟨b, o, hA, hb, hc⟩ := h.2.2.2 hn
  obtain ⟨i, hi⟩ : ∃ i, S[0]? = some i := ⟨S[0], List.getElem?_eq_getElem hn⟩
  exact ⟨b, o, hA, cell_lt (hc 0 i hi), hc⟩
theorem SArr.take (h : SArr w P A c S) (k : Nat) : SArr w P A c (S.take k) := by
  refine ⟨Nat.le_trans (by simp; omega) h.1, h.2.1, h.2.2.1, fun hn => ?_⟩
  obtain ⟨b, o, hA, hb, hc⟩ := h.2.2.2 (by simp at hn; omega)
  exact ⟨b, o, hA, hb, fun j s hj => hc j s (by rw [List.getElem?_take] at hj; split at hj; exact hj; cases hj)⟩
/-- The cells of a row of numbers. -/
def numC (S : List Int) : List Value := S.map fun s => .int .i64 s
theorem numC_length (S : List Int) : (numC S).length = S.length := by simp [numC]
theorem numC_append (S T : List Int) : numC (S ++ T) = numC S ++ numC T := by simp [numC]
theorem numC_one (S : List Int) : ∀ u ∈ numC S, u.oneCell' = true := by
  intro u hu
  simp only [numC, List.mem_map] at hu
  obtain ⟨s, _, rfl⟩ := hu
  rfl
theorem numC_get {S : List Int} {j : Nat} {s : Int} (h : S[j]? = some s) : (numC S)[j]? = some (.int .i64 s) := by simp [numC, h]
theorem SArr.cells {b o : Nat} (h : SArr w P (some ⟨b, o, none⟩) c S) : ∀ (j : Nat) (u : Value), (numC S)[j]? = some u → w.cell? ((⟨b, o, none⟩ : Addr).add j) = some u := by
  intro j u hu
  have hj := get_lt hu
  rw [numC_length] at hj
  obtain ⟨s, hs⟩ := (show ∃ s, S[j]? = some s from ⟨S[j], List.getElem?_eq_getElem hj⟩)
  obtain ⟨b', o', e, _, hc⟩ := h.2.2.2 (by omega)
  injection e with e
  injection e with e1 e2
  subst e1 e2
  rw [numC_get hs] at hu
  injection hu with hu
  rw [add_at, ← hu]
  exact hc j s hs
theorem sarr_of {B : Nat} {v : Value} (h : w.ownsRow B 3 1 v S.length (numC S)) : ∃ A c, v = .slice A S.length c ∧ SArr w (Rng B w.heap.size) A c S := by
  obtain ⟨hl, h⟩ := h
  rcases h with ⟨rfl, hz⟩ | ⟨g, cap, cur, rfl, hb, hg, hc, hm, hs, htk⟩
  · have hz2 : S = [] := List.length_eq_zero_iff.1 hz
    subst hz2
    exact ⟨none, 0, rfl, SArr.nil _ _⟩
  · refine ⟨_, _, rfl, hc, hm, (fun e => by cases e), fun _ => ⟨g, 0, rfl, ⟨hb, blk_lt hg⟩, fun j s hj => ?_⟩⟩
    have hjl := get_lt hj
    have hv := numC_get hj
    rw [← htk, List.getElem?_take, if_pos (by omega)] at hv
    rw [cell_row hg, Nat.zero_add]
    simpa using hv
end

theorem sarr_list {w : World} {B n c : Nat} {x : Addr} (h : ListP w B (some x) n c) : ∃ S : List Int, S.length = n ∧ SArr w (Lt B) (some x) c S := by
  have key : ∀ m, m ≤ n → ∃ S : List Int, S.length = m ∧ ∀ (j : Nat) (s : Int), S[j]? = some s → ∃ b o, x = ⟨b, o, none⟩ ∧ b < B ∧ w.cell? ⟨b, o + j, none⟩ = some (.int .i64 s) := by
    intro m
    induction m with
    | zero => exact fun _ => ⟨[], rfl, fun j s hj => by simp at hj⟩
    | succ m ih =>
      intro hm
      obtain ⟨S, h1, h2⟩ := ih (by omega)
      obtain ⟨b, o, v, e, hb, hc, _⟩ := h.2.2 m (by omega)
      injection e with e
      refine ⟨S ++ [v], by simp [h1], fun j s hj => ?_⟩
      rcases Nat.lt_or_ge j S.length with hl | hl
      · rw [List.getElem?_append_left hl] at hj
        exact h2 j s hj
      · rw [List.getElem?_append_right hl] at hj
        have := get_lt hj
        simp at this
        have hjm : j = m := by omega
        subst hjm
        rw [h1, Nat.sub_self] at hj
        simp at hj
        subst hj
        exact ⟨b, o, e, hb, hc⟩
  obtain ⟨S, h1, h2⟩ := key n (Nat.le_refl _)
  refine ⟨S, h1, by rw [h1]; exact h.1, h.2.1, (fun e => by cases e), fun hn => ?_⟩
  obtain ⟨s, hs⟩ : ∃ s, S[0]? = some s := ⟨S[0], List.getElem?_eq_getElem hn⟩
  obtain ⟨b, o, e, hb, _⟩ := h2 0 s hs
  refine ⟨b, o, by rw [e], hb, fun j r hj => ?_⟩
  obtain ⟨b', o', e', _, hc⟩ := h2 j r hj
  rw [e] at e'
  injection e' with e1 e2
  subst e1 e2
  exact hc
section
variable {P : Program} (w : World)
/-- append of numbers that may be read to a row of the call's own. -/
theorem wpList_append_sarr {ops : Array Oper} {rest : List Oper} {o : Oper} {a : Act} {Q : Exit → Act → World → Prop} (hgd : o.guard = none) (s x : Operand) (t : TypeId)
    (ho : o.op = .call { callee := .builtin .append, args := #[s, x], argTypes := #[t, t] })
    (base : Nat) (e : TypeId) (i : TypeInfo) (z : Value) (bytes : Nat) (ht : P.underlying t = some (.slice e)) (hi : P.info? e = some i) (hz : i.zero = some z) (hsize : i.size = 1) (hby : i.bytes = bytes) (hzs : z.cells.size = 1)
    (v : Value) (n : Nat) (xs : List Value) (hs : a.eval s = v) (hown : w.ownsRow base e 1 v n xs) (A : Option Addr) (m c : Nat) (S : List Int) (Pb : Nat → Prop) (hx : a.eval x = .slice A m c) (hm : m = S.length) (hS : SArr w Pb A c S)
    (h63 : n + m ≤ maxLen) (hbytes : (n + m) * bytes ≤ 140737488355328) (hbase : base ≤ w.heap.size)
    (h : ∀ v' w', w'.ownsRow base e 1 v' (n + m) (xs ++ numC S) → w.grownBy w' v.ownBlock → wpList P ops Q rest (a.put o.dst v') w') : wpList P ops Q (o :: rest) a w := by
  subst hm
  rcases A with _ | ad
  · have hc := hS.2.2.1 rfl
    have hl := hS.1
    have hI : S = [] := List.length_eq_zero_iff.1 (by omega)
    subst hI hc
    refine wpList_append_own_none hgd s x t ho base e i 1 ht hi v n xs hs hown hx ?_
    exact h v w (by simpa [numC] using hown) ⟨rfl, rfl, rfl, Nat.le_refl _, fun _ _ _ => rfl⟩
  · have hcs : ∀ (j : Nat) (u : Value), (numC S)[j]? = some u → w.cell? (ad.add j) = some u := by
      intro j u hu
      have hj := get_lt hu
      rw [numC_length] at hj
      obtain ⟨b, o, e, _⟩ := hS.2.2.2 (by omega)
      injection e with e
      subst e
      exact hS.cells j u hu
    exact wpList_append_own w hgd s x t ho base e i z 1 bytes ht hi hz hsize hby hzs (by decide) v n xs hs hown ad S.length c (numC S) hx (by rw [numC_length, Nat.mul_one]) hcs (numC_one S) h63 hbytes hbase fun v' w' h1 h2 _ => h v' w' h1 h2
end
end Go.Proofs.Ytjkbjbikofindaa
