/-
  Rows of remembered sets: what may only be read, and what the call itself has made.
-/
import Derived.Test.YtjkbjbikofindaaRPure
namespace Go.Proofs.Ytjkbjbikofindaa
open Go.RowKit
set_option maxRecDepth 100000
set_option linter.unusedVariables false

/-- The slice at A (capacity c) holds the sets L, in blocks of which P is true. -/
def TArr (w : World) (P : Nat → Prop) (A : Option Addr) (c : Nat) (L : List SetR) : Prop :=
  L.length ≤ c ∧ c ≤ maxLen ∧ (A = none → c = 0) ∧
    (0 < L.length → ∃ b o, A = some ⟨b, o, none⟩ ∧ P b ∧ ∀ (j : Nat) (x : SetR), L[j]? = some x → w.cell? ⟨b, o + j * 3, none⟩ = some (.int .i64 x.fr) ∧ w.cell? ⟨b, o + j * 3 + 1, none⟩ = some (.int .i64 x.tg) ∧
      ∃ A' c', w.cell? ⟨b, o + j * 3 + 2, none⟩ = some (.slice A' x.sl.length c') ∧ SArr w P A' c' x.sl)
section
variable {w w' : World} {P P' : Nat → Prop} {A : Option Addr} {c : Nat} {L : List SetR} {S : List Int}
theorem TArr.at_ (h : TArr w P A c L) {j : Nat} {x : SetR} (hj : L[j]? = some x) : ∃ b o A' c', A = some ⟨b, o, none⟩ ∧ P b ∧ b < w.heap.size ∧ w.cell? ⟨b, o + j * 3, none⟩ = some (.int .i64 x.fr) ∧ w.cell? ⟨b, o + j * 3 + 1, none⟩ = some (.int .i64 x.tg) ∧
    w.cell? ⟨b, o + j * 3 + 2, none⟩ = some (.slice A' x.sl.length c') ∧ SArr w P A' c' x.sl := by
  obtain ⟨b, o, hA, hb, hc⟩ := h.2.2.2 (by have := get_lt hj; omega)
  obtain ⟨h1, h2, A', c', h3, h4⟩ := hc j x hj
  exact ⟨b, o, A', c', hA, hb, cell_lt h1, h1, h2, h3, h4⟩
theorem TArr.keep (h : TArr w P A c L) (hk : ∀ b o, P b → w'.cell? ⟨b, o, none⟩ = w.cell? ⟨b, o, none⟩) : TArr w' P A c L := by
  refine ⟨h.1, h.2.1, h.2.2.1, fun hn => ?_⟩
  obtain ⟨b, o, hA, hb, hc⟩ := h.2.2.2 hn
  refine ⟨b, o, hA, hb, fun j x hj => ?_⟩
  obtain ⟨h1, h2, A', c', h3, h4⟩ := hc j x hj
  exact ⟨(hk _ _ hb).trans h1, (hk _ _ hb).trans h2, A', c', (hk _ _ hb).trans h3, h4.keep hk⟩
theorem TArr.mono (h : TArr w P A c L) (hp : ∀ b, P b → P' b) : TArr w P' A c L := by
  refine ⟨h.1, h.2.1, h.2.2.1, fun hn => ?_⟩
  obtain ⟨b, o, hA, hb, hc⟩ := h.2.2.2 hn
  refine ⟨b, o, hA, hp b hb, fun j x hj => ?_⟩
  obtain ⟨h1, h2, A', c', h3, h4⟩ := hc j x hj
  exact ⟨h1, h2, A', c', h3, h4.mono hp⟩
theorem TArr.nil (w : World) (P : Nat → Prop) : TArr w P none 0 [] := ⟨by simp, by simp, fun _ => rfl, fun h => absurd h (by simp)⟩
theorem TArr.below {B : Nat} (h : TArr w (Lt B) A c L) (hb : Below B w w') : TArr w' (Lt B) A c L := h.keep fun b o hp => hb.cell hp
theorem TArr.next (h : TArr w (Lt w.heap.size) A c L) (hb : Below w.heap.size w w') : TArr w' (Lt w'.heap.size) A c L := (h.below hb).mono fun b hp => Nat.lt_of_lt_of_le hp hb.size
theorem TArr.lt (h : TArr w P A c L) : TArr w (Lt w.heap.size) A c L := by
  refine ⟨h.1, h.2.1, h.2.2.1, fun hn => ?_⟩
  obtain ⟨b, o, hA, hb, hc⟩ := h.2.2.2 hn
  obtain ⟨i, hi⟩ : ∃ i, L[0]? = some i := ⟨L[0], List.getElem?_eq_getElem hn⟩
  refine ⟨b, o, hA, cell_lt (hc 0 i hi).1, fun j x hj => ?_⟩
  obtain ⟨h1, h2, A', c', h3, h4⟩ := hc j x hj
  exact ⟨h1, h2, A', c', h3, h4.lt⟩
theorem TArr.grow (h : TArr w P A c L) (hb : Below w.heap.size w w') : TArr w' (Lt w'.heap.size) A c L := h.lt.next hb
theorem TArr.take (h : TArr w P A c L) (k : Nat) : TArr w P A c (L.take k) := by
  refine ⟨Nat.le_trans (by simp; omega) h.1, h.2.1, h.2.2.1, fun hn => ?_⟩
  obtain ⟨b, o, hA, hb, hc⟩ := h.2.2.2 (by simp at hn; omega)
  exact ⟨b, o, hA, hb, fun j s hj => hc j s (by rw [List.getElem?_take] at hj; split at hj; exact hj; cases hj)⟩
theorem SArr.drop {b o : Nat} (h : SArr w P (some ⟨b, o, none⟩) c S) (k : Nat) (hk : k ≤ S.length) : SArr w P (some ⟨b, o + k, none⟩) (c - k) (S.drop k) := by
  have := h.1; have := h.2.1
  refine ⟨by simp; omega, by omega, (fun e => by cases e), fun hn => ?_⟩
  obtain ⟨b', o', e, hb, hc⟩ := h.2.2.2 (by simp at hn; omega)
  injection e with e
  injection e with e1 e2
  subst e1 e2
  refine ⟨b, o + k, rfl, hb, fun j s hj => ?_⟩
  rw [List.getElem?_drop] at hj
  rw [Nat.add_assoc]
  exact hc _ s hj
theorem TArr.drop {b o : Nat} (h : TArr w P (some ⟨b, o, none⟩) c L) (k : Nat) (hk : k ≤ L.length) : TArr w P (some ⟨b, o + k * 3, none⟩) (c - k) (L.drop k) := by
  have := h.1; have := h.2.1
  refine ⟨by simp; omega, by omega, (fun e => by cases e), fun hn => ?_⟩
  obtain ⟨b', o', e, hb, hc⟩ := h.2.2.2 (by simp at hn; omega)
  injection e with e
  injection e with e1 e2
  subst e1 e2
  refine ⟨b, o + k * 3, rfl, hb, fun j s hj => ?_⟩
  rw [List.getElem?_drop] at hj
  have := hc _ s hj
  rw [Nat.add_mul, ← Nat.add_assoc] at this
  exact this
end

/-- The cells of a row of sets. -/
def SetV (w : World) (P : Nat → Prop) (vs : List Value) (L : List SetR) : Prop :=
  vs.length = L.length * 3 ∧ ∀ (j : Nat) (x : SetR), L[j]? = some x → vs[j * 3]? = some (.int .i64 x.fr) ∧ vs[j * 3 + 1]? = some (.int .i64 x.tg) ∧ ∃ A c, vs[j * 3 + 2]? = some (.slice A x.sl.length c) ∧ SArr w P A c x.sl
section
variable {w w' : World} {P P' : Nat → Prop} {vs us : List Value} {L M : List SetR}
theorem SetV.nil : SetV w P [] [] := ⟨rfl, fun j x h => by simp at h⟩
theorem SetV.one (h : SetV w P vs L) : ∀ u ∈ vs, u.oneCell' = true := by
  intro u hu
  obtain ⟨j, hj⟩ := List.mem_iff_getElem?.1 hu
  have hl := get_lt hj
  rw [h.1] at hl
  obtain ⟨x, hx⟩ := nth_of (l := L) (j := j / 3) (by omega)
  obtain ⟨h1, h2, A, c, h3, _⟩ := h.2 _ x hx
  rcases (by omega : j = j / 3 * 3 ∨ j = j / 3 * 3 + 1 ∨ j = j / 3 * 3 + 2) with e | e | e
  · rw [e, h1] at hj; injection hj with hj; subst hj; rfl
  · rw [e, h2] at hj; injection hj with hj; subst hj; rfl
  · rw [e, h3] at hj; injection hj with hj; subst hj; rfl
theorem SetV.mono (h : SetV w P vs L) (hk : ∀ (A : Option Addr) (c : Nat) (S : List Int), SArr w P A c S → SArr w' P' A c S) : SetV w' P' vs L :=
  ⟨h.1, fun j x hj => by obtain ⟨h1, h2, A, c, h3, h4⟩ := h.2 j x hj; exact ⟨h1, h2, A, c, h3, hk A c _ h4⟩⟩
theorem SetV.append (h : SetV w P vs L) (h' : SetV w P us M) : SetV w P (vs ++ us) (L ++ M) := by
  refine ⟨by rw [List.length_append, List.length_append, h.1, h'.1]; omega, fun j x hj => ?_⟩
  rcases Nat.lt_or_ge j L.length with hl | hl
  · rw [List.getElem?_append_left hl] at hj
    have := h.1
    rw [List.getElem?_append_left (by omega), List.getElem?_append_left (by omega), List.getElem?_append_left (by omega)]
    exact h.2 j x hj
  · rw [List.getElem?_append_right hl] at hj
    have := h.1
    rw [List.getElem?_append_right (by omega), List.getElem?_append_right (by omega), List.getElem?_append_right (by omega), h.1, show j * 3 - L.length * 3 = (j - L.length) * 3 by omega,
      show j * 3 + 1 - L.length * 3 = (j - L.length) * 3 + 1 by omega, show j * 3 + 2 - L.length * 3 = (j - L.length) * 3 + 2 by omega]
    exact h'.2 _ x hj
theorem SetV.single {x : SetR} {A : Option Addr} {c : Nat} (h : SArr w P A c x.sl) : SetV w P [.int .i64 x.fr, .int .i64 x.tg, .slice A x.sl.length c] [x] := by
  refine ⟨rfl, fun j y hj => ?_⟩
  have := get_lt hj
  simp at this
  subst this
  simp at hj
  subst hj
  exact ⟨rfl, rfl, A, c, rfl, h⟩
theorem SetV.take (h : SetV w P vs L) (k : Nat) (hk : k ≤ L.length) : SetV w P (vs.take (k * 3)) (L.take k) := by
  have := h.1
  refine ⟨by simp; omega, fun j x hj => ?_⟩
  have hjk := get_lt hj
  simp at hjk
  rw [List.getElem?_take, if_pos (by omega)] at hj
  rw [List.getElem?_take, if_pos (by omega), List.getElem?_take, if_pos (by omega), List.getElem?_take, if_pos (by omega)]
  exact h.2 j x hj
theorem SetV.set_ (h : SetV w P vs L) {k : Nat} {x : SetR} (hk : L[k]? = some x) {A : Option Addr} {c : Nat} {S : List Int} (hS : SArr w P A c S) : SetV w P (vs.set (k * 3 + 2) (.slice A S.length c)) (L.set k ⟨x.fr, x.tg, S⟩) := by
  have hv := h.1
  have hkl := get_lt hk
  refine ⟨by simp [hv], fun j y hj => ?_⟩
  have hjl := get_lt hj
  simp at hjl
  by_cases e : k = j
  · subst e
    rw [List.getElem?_set_self hjl] at hj
    injection hj with hj
    subst hj
    obtain ⟨h1, h2, _⟩ := h.2 _ x hk
    rw [List.getElem?_set_ne (by omega), List.getElem?_set_ne (by omega), List.getElem?_set_self (by omega)]
    exact ⟨h1, h2, A, c, rfl, hS⟩
  · rw [List.getElem?_set_ne e] at hj
    rw [List.getElem?_set_ne (by omega), List.getElem?_set_ne (by omega), List.getElem?_set_ne (by omega)]
    exact h.2 j y hj
/-- The cells of a row that may be read. -/
theorem TArr.src {b o c : Nat} (h : TArr w P (some ⟨b, o, none⟩) c L) : ∃ vs : List Value, SetV w P vs L ∧ ∀ (j : Nat) (u : Value), vs[j]? = some u → w.cell? ((⟨b, o, none⟩ : Addr).add j) = some u := by
  have key : ∀ m, m ≤ L.length → ∃ vs : List Value, SetV w P vs (L.take m) ∧ ∀ (j : Nat) (u : Value), vs[j]? = some u → w.cell? ⟨b, o + j, none⟩ = some u := by
    intro m
    induction m with
    | zero => exact fun _ => ⟨[], by simpa using SetV.nil, fun j u hu => by simp at hu⟩
    | succ m ih =>
      intro hm
      obtain ⟨vs, h1, h2⟩ := ih (by omega)
      obtain ⟨x, hx⟩ := nth_of (l := L) (j := m) (by omega)
      obtain ⟨b', o', A', c', e, _, _, a0, a1, a2, hs⟩ := h.at_ hx
      injection e with e
      injection e with e1 e2
      subst e1 e2
      refine ⟨vs ++ [.int .i64 x.fr, .int .i64 x.tg, .slice A' x.sl.length c'], ?_, fun j u hu => ?_⟩
      · rw [List.take_add_one, hx]
        exact h1.append (SetV.single hs)
      · rcases Nat.lt_or_ge j vs.length with hl | hl
        · rw [List.getElem?_append_left hl] at hu
          exact h2 j u hu
        · have hvl := h1.1
          have e : (L.take m).length = m := by simp; omega
          rw [e] at hvl
          rw [List.getElem?_append_right hl] at hu
          have := get_lt hu
          simp at this
          rcases (by omega : j = m * 3 ∨ j = m * 3 + 1 ∨ j = m * 3 + 2) with e | e | e
          · subst e; rw [hvl, Nat.sub_self] at hu; simp at hu; subst hu; exact a0
          · subst e; rw [hvl, show m * 3 + 1 - m * 3 = 1 by omega] at hu; simp at hu; subst hu; exact a1
          · subst e; rw [hvl, show m * 3 + 2 - m * 3 = 2 by omega] at hu; simp at hu; subst hu; exact a2
  obtain ⟨vs, h1, h2⟩ := key L.length (Nat.le_refl _)
  rw [List.take_length] at h1
  refine ⟨vs, h1, fun j u hu => ?_⟩
  rw [add_at]
  exact h2 j u hu
end

/-- Blocks below lo, or of numbers. -/
def Inn (w : World) (lo : Nat) (b : Nat) : Prop := b < lo ∨ ∃ cur z, w.heap[b]? = some (.cells cur 3 z)
/-- Sets in a row of the call's own (its block is not below base). -/
def TOwn (w : World) (base lo : Nat) (v : Value) (L : List SetR) : Prop := lo ≤ base ∧ ∃ vs, w.ownsRow base 57 3 v L.length vs ∧ SetV w (Inn w lo) vs L
section
variable {w w' w2 : World} {base lo : Nat} {v v2 : Value} {L M : List SetR} {vs us : List Value}
theorem SArr.inn {A : Option Addr} {c : Nat} {S : List Int} (h : SArr w (Inn w lo) A c S) (hk : ∀ b, Inn w lo b → b < w.heap.size → w'.heap[b]? = w.heap[b]?) : SArr w' (Inn w' lo) A c S := by
  refine ⟨h.1, h.2.1, h.2.2.1, fun hn => ?_⟩
  obtain ⟨b, o, hA, hb, hc⟩ := h.2.2.2 hn
  obtain ⟨s, hs⟩ := nth_of hn
  have hl := cell_lt (hc 0 s hs)
  have e := hk b hb hl
  refine ⟨b, o, hA, ?_, fun j s hj => ?_⟩
  · rcases hb with hb | ⟨cur, z, hb⟩
    · exact .inl hb
    · exact .inr ⟨cur, z, e.trans hb⟩
  · have := hc j s hj
    rwa [World.cell?_of_block (w := w) (w' := w') e]
theorem SArr.innLt {A : Option Addr} {c : Nat} {S : List Int} (h : SArr w (Lt lo) A c S) : SArr w (Inn w lo) A c S := h.mono fun b hb => .inl hb
/-- A row of numbers of the call's own. -/
theorem inn_own {n : Nat} {S : List Int} {B : Nat} (h : w.ownsRow B 3 1 v n (numC S)) (hn : n = S.length) : ∃ A c, v = .slice A S.length c ∧ SArr w (Inn w lo) A c S := by
  subst hn
  obtain ⟨hl, h⟩ := h
  rcases h with ⟨rfl, hz⟩ | ⟨g, cap, cur, rfl, hb, hg, hc, hm, hs, htk⟩
  · have hz2 : S = [] := List.length_eq_zero_iff.1 hz
    subst hz2
    exact ⟨none, 0, rfl, SArr.nil _ _⟩
  · refine ⟨_, _, rfl, hc, hm, (fun e => by cases e), fun _ => ⟨g, 0, rfl, .inr ⟨_, _, hg⟩, fun j s hj => ?_⟩⟩
    have hjl := get_lt hj
    have hv := numC_get hj
    rw [← htk, List.getElem?_take, if_pos (by omega)] at hv
    rw [cell_row hg, Nat.zero_add]
    simpa using hv
theorem own_inn {s n : Nat} {xs : List Value} (h : w.ownsRow base 57 s v n xs) (hlo : lo ≤ base) {b : Nat} (hb : Inn w lo b) : some b ≠ v.ownBlock := by
  intro e
  obtain ⟨cur, hg, hbs⟩ := row_t h e.symm
  rcases hb with hb | ⟨cur2, z, hb⟩
  · omega
  · rw [hg] at hb
    injection hb with hb
    injection hb with _ hb _
    exact absurd hb (by decide)
theorem SetV.grown {xs : List Value} {n : Nat} (h : SetV w (Inn w lo) vs L) (hv : w.ownsRow base 57 3 v n xs) (hlo : lo ≤ base) (hg : w.grownBy w2 v.ownBlock) : SetV w2 (Inn w2 lo) vs L :=
  h.mono fun A c S hs => hs.inn fun b hb hl => hg.block b hl (own_inn hv hlo hb)
theorem SetV.below (h : SetV w (Inn w lo) vs L) (hb : Below w.heap.size w w2) : SetV w2 (Inn w2 lo) vs L :=
  h.mono fun A c S hs => hs.inn fun b _ hl => hb.block b hl
theorem TOwn.nil (w : World) {base lo : Nat} (h : lo ≤ base) : TOwn w base lo (.slice none 0 0) [] := ⟨h, [], World.ownsRow_nil _ _ _ _, SetV.nil⟩
theorem TOwn.below (h : TOwn w base lo v L) (hb : Below w.heap.size w w2) : TOwn w2 base lo v L := by
  obtain ⟨h0, vs, h1, h2⟩ := h
  exact ⟨h0, vs, ownsRow_keep h1 fun g _ _ hl => hb.block g hl, h2.below hb⟩
theorem TOwn.lower {base' : Nat} (h : TOwn w base lo v L) (hb : base' ≤ base) (hl : lo ≤ base') : TOwn w base' lo v L := by
  obtain ⟨h0, vs, h1, h2⟩ := h
  exact ⟨hl, vs, ownsRow_lower h1 hb, h2⟩
theorem TOwn.tarr (h : TOwn w base lo v L) : ∃ A c, v = .slice A L.length c ∧ TArr w (Lt w.heap.size) A c L := by
  obtain ⟨_, vs, ⟨hl, h1⟩, h2⟩ := h
  rcases h1 with ⟨rfl, hz⟩ | ⟨g, cap, cur, rfl, hb, hg, hc, hm, hs, htk⟩
  · have hz2 : L = [] := List.length_eq_zero_iff.1 hz
    subst hz2
    exact ⟨none, 0, rfl, TArr.nil _ _⟩
  · refine ⟨_, _, rfl, hc, hm, (fun e => by cases e), fun _ => ⟨g, 0, rfl, blk_lt hg, fun j x hj => ?_⟩⟩
    have hjl := get_lt hj
    obtain ⟨a0, a1, A, c, a2, hS⟩ := h2.2 j x hj
    rw [← htk, List.getElem?_take, if_pos (by omega)] at a0 a1 a2
    rw [cell_row hg, cell_row hg, cell_row hg, Nat.zero_add]
    exact ⟨by simpa using a0, by simpa using a1, A, c, by simpa using a2, hS.lt⟩
theorem TOwn.form (h : TOwn w base lo v L) (hn : 0 < L.length) : ∃ g cap, v = .slice (some ⟨g, 0, none⟩) L.length cap ∧ base ≤ g ∧ g < w.heap.size ∧ L.length ≤ cap ∧ cap ≤ maxLen := by
  obtain ⟨_, vs, ⟨hl, h1⟩, h2⟩ := h
  rcases h1 with ⟨rfl, hz⟩ | ⟨g, cap, cur, rfl, hb, hg, hc, hm, hs, htk⟩
  · omega
  · exact ⟨g, cap, rfl, hb, blk_lt hg, hc, hm⟩
/-- One set more behind the others (or more than one). -/
theorem TOwn.push_ (hlo : lo ≤ base) (hs : SetV w (Inn w lo) vs L) (hu : SetV w (Inn w lo) us M) (hv : w.ownsRow base 57 3 v L.length vs) (hg : w.grownBy w2 v.ownBlock) {n : Nat} (hown : w2.ownsRow base 57 3 v2 n (vs ++ us)) (hn : n = L.length + M.length) :
    TOwn w2 base lo v2 (L ++ M) :=
  ⟨hlo, vs ++ us, by rw [List.length_append, ← hn]; exact hown, (hs.grown hv hlo hg).append (hu.grown hv hlo hg)⟩
end
theorem three_news {w : World} {g : Nat} {v0 v1 v2 : Value} (h0 : w.cell? ⟨g, 0, none⟩ = some v0) (h1 : w.cell? ⟨g, 1, none⟩ = some v1) (h2 : w.cell? ⟨g, 2, none⟩ = some v2) :
    ∀ (j : Nat) (u : Value), [v0, v1, v2][j]? = some u → w.cell? ((⟨g, 0, none⟩ : Addr).add j) = some u := by
  intro j u hu
  rw [add_at]
  rcases j with _ | _ | _ | j <;> simp at hu <;> subst hu <;> simp <;> assumption
theorem set_info : (Try.prog.info? 57).map (fun i => (i.zero, i.size, i.bytes)) = some (some (.agg #[.int .i64 0, .int .i64 0, .slice none 0 0]), 3, 40) := by kernel_rfl
theorem num_info : (Try.prog.info? 3).map (fun i => (i.zero, i.size, i.bytes)) = some (some (.int .i64 0), 1, 8) := by kernel_rfl
end Go.Proofs.Ytjkbjbikofindaa
