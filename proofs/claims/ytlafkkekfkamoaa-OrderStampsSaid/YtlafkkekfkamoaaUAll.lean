/-
  All increments of belts in one row; the first one; two rows compared.
-/
import Derived.Test.YtlafkkekfkamoaaQwnt
import Derived.Laws.AppendOwnNone
import Derived.Laws.StructEq
import Derived.RegionTactic
namespace Go.Proofs.Ytlafkkekfkamoaa
open Go.RowKit
set_option maxRecDepth 100000
set_option linter.unusedVariables false

/-- The slice at A (capacity c) holds the numbers S, in a block of which P is true. -/
def SArr (w : World) (P : Nat → Prop) (A : Option Addr) (c : Nat) (S : List Int) : Prop :=
  S.length ≤ c ∧ c ≤ maxLen ∧ (A = none → c = 0) ∧ (0 < S.length → ∃ b o, A = some ⟨b, o, none⟩ ∧ P b ∧ ∀ (j : Nat) (s : Int), S[j]? = some s → w.cell? ⟨b, o + j, none⟩ = some (.int .i64 s))
section
variable {w w' : World} {P P' : Nat → Prop} {A : Option Addr} {c : Nat} {S : List Int}
theorem SArr.at_ (h : SArr w P A c S) {j : Nat} {s : Int} (hj : S[j]? = some s) : ∃ b o, A = some ⟨b, o, none⟩ ∧ P b ∧ b < w.heap.size ∧ w.cell? ⟨b, o + j, none⟩ = some (.int .i64 s) := by
  obtain ⟨b, o, hA, hb, hc⟩ := h.2.2.2 (by have := get_lt hj; omega)
  exact ⟨b, o, hA, hb, cell_lt (hc j s hj), hc j s hj⟩
theorem SArr.keep (h : SArr w P A c S) (hk : ∀ b o, P b → w'.cell? ⟨b, o, none⟩ = w.cell? ⟨b, o, none⟩) : SArr w' P A c S := by
  refine ⟨h.1, h.2.1, h.2.2.1, fun hn => ?_⟩
  obtain ⟨b, o, hA, hb, hc⟩ := h.2.2.2 hn
  exact ⟨b, o, hA, hb, fun j s hj => (hk _ _ hb).trans (hc j s hj)⟩
theorem SArr.mono (h : SArr w P A c S) (hp : ∀ b, P b → P' b) : SArr w P' A c S := by
  refine ⟨h.1, h.2.1, h.2.2.1, fun hn => ?_⟩
  obtain ⟨b, o, hA, hb, hc⟩ := h.2.2.2 hn
  exact ⟨b, o, hA, hp b hb, hc⟩
theorem SArr.nil (w : World) (P : Nat → Prop) : SArr w P none 0 [] := ⟨by simp, by simp, fun _ => rfl, fun h => absurd h (by simp)⟩
theorem SArr.below {B : Nat} (h : SArr w (Lt B) A c S) (hb : Below B w w') : SArr w' (Lt B) A c S := h.keep fun b o hp => hb.cell hp
theorem SArr.next (h : SArr w (Lt w.heap.size) A c S) (hb : Below w.heap.size w w') : SArr w' (Lt w'.heap.size) A c S := (h.below hb).mono fun b hp => Nat.lt_of_lt_of_le hp hb.size
theorem SArr.lt (h : SArr w P A c S) : SArr w (Lt w.heap.size) A c S := by
  refine ⟨h.1, h.2.1, h.2.2.1, fun hn => ?_⟩
  obtain ⟨b, o, hA, hb, hc⟩ := h.2.2.2 hn
  obtain ⟨i, hi⟩ : ∃ i, S[0]? = some i := ⟨S[0], List.getElem?_eq_getElem hn⟩
  exact ⟨b, o, hA, cell_lt (hc 0 i hi), hc⟩
theorem SArr.take (h : SArr w P A c S) (k : Nat) : SArr w P A c (S.take k) := by
  refine ⟨Nat.le_trans (by simp; omega) h.1, h.2.1, h.2.2.1, fun hn => ?_⟩
  obtain ⟨b, o, hA, hb, hc⟩ := h.2.2.2 (by simp at hn; omega)
  exact ⟨b, o, hA, hb, fun j s hj => hc j s (by rw [List.getElem?_take] at hj; split at hj; exact hj; cases hj)⟩
theorem LArr.take {I : List IncR} (h : LArr w P A c I) (k : Nat) : LArr w P A c (I.take k) := by
  refine ⟨Nat.le_trans (by simp; omega) h.1, h.2.1, h.2.2.1, fun hn => ?_⟩
  obtain ⟨b, o, hA, hb, hc⟩ := h.2.2.2 (by simp at hn; omega)
  exact ⟨b, o, hA, hb, fun j s hj => hc j s (by rw [List.getElem?_take] at hj; split at hj; exact hj; cases hj)⟩
/-- The cells of a row of numbers. -/
def numC (S : List Int) : List Value := S.map fun s => .int .i64 s
theorem numC_length (S : List Int) : (numC S).length = S.length := by simp [numC]
theorem numC_append (S T : List Int) : numC (S ++ T) = numC S ++ numC T := by simp [numC]
theorem numC_one (S : List Int) : ∀ u ∈ numC S, u.oneCell' = true := by
  intro u hu
  simp only [numC, List.mem_map] at hu
  obtain ⟨s, _, rfl⟩ := hu
  rfl
theorem numC_get {S : List Int} {j : Nat} {s : Int} (h : S[j]? = some s) : (numC S)[j]? = some (.int .i64 s) := by simp [numC, h]
theorem SArr.cells {b o : Nat} (h : SArr w P (some ⟨b, o, none⟩) c S) : ∀ (j : Nat) (u : Value), (numC S)[j]? = some u → w.cell? ((⟨b, o, none⟩ : Addr).add j) = some u := by
  intro j u hu
  have hj := get_lt hu
  rw [numC_length] at hj
  obtain ⟨s, hs⟩ := (show ∃ s, S[j]? = some s from ⟨S[j], List.getElem?_eq_getElem hj⟩)
  obtain ⟨b', o', e, _, hc⟩ := h.2.2.2 (by omega)
  injection e with e
  injection e with e1 e2
  subst e1 e2
  rw [numC_get hs] at hu
  injection hu with hu
  rw [add_at, ← hu]
  exact hc j s hs
theorem sarr_of {B : Nat} {v : Value} (h : w.ownsRow B 3 1 v S.length (numC S)) : ∃ A c, v = .slice A S.length c ∧ SArr w (Rng B w.heap.size) A c S := by
  obtain ⟨hl, h⟩ := h
  rcases h with ⟨rfl, hz⟩ | ⟨g, cap, cur, rfl, hb, hg, hc, hm, hs, htk⟩
  · have hz2 : S = [] := List.length_eq_zero_iff.1 hz
    subst hz2
    exact ⟨none, 0, rfl, SArr.nil _ _⟩
  · refine ⟨_, _, rfl, hc, hm, (fun e => by cases e), fun _ => ⟨g, 0, rfl, ⟨hb, blk_lt hg⟩, fun j s hj => ?_⟩⟩
    have hjl := get_lt hj
    have hv := numC_get hj
    rw [← htk, List.getElem?_take, if_pos (by omega)] at hv
    rw [cell_row hg, Nat.zero_add]
    simpa using hv
end

theorem sarr_list {w : World} {B n c : Nat} {x : Addr} (h : ListP w B (some x) n c) : ∃ S : List Int, S.length = n ∧ SArr w (Lt B) (some x) c S := by
  have key : ∀ m, m ≤ n → ∃ S : List Int, S.length = m ∧ ∀ (j : Nat) (s : Int), S[j]? = some s → ∃ b o, x = ⟨b, o, none⟩ ∧ b < B ∧ w.cell? ⟨b, o + j, none⟩ = some (.int .i64 s) := by
    intro m
    induction m with
    | zero => exact fun _ => ⟨[], rfl, fun j s hj => by simp at hj⟩
    | succ m ih =>
      intro hm
      obtain ⟨S, h1, h2⟩ := ih (by omega)
      obtain ⟨b, o, v, e, hb, hc, _⟩ := h.2.2 m (by omega)
      injection e with e
      refine ⟨S ++ [v], by simp [h1], fun j s hj => ?_⟩
      rcases Nat.lt_or_ge j S.length with hl | hl
      · rw [List.getElem?_append_left hl] at hj
        exact h2 j s hj
      · rw [List.getElem?_append_right hl] at hj
        have := get_lt hj
        simp at this
        have hjm : j = m := by omega
        subst hjm
        rw [h1, Nat.sub_self] at hj
        simp at hj
        subst hj
        exact ⟨b, o, e, hb, hc⟩
  obtain ⟨S, h1, h2⟩ := key n (Nat.le_refl _)
  refine ⟨S, h1, by rw [h1]; exact h.1, h.2.1, (fun e => by cases e), fun hn => ?_⟩
  obtain ⟨s, hs⟩ : ∃ s, S[0]? = some s := ⟨S[0], List.getElem?_eq_getElem hn⟩
  obtain ⟨b, o, e, hb, _⟩ := h2 0 s hs
  refine ⟨b, o, by rw [e], hb, fun j r hj => ?_⟩
  obtain ⟨b', o', e', _, hc⟩ := h2 j r hj
  rw [e] at e'
  injection e' with e1 e2
  subst e1 e2
  exact hc
section
variable {P : Program} (w : World)
/-- append of numbers that may be read to a row of the call's own. -/
theorem wpList_append_sarr {ops : Array Oper} {rest : List Oper} {o : Oper} {a : Act} {Q : Exit → Act → World → Prop} (hgd : o.guard = none) (s x : Operand) (t : TypeId)
    (ho : o.op = .call { callee := .builtin .append, args := #[s, x], argTypes := #[t, t] })
    (base : Nat) (e : TypeId) (i : TypeInfo) (z : Value) (bytes : Nat) (ht : P.underlying t = some (.slice e)) (hi : P.info? e = some i) (hz : i.zero = some z) (hsize : i.size = 1) (hby : i.bytes = bytes) (hzs : z.cells.size = 1)
    (v : Value) (n : Nat) (xs : List Value) (hs : a.eval s = v) (hown : w.ownsRow base e 1 v n xs) (A : Option Addr) (m c : Nat) (S : List Int) (Pb : Nat → Prop) (hx : a.eval x = .slice A m c) (hm : m = S.length) (hS : SArr w Pb A c S)
    (h63 : n + m ≤ maxLen) (hbytes : (n + m) * bytes ≤ 140737488355328) (hbase : base ≤ w.heap.size)
    (h : ∀ v' w', w'.ownsRow base e 1 v' (n + m) (xs ++ numC S) → w.grownBy w' v.ownBlock → wpList P ops Q rest (a.put o.dst v') w') : wpList P ops Q (o :: rest) a w := by
  subst hm
  rcases A with _ | ad
  · have hc := hS.2.2.1 rfl
    have hl := hS.1
    have hI : S = [] := List.length_eq_zero_iff.1 (by omega)
    subst hI hc
    refine wpList_append_own_none hgd s x t ho base e i 1 ht hi v n xs hs hown hx ?_
    exact h v w (by simpa [numC] using hown) ⟨rfl, rfl, rfl, Nat.le_refl _, fun _ _ _ => rfl⟩
  · have hcs : ∀ (j : Nat) (u : Value), (numC S)[j]? = some u → w.cell? (ad.add j) = some u := by
      intro j u hu
      have hj := get_lt hu
      rw [numC_length] at hj
      obtain ⟨b, o, e, _⟩ := hS.2.2.2 (by omega)
      injection e with e
      subst e
      exact hS.cells j u hu
    exact wpList_append_own w hgd s x t ho base e i z 1 bytes ht hi hz hsize hby hzs (by decide) v n xs hs hown ad S.length c (numC S) hx (by rw [numC_length, Nat.mul_one]) hcs (numC_one S) h63 hbytes hbase fun v' w' h1 h2 _ => h v' w' h1 h2
end
theorem flat_next {α : Type} {Q : List (List α)} {t : Nat} {q : List α} (h : Q[t]? = some q) : (Q.take (t + 1)).flatten = (Q.take t).flatten ++ q := by
  rw [List.take_add_one, h]
  simp
theorem flat_len {α : Type} (Q : List (List α)) (t : Nat) : (Q.take t).flatten.length ≤ Q.flatten.length := by
  have h := congrArg (fun l => l.flatten.length) (List.take_append_drop t Q)
  simp only [List.flatten_append, List.length_append] at h
  omega
theorem row_blk {w : World} {B s n : Nat} {e : TypeId} {v : Value} {xs : List Value} (h : w.ownsRow B e s v n xs) : ∀ x, v.ownBlock = some x → B ≤ x := fun x hx => (h.lt x hx).1

set_option maxHeartbeats 1000000 in
theorem refAll_any (A : Option Addr) (c : Nat) (Q : List (List IncR)) (w : World) (hQ : QArr w (Lt w.heap.size) A c Q) (hf : Q.flatten.length ≤ 4096) :
    Calls Try.prog 17 #[.slice A Q.length c] w (GivesRowI Q.flatten w) := by
  obtain ⟨i0, hi0, hz0, hz1, hz2⟩ := info_parts inc_info
  have HQ := Lib.hid hQ
  have hm := hQ.2.1
  have hm' := hQ.1
  simp only [maxLen] at hm
  clear hQ
  go_enter Try.func17, Try.ntmps17
  go_wp2_with fail
  go_loopw [3, 8] (fun v i wr => ∃ t : Nat, t ≤ Q.length ∧ i = .int .i64 t ∧ wr.ownsRow w.heap.size 24 5 v (Q.take t).flatten.length (incCells (Q.take t).flatten) ∧ Below w.heap.size w wr) (fun _ i _ => Q.length - (intOf i).toNat)
  case atStart => exact ⟨0, by omega, rfl, World.ownsRow_nil _ _ _ _, Below.refl _ _⟩
  case round =>
    obtain ⟨t, ht, rfl, hr, hb⟩ := hrel
    have HR := Lib.hid hr
    have HB := Lib.hid hb
    clear hr hb
    by_cases hlt : t < Q.length
    · have hlt2 : 0 ≤ (t : Int) ∧ (t : Int) < Q.length := by omega
      obtain ⟨q, hq⟩ := nth_of hlt
      obtain ⟨b, o, Ai, ci, rfl, hP, _, c0', hL⟩ := HQ.out.at_ hq
      have c0 := (HB.out.cell (p := ⟨b, o + t, none⟩) hP).trans c0'
      have HL := Lib.hid (hL.below HB.out)
      have HN := Lib.hid (flat_next hq)
      have hfl := flat_len Q (t + 1)
      rw [HN.out, List.length_append] at hfl
      obtain ⟨n0, hn0⟩ : ∃ n, n = (Q.take t).flatten.length := ⟨_, rfl⟩
      rw [← hn0] at HR hfl
      have HN0 := Lib.hid hn0
      clear hq hP hL c0' hn0
      rcases Ai with _ | ad
      · have hc := HL.out.2.2.1 rfl
        have hl0 := HL.out.1
        have hI : q = [] := List.length_eq_zero_iff.1 (by omega)
        subst hI hc
        clear hl0
        go_wp2_with (at_builtin; refine wpList_append_own_none rfl _ _ 25 rfl w.heap.size 24 i0 5 Try.underlying25 hi0 _ n0 _ rfl HR.out rfl ?_)
        go_wp2
        refine ⟨⟨t + 1, by omega, by go_num, ?_, HB.out⟩, by simp [intOf]; omega⟩
        rw [HN.out, List.append_nil, ← HN0.out]
        exact HR.out
      · obtain ⟨g, o', hA⟩ : ∃ g o', q = [] ∨ ad = ⟨g, o', none⟩ := by
          by_cases hq0 : q.length = 0
          · exact ⟨0, 0, .inl (List.length_eq_zero_iff.1 hq0)⟩
          · obtain ⟨b, o, e, _⟩ := HL.out.2.2.2 (by omega)
            injection e with e
            exact ⟨b, o, .inr e⟩
        have hcs : ∀ (j : Nat) (u : Value), (incCells q)[j]? = some u → wr.cell? (ad.add j) = some u := by
          intro j u hu
          have hj := get_lt hu
          rw [incCells_length] at hj
          obtain ⟨b, o, e, _⟩ := HL.out.2.2.2 (by omega)
          injection e with e
          subst e
          exact HL.out.cells j u hu
        have HC := Lib.hid hcs
        have HLN := Lib.hid (incCells_length q)
        have HM1 := Lib.hid (show n0 + q.length ≤ maxLen by simp only [maxLen]; omega)
        have HM2 := Lib.hid (show (n0 + q.length) * 40 ≤ 140737488355328 by omega)
        have HBW := Lib.hid HB.out.size
        clear hcs hA
        go_wp2_with (at_builtin; refine wpList_append_own _ rfl _ _ 25 rfl w.heap.size 24 i0 _ 5 40 Try.underlying25 hi0 hz0 hz1 hz2 rfl (by decide) _ n0 _ rfl HR.out ad q.length ci (incCells q) rfl HLN.out HC.out (incCells_one q) HM1.out HM2.out HBW.out ?_)
        intro v1 w1 hown hg _
        have HO := Lib.hid hown
        have HB1 : Hid (Below w.heap.size w w1) := Lib.hid (HB.out.grown hg HBW.out (row_blk HR.out))
        clear hg hown
        go_wp2
        refine ⟨⟨t + 1, by omega, by go_num, ?_, HB1.out⟩, by simp [intOf]; omega⟩
        rw [HN.out, List.length_append, incCells_append, ← HN0.out]
        exact HO.out
    · have hlt2 : ¬ (t : Int) < Q.length := by omega
      have htl : t = Q.length := by omega
      rw [htl, List.take_length] at HR
      clear htl
      go_wp2
      go_ret
      exact ⟨_, rfl, HR.out, row_one HR.out, HB.out⟩

/-- The list's first increment. -/
theorem refFirst_any (A : Option Addr) (c : Nat) (Q : List (List IncR)) (w : World) (hQ : QArr w (Lt w.heap.size) A c Q) (hf : Q.flatten.length ≤ 4096) :
    Calls Try.prog 19 #[.slice A Q.length c] w (GivesI Q.flatten.head? w) := by
  obtain ⟨U, hU⟩ : ∃ U, U = w.alloc (.cells #[.int .i64 0, .int .i64 0, .int .i64 0, .int .i64 0, .int .i64 0] 24) := ⟨_, rfl⟩
  have BI := (show Blk U w.heap.size 24 #[.int .i64 0, .int .i64 0, .int .i64 0, .int .i64 0, .int .i64 0] by rw [hU]; exact Blk.new _ _ _)
  have HBU : Hid (Below w.heap.size w U) := by rw [hU]; exact (Below.refl _ _).alloc (Nat.le_refl _) _
  have HQ := Lib.hid (hQ.next HBU.out)
  have HU := Lib.hid hU
  have HBI := Lib.hid BI
  clear hQ hU BI
  unfold GivesI
  obtain ⟨F, hF⟩ : ∃ F, F = Q.flatten := ⟨_, rfl⟩
  rw [← hF]
  have HFE := Lib.hid hF
  clear hF
  go_enter Try.func19, Try.ntmps19
  go_wp2_with fail
  rw [← HU.out]
  refine (refAll_any A c Q U HQ.out hf).mono ?_
  rintro e V ⟨v, rfl, hr, h1, hb⟩
  rw [← HFE.out] at hr
  obtain ⟨B, d, rfl, hl⟩ := larr_of hr
  have HV : Hid (Below w.heap.size w V) := below_next HBU.out (Nat.le_refl _) hb
  have BI := HBI.out.next hb
  have f0 := BI.frozen 0
  have f1 := BI.frozen 1
  have f2 := BI.frozen 2
  have f3 := BI.frozen 3
  have f4 := BI.frozen 4
  have p0 := BI.cell 0
  have p1 := BI.cell 1
  have p2 := BI.cell 2
  have p3 := BI.cell 3
  have p4 := BI.cell 4
  simp at p0 p1 p2 p3 p4
  have zi : w.heap.size < V.heap.size := BI.lt
  have hm := hl.2.1
  have hm' := hl.1
  simp only [maxLen] at hm
  have HL := Lib.hid hl
  clear hl hr hb h1 BI
  by_cases h0 : F.length = 0
  · have hqe : F = [] := List.length_eq_zero_iff.1 h0
    subst hqe
    have hb0 : (((([] : List IncR).length : Nat) : Int) == 0) = true := by simp
    clear h0 hm'
    go_wp2_with fail
    exact bodyPost_ret (v := .tuple #[inc0.v, .bool false]) (by simp [results, Try.results19, go_sem, inc0, IncR.v, p0, p1, p2, p3, p4]) rfl ⟨by simp, below_put5 HV.out (Nat.le_refl _) _ _ _ _ _⟩
  · have hb0 : ((F.length : Int) == 0) = false := by simp only [beq_eq_false_iff_ne]; omega
    obtain ⟨i, hi⟩ := nth_of (show 0 < F.length by omega)
    have HI := Lib.hid (show F.head? = some i by rw [← hi]; cases F <;> simp)
    obtain ⟨b', o', rfl, hP', hbz', d0, d1, d2, d3, d4⟩ := HL.out.at_ hi
    have hz : (0 : Int) < F.length := by omega
    simp at d0 d1 d2 d3 d4
    clear h0 hm hm' hi hP'
    go_wp2_with fail
    exact bodyPost_ret (v := .tuple #[i.v, .bool true]) (by simp [results, Try.results19, go_sem, IncR.v, p0, p1, p2, p3, p4]) rfl ⟨by rw [HI.out]; rfl, below_put5 HV.out (Nat.le_refl _) _ _ _ _ _⟩
end Go.Proofs.Ytlafkkekfkamoaa
