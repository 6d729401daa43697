/-
  Package remset as it landed: numbers sorted and freed of repeated ones; Into.
-/
import Derived.Test.YtjkbjbikofindaaRDg
import Derived.Lib.SortBridge
import Derived.Lib.RowBridge
namespace Go.Proofs.Ytjkbjbikofindaa
open Go.RowKit Go.Sort Go.Maps
set_option maxRecDepth 100000
set_option linter.unusedVariables false

/-- The numbers sorted. -/
def srt (S : List Int) : List Int := S.mergeSort fun x y => decide (x ≤ y)
theorem srt_perm (S : List Int) : (srt S).Perm S := List.mergeSort_perm S _
theorem srt_length (S : List Int) : (srt S).length = S.length := (srt_perm S).length_eq
theorem srt_sorted (S : List Int) : (srt S).Pairwise (fun a b => a ≤ b) := by
  have h := List.pairwise_mergeSort (le := fun x y : Int => decide (x ≤ y)) (fun a b c h1 h2 => by simp at *; omega) (fun a b => by simp; omega) S
  exact h.imp fun h => by simpa using h
theorem srt_eq {S T : List Int} (h : S.Perm T) : srt S = srt T :=
  List.Perm.eq_of_pairwise (le := fun a b : Int => a ≤ b) (fun a b _ _ h1 h2 => by omega) (srt_sorted S) (srt_sorted T) (((srt_perm S).trans h).trans (srt_perm T).symm)
/-- A row of numbers of the call's own: it may be read, and written. -/
def Mine (w : World) (B : Nat) (A : Option Addr) (c : Nat) (S : List Int) : Prop :=
  S.length ≤ c ∧ c ≤ maxLen ∧ (A = none → c = 0) ∧ (0 < S.length → ∃ b o, A = some ⟨b, o, none⟩ ∧ B ≤ b ∧ b < w.heap.size ∧ ∀ (j : Nat) (s : Int), S[j]? = some s → w.cell? ⟨b, o + j, none⟩ = some (.int .i64 s) ∧ w.frozen? ⟨b, o + j, none⟩ = false)
section
variable {w w' : World} {B : Nat} {A : Option Addr} {c : Nat} {S : List Int}
theorem Mine.sarr (h : Mine w B A c S) : SArr w (Lt w.heap.size) A c S := by
  refine ⟨h.1, h.2.1, h.2.2.1, fun hn => ?_⟩
  obtain ⟨b, o, hA, _, hb, hc⟩ := h.2.2.2 hn
  exact ⟨b, o, hA, hb, fun j s hj => (hc j s hj).1⟩
theorem Mine.next (h : Mine w B A c S) (hb : Below w.heap.size w w') : Mine w' B A c S := by
  refine ⟨h.1, h.2.1, h.2.2.1, fun hn => ?_⟩
  obtain ⟨b, o, hA, hB, hlt, hc⟩ := h.2.2.2 hn
  exact ⟨b, o, hA, hB, Nat.lt_of_lt_of_le hlt hb.size, fun j s hj => ⟨(hb.cell (p := ⟨b, o + j, none⟩) hlt).trans (hc j s hj).1, (hb.frozen (p := ⟨b, o + j, none⟩) hlt).trans (hc j s hj).2⟩⟩
theorem Mine.lower {B' : Nat} (h : Mine w B A c S) (hB : B' ≤ B) : Mine w B' A c S := by
  refine ⟨h.1, h.2.1, h.2.2.1, fun hn => ?_⟩
  obtain ⟨b, o, hA, hb, hlt, hc⟩ := h.2.2.2 hn
  exact ⟨b, o, hA, Nat.le_trans hB hb, hlt, hc⟩
theorem Mine.nil (w : World) (B : Nat) (A : Option Addr) (c : Nat) (hc : c ≤ maxLen) (hA : A = none → c = 0) : Mine w B A c [] := ⟨by simp, hc, hA, fun h => absurd h (by simp)⟩
theorem mine_of_row {v : Value} (h : w.ownsRow B 3 1 v S.length (S.map (Value.int .i64))) : ∃ A c, v = .slice A S.length c ∧ Mine w B A c S := by
  obtain ⟨hl, h⟩ := h
  rcases h with ⟨rfl, hz⟩ | ⟨g, cap, cur, rfl, hb, hg, hc, hm, hs, htk⟩
  · have hz2 : S = [] := List.length_eq_zero_iff.1 hz
    subst hz2
    exact ⟨none, 0, rfl, Mine.nil _ _ _ _ (by simp) (fun _ => rfl)⟩
  · refine ⟨_, _, rfl, hc, hm, (fun e => by cases e), fun _ => ⟨g, 0, rfl, hb, blk_lt hg, fun j s hj => ⟨?_, free_row hg⟩⟩⟩
    have hjl := get_lt hj
    have hv : (S.map (Value.int .i64))[j]? = some (.int .i64 s) := by rw [List.getElem?_map, hj]; rfl
    rw [← htk, List.getElem?_take, if_pos (by omega)] at hv
    rw [cell_row hg, Nat.zero_add]
    simpa using hv
theorem below_cells {a : World} {b : Nat} (hb : B ≤ b) : ∀ (vs : List Value) (o : Nat) (w : World), Below B a w → Below B a (w.setCells b o vs)
  | [], _, _, h => h
  | v :: r, o, w, h => below_cells hb r (o + 1) _ (h.setCell (p := ⟨b, o, none⟩) hb v)
theorem below_grow {a : World} (h : Below B a w) (hB : B ≤ w.heap.size) (os : Array Obj) : Below B a (grow w os) :=
  h.trans ⟨rfl, rfl, rfl, by simp, fun k hk => heap_grow_old w os (Nat.lt_of_lt_of_le hk hB)⟩
theorem below_drawn {a : World} (h : Below B a w) (q : Nat) : Below B a (w.drewN q) := h.trans ⟨rfl, rfl, rfl, Nat.le_refl _, fun _ _ => rfl⟩
theorem size_setCells {b : Nat} : ∀ (vs : List Value) (o : Nat) (w : World), (w.setCells b o vs).heap.size = w.heap.size
  | [], _, _ => rfl
  | v :: r, o, w => by rw [World.setCells, size_setCells r]; simp [World.setCell]
/-- What is written over a whole row of the call's own. -/
theorem Mine.put {b o : Nat} (h : Mine w B (some ⟨b, o, none⟩) c S) (hn : 0 < S.length) (T U : List Int) (hT : (T ++ U).length = S.length) (q : Nat) (os : Array Obj) :
    Mine (grow ((w.drewN q).setCells b o ((T ++ U).map (Value.int .i64))) os) B (some ⟨b, o, none⟩) c T ∧ (B ≤ w.heap.size → Below B w (grow ((w.drewN q).setCells b o ((T ++ U).map (Value.int .i64))) os)) := by
  obtain ⟨b', o', e, hB, hlt, hc⟩ := h.2.2.2 hn
  injection e with e
  injection e with e1 e2
  subst e1 e2
  have hsz : ((w.drewN q).setCells b o ((T ++ U).map (Value.int .i64))).heap.size = w.heap.size := by rw [size_setCells]; rfl
  refine ⟨⟨?_, h.2.1, (fun e => by cases e), fun _ => ⟨b, o, rfl, hB, ?_, fun j s hj => ⟨?_, ?_⟩⟩⟩, fun hBw => ?_⟩
  · have := h.1
    simp at hT
    omega
  · rw [size_grow, hsz]
    omega
  · rw [cell?_grow _ _ _ (by rw [hsz]; exact hlt)]
    have hjl := get_lt hj
    have hjl2 : j < ((T ++ U).map (Value.int .i64)).length := by simp; omega
    rw [World.cell?_setCells_in b _ o (w.drewN q) (fun t ht => by
      have ht' : t < S.length := by rw [List.length_map, hT] at ht; exact ht
      show (w.cell? ⟨b, o + t, none⟩).isSome = true
      rw [(hc t S[t] (List.getElem?_eq_getElem ht')).1]; rfl) j hjl2]
    rw [List.getElem?_eq_getElem hjl] at hj
    injection hj with hj
    simp only [List.map_append, List.getElem_append, List.length_map, hjl, dif_pos, List.getElem_map, hj]
  · rw [frozen?_grow _ _ _ (by rw [hsz]; exact hlt), World.frozen?_setCells]
    have hjl := get_lt hj
    have hjs : j < S.length := by rw [← hT]; simp; omega
    exact (hc j S[j] (List.getElem?_eq_getElem hjs)).2
  · exact below_grow (below_cells hB _ _ _ (below_drawn (Below.refl _ _) q)) (by rw [hsz]; exact hBw) os
end

theorem arr_get {S : List Int} {m : Nat} {x : Int} (hx : S[m]? = some x) : S.toArray[m]! = x := by
  have hl := get_lt hx
  rw [getElem!_pos S.toArray m (by simpa using hl)]
  rw [List.getElem?_eq_getElem hl] at hx
  simpa using hx
/-- Numbers that do not descend, freed of repeated ones. -/
theorem compact_asc (S : List Int) (hs : S.Pairwise (fun a b => a ≤ b)) : AscN (Lib.compact S) ∧ ∀ y, y ∈ Lib.compact S ↔ y ∈ S := by
  have key : ∀ m, m ≤ S.length → (Lib.compactUpTo S.toArray m).Pairwise (· < ·) ∧ (∀ y, y ∈ Lib.compactUpTo S.toArray m ↔ y ∈ S.take m) ∧ (∀ y ∈ Lib.compactUpTo S.toArray m, ∀ z, 0 < m → S[m - 1]? = some z → y ≤ z) := by
    intro m
    induction m with
    | zero => intro _; simp [Lib.compactUpTo]
    | succ m ih =>
      intro hm
      obtain ⟨h1, h2, h3⟩ := ih (by omega)
      obtain ⟨x, hx⟩ := nth_of (l := S) (j := m) (by omega)
      have hxm : S.toArray[m]! = x := arr_get hx
      rw [Lib.compactUpTo_succ, hxm]
      have hge : ∀ y ∈ S.take m, y ≤ x := by
        intro y hy
        obtain ⟨j, hj⟩ := List.mem_iff_getElem?.1 hy
        rw [List.getElem?_take] at hj
        split at hj
        · have hp := List.pairwise_iff_getElem.1 hs j m (by omega) (by omega) (by assumption)
          rw [List.getElem?_eq_getElem (by omega)] at hj hx
          injection hj with hj
          injection hx with hx
          rw [← hj, ← hx]
          exact hp
        · cases hj
      by_cases hk : Lib.keeps S.toArray m = true
      · rw [if_pos hk]
        have hlt : ∀ y ∈ Lib.compactUpTo S.toArray m, y < x := by
          intro y hy
          have hle := hge y ((h2 y).1 hy)
          rcases Nat.eq_zero_or_pos m with h0 | h0
          · subst h0
            simp [Lib.compactUpTo] at hy
          · unfold Lib.keeps at hk
            simp only [decide_eq_true_eq] at hk
            rcases hk with hk | hk
            · omega
            · obtain ⟨z, hz⟩ := nth_of (l := S) (j := m - 1) (by omega)
              have hzm : S.toArray[m - 1]! = z := arr_get hz
              rw [hxm, hzm] at hk
              have h4 := h3 y hy z h0 hz
              have h5 := hge z (List.mem_iff_getElem?.2 ⟨m - 1, by rw [List.getElem?_take, if_pos (by omega)]; exact hz⟩)
              omega
        refine ⟨List.pairwise_append.2 ⟨h1, by simp, fun y hy z hz => by simp at hz; subst hz; exact hlt y hy⟩, fun y => ?_, fun y hy z _ hz => ?_⟩
        · rw [List.take_add_one, hx, List.mem_append, List.mem_append, h2]
          simp
        · rw [Nat.add_sub_cancel, hx] at hz
          injection hz with hz
          subst hz
          rcases List.mem_append.1 hy with h | h
          · have := hlt y h; omega
          · simp at h; omega
      · rw [if_neg hk, List.append_nil]
        have hm0 : 0 < m := by
          rcases Nat.eq_zero_or_pos m with h0 | h0
          · exfalso; apply hk; subst h0; simp [Lib.keeps]
          · exact h0
        obtain ⟨z, hz⟩ := nth_of (l := S) (j := m - 1) (by omega)
        have hzm : S.toArray[m - 1]! = z := arr_get hz
        have hxz : x = z := by
          apply Classical.byContradiction
          intro hne
          apply hk
          unfold Lib.keeps
          simp only [decide_eq_true_eq]
          rw [hxm, hzm]
          exact .inr hne
        refine ⟨h1, fun y => ?_, fun y hy v _ hv => ?_⟩
        · rw [List.take_add_one, hx, List.mem_append, h2]
          constructor
          · exact .inl
          · rintro (h | h)
            · exact h
            · simp at h
              subst h
              exact List.mem_iff_getElem?.2 ⟨m - 1, by rw [List.getElem?_take, if_pos (by omega), hz, hxz]⟩
        · rw [Nat.add_sub_cancel, hx] at hv
          injection hv with hv
          rw [← hv, hxz]
          exact h3 y hy z hm0 hz
  have h := key S.length (Nat.le_refl _)
  have e : Lib.compact S = Lib.compactUpTo S.toArray S.length := by unfold Lib.compact; simp
  rw [e]
  refine ⟨?_, fun y => by rw [h.2.1, List.take_length]⟩
  have hp := h.1
  revert hp
  generalize Lib.compactUpTo S.toArray S.length = T
  intro hp
  induction hp with
  | nil => trivial
  | cons h1 _ ih => exact ascN_cons ih h1

/-- The slots of the sets that point into some frames, as they are gathered. -/
def catS (F : List Int) (L : List SetR) : List Int := (L.filter (inS F)).flatMap (·.sl)
theorem catS_next (F : List Int) (L : List SetR) {t : Nat} {x : SetR} (h : L[t]? = some x) : catS F (L.take (t + 1)) = if inS F x = true then catS F (L.take t) ++ x.sl else catS F (L.take t) := by
  unfold catS
  rw [List.take_add_one, h, List.filter_append]
  cases hd : inS F x <;> simp [hd]
theorem catS_len (F : List Int) (L : List SetR) : (catS F L).length = cntT (L.filter (inS F)) := by
  unfold catS cntT
  rw [List.length_flatMap]
theorem catS_le (F : List Int) (L : List SetR) (t : Nat) : (catS F (L.take t)).length ≤ cntT L := by
  rw [catS_len]
  exact cntF_le F L t
theorem into_eq (F : List Int) (L : List SetR) : Lib.compact (srt (catS F L)) = intoS F L := by
  obtain ⟨h1, h2⟩ := compact_asc (srt (catS F L)) (srt_sorted _)
  obtain ⟨i1, i2, _⟩ := intoS_facts F L
  refine valS_ext.asc_ext h1 i1 fun y => ?_
  rw [h2, i2, (srt_perm _).mem_iff]
  unfold catS
  simp only [List.mem_flatMap, List.mem_filter]
  constructor
  · rintro ⟨x, ⟨hx, hi⟩, hy⟩
    exact ⟨x, hx, hi, hy⟩
  · rintro ⟨x, hx, hi, hy⟩
    exact ⟨x, ⟨hx, hi⟩, hy⟩

/-- Readable numbers, and how many slots. -/
def ReadN (S : List Int) (n : Nat) (w : World) (e : Ending) (w' : World) : Prop := ∃ A c, e = .returned (.tuple #[.slice A S.length c, .int .i64 n]) ∧ SArr w' (Lt w'.heap.size) A c S ∧ Below w.heap.size w w'
end Go.Proofs.Ytjkbjbikofindaa
