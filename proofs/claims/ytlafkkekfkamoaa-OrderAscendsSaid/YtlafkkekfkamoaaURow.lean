/-
  Rows of numbers of the call's own; slices.Clone, SortFunc, Compact, Equal of numbers, over the library's contracts; the developers' sorted, seqsOf.
-/
import Derived.Test.YtlafkkekfkamoaaUSrt
import Derived.Test.YtlafkkekfkamoaaShelf
import Derived.Test.YtlafkkekfkamoaaUCat
import Derived.Lib.SortBridge
namespace Go.Proofs.Ytlafkkekfkamoaa
open Go.RowKit Go.Sort
set_option maxRecDepth 100000
set_option linter.unusedVariables false

/-- A row of numbers of the call's own: it may be read, and written. -/
def Mine (w : World) (B : Nat) (A : Option Addr) (c : Nat) (S : List Int) : Prop :=
  S.length ≤ c ∧ c ≤ maxLen ∧ (A = none → c = 0) ∧ (0 < S.length → ∃ b o, A = some ⟨b, o, none⟩ ∧ B ≤ b ∧ b < w.heap.size ∧ ∀ (j : Nat) (s : Int), S[j]? = some s → w.cell? ⟨b, o + j, none⟩ = some (.int .i64 s) ∧ w.frozen? ⟨b, o + j, none⟩ = false)
section
variable {w w' : World} {B : Nat} {A : Option Addr} {c : Nat} {S : List Int}
theorem Mine.sarr (h : Mine w B A c S) : SArr w (Lt w.heap.size) A c S := by
  refine ⟨h.1, h.2.1, h.2.2.1, fun hn => ?_⟩
  obtain ⟨b, o, hA, _, hb, hc⟩ := h.2.2.2 hn
  exact ⟨b, o, hA, hb, fun j s hj => (hc j s hj).1⟩
theorem Mine.next (h : Mine w B A c S) (hb : Below w.heap.size w w') : Mine w' B A c S := by
  refine ⟨h.1, h.2.1, h.2.2.1, fun hn => ?_⟩
  obtain ⟨b, o, hA, hB, hlt, hc⟩ := h.2.2.2 hn
  exact ⟨b, o, hA, hB, Nat.lt_of_lt_of_le hlt hb.size, fun j s hj => ⟨(hb.cell (p := ⟨b, o + j, none⟩) hlt).trans (hc j s hj).1, (hb.frozen (p := ⟨b, o + j, none⟩) hlt).trans (hc j s hj).2⟩⟩
theorem Mine.lower {B' : Nat} (h : Mine w B A c S) (hB : B' ≤ B) : Mine w B' A c S := by
  refine ⟨h.1, h.2.1, h.2.2.1, fun hn => ?_⟩
  obtain ⟨b, o, hA, hb, hlt, hc⟩ := h.2.2.2 hn
  exact ⟨b, o, hA, Nat.le_trans hB hb, hlt, hc⟩
theorem Mine.nil (w : World) (B : Nat) (A : Option Addr) (c : Nat) (hc : c ≤ maxLen) (hA : A = none → c = 0) : Mine w B A c [] := ⟨by simp, hc, hA, fun h => absurd h (by simp)⟩
theorem mine_of_row {v : Value} (h : w.ownsRow B 3 1 v S.length (S.map (Value.int .i64))) : ∃ A c, v = .slice A S.length c ∧ Mine w B A c S := by
  obtain ⟨hl, h⟩ := h
  rcases h with ⟨rfl, hz⟩ | ⟨g, cap, cur, rfl, hb, hg, hc, hm, hs, htk⟩
  · have hz2 : S = [] := List.length_eq_zero_iff.1 hz
    subst hz2
    exact ⟨none, 0, rfl, Mine.nil _ _ _ _ (by simp) (fun _ => rfl)⟩
  · refine ⟨_, _, rfl, hc, hm, (fun e => by cases e), fun _ => ⟨g, 0, rfl, hb, blk_lt hg, fun j s hj => ⟨?_, free_row hg⟩⟩⟩
    have hjl := get_lt hj
    have hv : (S.map (Value.int .i64))[j]? = some (.int .i64 s) := by rw [List.getElem?_map, hj]; rfl
    rw [← htk, List.getElem?_take, if_pos (by omega)] at hv
    rw [cell_row hg, Nat.zero_add]
    simpa using hv
/-- The cells of a row, as the library's contracts ask for them. -/
theorem SArr.getD {P : Nat → Prop} {b o : Nat} (h : SArr w P (some ⟨b, o, none⟩) c S) : ∀ j, j < S.length → w.cell? ⟨b, o + j, none⟩ = some (.int .i64 (S.getD j 0)) := by
  intro j hj
  obtain ⟨b', o', e, _, hc⟩ := h.2.2.2 (by omega)
  injection e with e
  injection e with e1 e2
  subst e1 e2
  rw [hc j S[j] (List.getElem?_eq_getElem hj), List.getD_eq_getElem?_getD, List.getElem?_eq_getElem hj]
  rfl
theorem below_cells {a : World} {b : Nat} (hb : B ≤ b) : ∀ (vs : List Value) (o : Nat) (w : World), Below B a w → Below B a (w.setCells b o vs)
  | [], _, _, h => h
  | v :: r, o, w, h => below_cells hb r (o + 1) _ (h.setCell (p := ⟨b, o, none⟩) hb v)
theorem below_grow {a : World} (h : Below B a w) (hB : B ≤ w.heap.size) (os : Array Obj) : Below B a (grow w os) :=
  h.trans ⟨rfl, rfl, rfl, by simp, fun k hk => heap_grow_old w os (Nat.lt_of_lt_of_le hk hB)⟩
theorem below_drawn {a : World} (h : Below B a w) (q : Nat) : Below B a (w.drewN q) := h.trans ⟨rfl, rfl, rfl, Nat.le_refl _, fun _ _ => rfl⟩
theorem size_setCells {b : Nat} : ∀ (vs : List Value) (o : Nat) (w : World), (w.setCells b o vs).heap.size = w.heap.size
  | [], _, _ => rfl
  | v :: r, o, w => by rw [World.setCells, size_setCells r]; simp [World.setCell]
/-- What is written over a whole row of the call's own. -/
theorem Mine.put {b o : Nat} (h : Mine w B (some ⟨b, o, none⟩) c S) (hn : 0 < S.length) (T U : List Int) (hT : (T ++ U).length = S.length) (q : Nat) (os : Array Obj) :
    Mine (grow ((w.drewN q).setCells b o ((T ++ U).map (Value.int .i64))) os) B (some ⟨b, o, none⟩) c T ∧ (B ≤ w.heap.size → Below B w (grow ((w.drewN q).setCells b o ((T ++ U).map (Value.int .i64))) os)) := by
  obtain ⟨b', o', e, hB, hlt, hc⟩ := h.2.2.2 hn
  injection e with e
  injection e with e1 e2
  subst e1 e2
  have hsz : ((w.drewN q).setCells b o ((T ++ U).map (Value.int .i64))).heap.size = w.heap.size := by rw [size_setCells]; rfl
  refine ⟨⟨?_, h.2.1, (fun e => by cases e), fun _ => ⟨b, o, rfl, hB, ?_, fun j s hj => ⟨?_, ?_⟩⟩⟩, fun hBw => ?_⟩
  · have := h.1
    simp at hT
    omega
  · rw [size_grow, hsz]
    omega
  · rw [cell?_grow _ _ _ (by rw [hsz]; exact hlt)]
    have hjl := get_lt hj
    have hjl2 : j < ((T ++ U).map (Value.int .i64)).length := by simp; omega
    rw [World.cell?_setCells_in b _ o (w.drewN q) (fun t ht => by
      have ht' : t < S.length := by rw [List.length_map, hT] at ht; exact ht
      show (w.cell? ⟨b, o + t, none⟩).isSome = true
      rw [(hc t S[t] (List.getElem?_eq_getElem ht')).1]; rfl) j hjl2]
    rw [List.getElem?_eq_getElem hjl] at hj
    injection hj with hj
    simp only [List.map_append, List.getElem_append, List.length_map, hjl, dif_pos, List.getElem_map, hj]
  · rw [frozen?_grow _ _ _ (by rw [hsz]; exact hlt), World.frozen?_setCells]
    have hjl := get_lt hj
    have hjs : j < S.length := by rw [← hT]; simp; omega
    exact (hc j S[j] (List.getElem?_eq_getElem hjs)).2
  · exact below_grow (below_cells hB _ _ _ (below_drawn (Below.refl _ _) q)) (by rw [hsz]; exact hBw) os
end

/-- A row of numbers of the call's own is left. -/
def OwnOf (S : List Int) (w : World) (e : Ending) (w' : World) : Prop := ∃ A c, e = .returned (.slice A S.length c) ∧ Mine w' w.heap.size A c S ∧ Below w.heap.size w w'
theorem cloneN_any (A : Option Addr) (c : Nat) (S : List Int) (w : World) (hS : SArr w (Lt w.heap.size) A c S) (hl : S.length ≤ 1048576) : Calls Try.prog 38 #[.slice A S.length c] w (OwnOf S w) := by
  rcases A with _ | ad
  · have hc := hS.2.2.1 rfl
    have hI : S = [] := List.length_eq_zero_iff.1 (by have := hS.1; omega)
    subst hI hc
    refine (Try.slices_Clone_int_nil 0 0 w).mono ?_
    rintro e w' ⟨rfl, rfl⟩
    exact ⟨none, 0, rfl, Mine.nil _ _ _ _ (by simp) (fun _ => rfl), Below.refl _ _⟩
  · by_cases h0 : S.length = 0
    · have hI : S = [] := List.length_eq_zero_iff.1 h0
      subst hI
      refine (Try.slices_Clone_int_zero ad c w).mono ?_
      rintro e w' ⟨v, rfl, hr, _, hb⟩
      obtain ⟨A', c', rfl, hm⟩ := mine_of_row (S := []) hr
      exact ⟨A', c', rfl, hm, hb⟩
    · obtain ⟨b, o, e, _, _⟩ := hS.2.2.2 (by omega)
      injection e with e
      subst e
      have h := Try.slices_Clone_int b o S.length c S w (Nat.le_refl _) (by omega) hS.getD
      refine h.mono ?_
      rintro e w' ⟨v, rfl, hr, _, hb⟩
      rw [List.take_length] at hr
      obtain ⟨A', c', rfl, hm⟩ := mine_of_row hr
      exact ⟨A', c', rfl, hm, hb⟩

/-! The comparison of the developers' sorted. -/
theorem ltC (x y : Int) : ltOf Lib.compareInt x y = decide (x < y) := by
  unfold ltOf Lib.compareInt
  by_cases h1 : x < y
  · simp [h1]
  · by_cases h2 : y < x <;> simp [h1, h2]
theorem swoC : SWO (ltOf Lib.compareInt) where
  irrefl x := by rw [ltC]; simp
  trans x y z h1 h2 := by rw [ltC] at *; simp at *; omega
  ntrans x y z h1 h2 := by rw [ltC] at *; simp at *; omega
theorem totC (x y : Int) (h1 : ltOf Lib.compareInt x y = false) (h2 : ltOf Lib.compareInt y x = false) : x = y := by rw [ltC] at *; simp at *; omega
theorem leC : (fun x y : Int => !ltOf Lib.compareInt y x) = fun x y => decide (x ≤ y) := by
  funext x y
  rw [ltC]
  by_cases h : x ≤ y
  · have h' : ¬ y < x := by omega
    simp [h, h']
  · have h' : y < x := by omega
    simp [h, h']
theorem closure_any (x y : Int) (W : World) : Calls Try.prog 40 #[.int .i64 x, .int .i64 y] W fun e w' => e = .returned (.int .i64 (Lib.compareInt x y)) ∧ ∃ q, w' = W.drewN q := by
  have hcon := Try.cmp_Compare_int x y W
  generalize Lib.compareInt x y = r at hcon ⊢
  go_enter Try.func40, Try.ntmps40
  go_wp2_with fail
  refine hcon.mono ?_
  rintro e w' ⟨rfl, rfl⟩
  go_wp2_with fail
  go_ret
  exact ⟨rfl, 0, rfl⟩
theorem sortN_any (A : Option Addr) (c B : Nat) (S : List Int) (w : World) (hS : Mine w B A c S) (hB : B ≤ w.heap.size) (hl : S.length ≤ 1048576) :
    Calls Try.prog 39 #[.slice A S.length c, .func (.func 40) #[] #[]] w fun e w' => e = .returned (.tuple #[]) ∧ Mine w' B A c (srt S) ∧ Below B w w' := by
  by_cases h0 : S.length = 0
  · have hI : S = [] := List.length_eq_zero_iff.1 h0
    subst hI
    have h := Try.slices_SortFunc_none (α := Int) A c (.func (.func 40) #[] #[]) w
    change Calls Try.prog 39 _ _ _ at h
    refine h.mono ?_
    rintro e w' ⟨rfl, rfl⟩
    exact ⟨rfl, by rw [show srt [] = [] from List.length_eq_zero_iff.1 (srt_length [])]; exact hS, Below.refl _ _⟩
  · obtain ⟨b, o, e, hb, hlt, hc⟩ := hS.2.2.2 (by omega)
    subst e
    have eg : ∀ args w, (callFunc 40 args).run Try.prog w = .ok (.enter 40 args) w := enters_of Try.func40 (by kernel_rfl) rfl
    have hr : CmpReads Try.prog 40 #[] (Value.int .i64) Lib.compareInt b o S.toArray.size w := fun _ _ _ _ x y => closure_any x y _
    have hH : Holds (Value.int .i64) w b o S.toArray := by
      intro j hj
      have hj' : j < S.length := by simpa using hj
      have h1 := hc j S[j] (List.getElem?_eq_getElem hj')
      refine ⟨?_, h1.2⟩
      rw [h1.1, getElem!_pos S.toArray j (by simpa using hj')]
      simp
    have h := Try.slices_SortFunc_total (Value.int .i64) (fun _ => rfl) Lib.compareInt swoC 40 #[] b o c S.toArray w eg hr.lays hH hlt (by simp; omega) totC
    rw [leC] at h
    change Calls Try.prog 39 _ _ _ at h
    rw [List.size_toArray] at h
    refine h.mono ?_
    rintro e w' ⟨rfl, n, os, rfl⟩
    show _ ∧ Mine (grow (putRow (Value.int .i64) (Sort.ahead w n) b o (srt S).toArray) os) _ _ _ _ ∧ Below B w (grow (putRow (Value.int .i64) (Sort.ahead w n) b o (srt S).toArray) os)
    rw [Lib.sorted_world (Value.int .i64) w b o n S.toArray (srt S) os hH (by simp [srt_length])]
    have hp := hS.put (by omega) (srt S) [] (by simp [srt_length]) n os
    rw [List.append_nil] at hp
    exact ⟨rfl, hp.1, hp.2 hB⟩
theorem compactN_any (A : Option Addr) (c B : Nat) (S : List Int) (w : World) (hS : Mine w B A c S) (hB : B ≤ w.heap.size) (hl : S.length ≤ 1048576) :
    Calls Try.prog 29 #[.slice A S.length c] w fun e w' => e = .returned (.slice A (Lib.compact S).length c) ∧ Mine w' B A c (Lib.compact S) ∧ Below B w w' := by
  by_cases h0 : S.length = 0
  · have hI : S = [] := List.length_eq_zero_iff.1 h0
    subst hI
    refine (Try.slices_Compact_int_empty A c w).mono ?_
    rintro e w' ⟨rfl, rfl⟩
    exact ⟨rfl, hS, Below.refl _ _⟩
  · obtain ⟨b, o, e, hb, hlt, hc⟩ := hS.2.2.2 (by omega)
    subst e
    have h := Try.slices_Compact_int_cells b o S.length c S w (Nat.le_refl _) (by omega) hS.1 hS.sarr.getD (fun j hj => (hc j S[j] (List.getElem?_eq_getElem hj)).2)
    rw [List.take_length] at h
    refine h.mono ?_
    rintro e w' ⟨rfl, q, rfl⟩
    have hle := Lib.compact_length_le S
    have hp := hS.put (by omega) (Lib.compact S) (List.replicate (S.length - (Lib.compact S).length) 0) (by simp; omega) q #[]
    rw [grow_empty] at hp
    exact ⟨rfl, hp.1, hp.2 hB⟩
theorem equalN_any (A A' : Option Addr) (c c' : Nat) (S T : List Int) (w : World) (hS : SArr w (Lt w.heap.size) A c S) (hT : SArr w (Lt w.heap.size) A' c' T) (hl : S.length ≤ 1048576) (hl' : T.length ≤ 1048576) :
    Calls Try.prog 31 #[.slice A S.length c, .slice A' T.length c'] w (IffOf (S = T) w) := by
  by_cases hn : S.length = T.length
  · by_cases h0 : S.length = 0
    · have hI : S = [] := List.length_eq_zero_iff.1 h0
      have hJ : T = [] := List.length_eq_zero_iff.1 (by omega)
      subst hI hJ
      refine (Try.slices_Equal_int_empty A A' c 0 c' w (by omega)).mono ?_
      rintro e w' ⟨rfl, rfl⟩
      exact ⟨_, rfl, by simp, Below.refl _ _⟩
    · obtain ⟨b, o, e, _, _⟩ := hS.2.2.2 (by omega)
      obtain ⟨b', o', e', _, _⟩ := hT.2.2.2 (by omega)
      subst e e'
      have h := Try.slices_Equal_int b o S.length c b' o' T.length c' S T w (Nat.le_refl _) (Nat.le_refl _) (by omega) (by omega) hS.getD hT.getD
      rw [List.take_length, List.take_length] at h
      refine h.mono ?_
      rintro e w' ⟨rfl, q, rfl⟩
      exact ⟨_, rfl, by simp, below_drawn (Below.refl _ _) q⟩
  · refine (Try.slices_Equal_int_lens A A' S.length c T.length c' w hn).mono ?_
    rintro e w' ⟨rfl, rfl⟩
    exact ⟨false, rfl, iff_no (fun h => hn (by rw [h])), Below.refl _ _⟩
theorem sorted_any (A : Option Addr) (c : Nat) (S : List Int) (w : World) (hS : SArr w (Lt w.heap.size) A c S) (hl : S.length ≤ 1048576) : Calls Try.prog 30 #[.slice A S.length c] w (OwnOf (srt S) w) := by
  unfold OwnOf
  rw [srt_length]
  go_enter Try.func30, Try.ntmps30
  go_wp2_with fail
  refine (cloneN_any A c S w hS hl).mono ?_
  rintro e V ⟨A', c', rfl, hm, hb⟩
  have HM := Lib.hid hm
  have HB := Lib.hid hb
  clear hm hb hS
  go_wp2_with fail
  refine (sortN_any A' c' w.heap.size S V HM.out HB.out.size hl).mono ?_
  rintro e V2 ⟨rfl, hm, hb⟩
  have HM2 := Lib.hid hm
  have HB2 := Lib.hid (HB.out.trans hb)
  clear hm hb
  go_wp2_with fail
  go_ret
  exact ⟨_, _, rfl, HM2.out, HB2.out⟩
end Go.Proofs.Ytlafkkekfkamoaa
