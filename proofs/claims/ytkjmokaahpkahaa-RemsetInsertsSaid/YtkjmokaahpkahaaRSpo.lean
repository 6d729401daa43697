/-
  Raw sets that are small enough (mk.Sets); sets with something changed (the law's spoilt).
-/
import Derived.Test.YtkjmokaahpkahaaRCpw
import Derived.Test.YtkjmokaahpkahaaRSlo
namespace Go.Proofs.Ytkjmokaahpkahaa
open Go.RowKit
set_option maxRecDepth 100000
set_option linter.unusedVariables false

set_option maxHeartbeats 2000000 in
theorem mkSets_any (A : Option Addr) (c : Nat) (L : List SetR) (w : World) (hL : TArr w (Lt w.heap.size) A c L) (hs : ∀ x ∈ L, x.sl.length ≤ 140737488355328) : Calls Try.prog 7 #[.slice A L.length c] w (IffOf (L.length ≤ 40 ∧ cntT L ≤ 300) w) := by
  obtain ⟨P, hP⟩ : ∃ P : Prop, P = (L.length ≤ 40 ∧ cntT L ≤ 300) := ⟨_, rfl⟩
  rw [← hP]
  have HP := Lib.hid hP
  clear hP
  have HL := Lib.hid hL
  have HSL := Lib.hid hs
  have hm := hL.2.1
  have hm' := hL.1
  simp only [maxLen] at hm
  clear hL hs
  go_enter Try.func7, Try.ntmps7
  go_wp2_with fail
  go_loopw [3, 8] (fun n i wr => ∃ (t : Nat) (s : Int), t ≤ L.length ∧ n = .int .i64 s ∧ i = .int .i64 t ∧ (L.length ≤ 40 → s = (cntT (L.take t) : Nat)) ∧ Below w.heap.size w wr) (fun _ i _ => L.length - (intOf i).toNat)
  case atStart => exact ⟨0, 0, by omega, rfl, rfl, fun _ => rfl, Below.refl _ _⟩
  case round =>
    obtain ⟨t, s, ht, rfl, rfl, hsum, hb⟩ := hrel
    have HB := Lib.hid hb
    have HSUM := Lib.hid hsum
    clear hb hsum
    by_cases hlt : t < L.length
    · have hlt2 : 0 ≤ (t : Int) ∧ (t : Int) < L.length := by omega
      obtain ⟨x, hx⟩ := nth_of hlt
      obtain ⟨b, o, A2, c2, rfl, _, hbl, c0, c1, c2', _⟩ := (HL.out.next HB.out).at_ hx
      obtain ⟨s2, hs2⟩ : ∃ s2, s2 = IntKind.i64.wrap (s + x.sl.length) := ⟨_, rfl⟩
      have hw1 : IntKind.i64.wrap (s + x.sl.length) = s2 := hs2.symm
      have HNX : Hid (L.length ≤ 40 → s2 = (cntT (L.take (t + 1)) : Nat)) := Lib.hid (fun h => by
        have hcn := cntS_next hx
        have hle := cntS_le (B := 140737488355328) (L := L.take t) (fun y hy => HSL.out y (List.mem_of_mem_take hy))
        have hlx := HSL.out x (List.mem_iff_getElem?.2 ⟨t, hx⟩)
        have hlt3 : (L.take t).length ≤ 40 := by simp; omega
        have hmul := Nat.mul_le_mul_right 140737488355328 hlt3
        have hle2 : cntT (L.take t) ≤ 5629499534213120 := by omega
        rw [hs2, HSUM.out h, IntWalk.i64_in _ (by omega), hcn]
        omega)
      clear hx hs2
      go_wp2_with fail
      exact ⟨⟨t + 1, s2, by omega, rfl, by go_num, HNX.out, HB.out.alloc HB.out.size _⟩, by simp [intOf]; omega⟩
    · have hlt2 : ¬ (t : Int) < L.length := by omega
      obtain rfl : t = L.length := by omega
      by_cases h40 : L.length ≤ 40
      · have h40a : (L.length : Int) ≤ 40 := by omega
        have hs := HSUM.out h40
        rw [List.take_length] at hs
        subst hs
        have H40 := Lib.hid h40
        clear h40
        by_cases h300 : cntT L ≤ 300
        · have h300a : ((cntT L : Nat) : Int) ≤ 300 := by omega
          have H300 := Lib.hid h300
          clear h300
          go_wp2_with fail
          go_ret
          exact ⟨true, rfl, iff_yes (by rw [HP.out]; exact ⟨H40.out, H300.out⟩), HB.out⟩
        · have h300a : ¬ ((cntT L : Nat) : Int) ≤ 300 := by omega
          have H300 := Lib.hid h300
          clear h300
          go_wp2_with fail
          go_ret
          exact ⟨false, rfl, iff_no (fun h => by rw [HP.out] at h; exact H300.out h.2), HB.out⟩
      · have h40a : ¬ (L.length : Int) ≤ 40 := by omega
        have H40 := Lib.hid h40
        clear h40
        go_wp2_with fail
        go_ret
        exact ⟨false, rfl, iff_no (fun h => by rw [HP.out] at h; exact H40.out h.1), HB.out⟩

/-- Few sets with few slots. -/
def BndT (L : List SetR) : Prop := L.length ≤ 41 ∧ cntT L ≤ 301
theorem cnt_set : ∀ (L : List SetR) (k : Nat) (y : SetR), cntT (L.set k y) ≤ cntT L + y.sl.length
  | [], k, y => by simp [cntT]
  | x :: L, 0, y => by simp only [List.set_cons_zero, cntT, List.map_cons, List.sum_cons]; omega
  | x :: L, k + 1, y => by
    have := cnt_set L k y
    simp only [List.set_cons_succ, cntT, List.map_cons, List.sum_cons] at this ⊢
    omega
/-- Some sets, few. -/
def SomeT (w : World) (e : Ending) (w' : World) : Prop := ∃ A c L, e = .returned (.slice A L.length c) ∧ TArr w' (Lt w'.heap.size) A c L ∧ BndT L ∧ Below w.heap.size w w'
theorem row_first {w : World} {B : Nat} {S : List Int} {u : Value} (h : w.ownsRow B 3 1 u S.length (numC S)) (hn : 0 < S.length) : ∃ g cap s0, u = .slice (some ⟨g, 0, none⟩) S.length cap ∧ B ≤ g ∧ g < w.heap.size ∧ w.cell? ⟨g, 0, none⟩ = some (.int .i64 s0) ∧ w.frozen? ⟨g, 0, none⟩ = false ∧
    ∀ v : Int, ∃ T : List Int, T.length = S.length ∧ (w.setCell ⟨g, 0, none⟩ (.int .i64 v)).ownsRow B 3 1 u T.length (numC T) := by
  obtain ⟨hl, ⟨rfl, hz⟩ | ⟨g, cap, cur, rfl, hb, hg, hc, hm, hs, htk⟩⟩ := h
  · omega
  · rw [Nat.mul_one] at hs htk
    obtain ⟨s0, hs0⟩ := nth_of hn
    have hget : ∀ j, j < S.length → cur[j]? = (numC S)[j]? := fun j hj => by rw [← htk, List.getElem?_take, if_pos hj]; simp
    refine ⟨g, cap, s0, rfl, hb, blk_lt hg, by rw [cell_row hg, hget 0 hn]; exact numC_get hs0, free_row hg, fun v => ⟨S.set 0 v, by simp, ?_⟩⟩
    have hg2 := Blk.set_ (show Blk w g 3 cur from hg) 0 (.int .i64 v)
    rw [List.length_set]
    refine ⟨by simp [numC], .inr ⟨g, cap, _, rfl, hb, hg2, hc, hm, by simp [hs], ?_⟩⟩
    rw [Nat.mul_one]
    apply List.ext_getElem?
    intro j
    by_cases hj : j < S.length
    · rw [List.getElem?_take, if_pos hj]
      rcases j with _ | j
      · rw [numC_get (s := v) (by simp [hn])]
        have h1 : (cur.setIfInBounds 0 (.int .i64 v))[0]? = some (.int .i64 v) := Array.getElem?_setIfInBounds_self_of_lt (by omega)
        show (cur.setIfInBounds 0 _).toList[0]? = _
        rw [Array.getElem?_toList]
        exact h1
      · have h1 := hget (j + 1) hj
        simp [numC] at h1 ⊢
        exact h1
    · rw [List.getElem?_eq_none (by simp; omega), List.getElem?_eq_none (by simp [numC]; omega)]

set_option maxHeartbeats 8000000 in
theorem spoilt_any (A : Option Addr) (c : Nat) (L : List SetR) (what at_ by_ : Int) (w : World) (hL : TArr w (Lt w.heap.size) A c L) (hv : ValS L) (hn : L.length ≤ 20) (hc : cntT L ≤ 20)
    (w0 : -9223372036854775808 ≤ what) (w1 : what ≤ 9223372036854775807) (a0 : -9223372036854775808 ≤ at_) (a1 : at_ ≤ 9223372036854775807) (b0 : -9223372036854775808 ≤ by_) (b1 : by_ ≤ 9223372036854775807) :
    Calls Try.prog 11 #[.slice A L.length c, .int .i64 what, .int .i64 at_, .int .i64 by_] w (SomeT w) := by
  have HCP := Lib.hid (copyW_any A c L w hL (by omega) (fun x hx => by have := sl_le hx; omega))
  have HV := Lib.hid hv
  clear hL hv
  go_enter Try.func11, Try.ntmps11
  go_wp2_with fail
  refine HCP.out.mono ?_
  rintro e V ⟨v, rfl, ht, hb⟩
  have HT := Lib.hid ht
  have HB := Lib.hid hb
  obtain ⟨A1, c1, rfl, hT⟩ := ht.tarr
  have HTA := Lib.hid hT
  clear ht hb hT HCP
  by_cases hz : L.length = 0
  · have hz1 : ((L.length : Int) == 0) = true := by rw [hz]; rfl
    obtain ⟨p, hp⟩ : ∃ p, p = by_ % 3 := ⟨_, rfl⟩
    obtain ⟨q, hq⟩ : ∃ q, q = at_ % 66 := ⟨_, rfl⟩
    obtain ⟨r, hr⟩ : ∃ r, r = by_ % 4 := ⟨_, rfl⟩
    have hp3 : 0 ≤ p ∧ p < 3 := by omega
    have hr4 : 0 ≤ r ∧ r < 4 := by omega
    have hw1 : IntKind.i64.wrap (p - 1) = p - 1 := IntWalk.i64_in _ (by omega)
    have hw2 : IntKind.i64.wrap (r - 1) = r - 1 := IntWalk.i64_in _ (by omega)
    have M1 : Hid (∀ W, Calls Try.prog 16 #[.int .i64 by_, .int .i64 3] W fun e w' => e = .returned (.int .i64 p) ∧ W = w') := Lib.hid fun W => by rw [hp]; exact mod_any by_ 3 (by omega) (by omega) b0 b1 W
    have M2 : Hid (∀ W, Calls Try.prog 16 #[.int .i64 at_, .int .i64 66] W fun e w' => e = .returned (.int .i64 q) ∧ W = w') := Lib.hid fun W => by rw [hq]; exact mod_any at_ 66 (by omega) (by omega) a0 a1 W
    have M3 : Hid (∀ W, Calls Try.prog 16 #[.int .i64 by_, .int .i64 4] W fun e w' => e = .returned (.int .i64 r) ∧ W = w') := Lib.hid fun W => by rw [hr]; exact mod_any by_ 4 (by omega) (by omega) b0 b1 W
    obtain ⟨X, hX⟩ : ∃ X, X = (V.alloc (.cells #[.int .i64 (r - 1)] 3)).alloc (.cells #[.int .i64 (p - 1), .int .i64 q, .slice (some ⟨V.heap.size, 0, none⟩) 1 1] 48) := ⟨_, rfl⟩
    have BX : Blk X V.heap.size 3 #[.int .i64 (r - 1)] := by rw [hX]; exact (Blk.new _ _ _).alloc _
    have BY : Blk X (V.heap.size + 1) 48 #[.int .i64 (p - 1), .int .i64 q, .slice (some ⟨V.heap.size, 0, none⟩) 1 1] := by rw [hX]; exact Blk.newAt _ _ _ _ (by simp)
    have HBX := Lib.hid (show Below w.heap.size w X from HB.out.trans (by rw [hX]; exact ((Below.refl _ _).alloc HB.out.size _).alloc (by have := HB.out.size; simp; omega) _))
    have HTX : Hid (TArr X (Lt X.heap.size) (some ⟨V.heap.size + 1, 0, none⟩) 1 [⟨p - 1, q, [r - 1]⟩]) := Lib.hid ⟨by simp, by unfold maxLen; omega, (fun e => by cases e), fun _ => ⟨V.heap.size + 1, 0, rfl, BY.lt, fun j x hj => by
      rcases j with _ | j
      · simp at hj
        subst hj
        refine ⟨BY.cell 0, BY.cell 1, some ⟨V.heap.size, 0, none⟩, 1, BY.cell 2, by simp, by unfold maxLen; omega, (fun e => by cases e), fun _ => ⟨V.heap.size, 0, rfl, BX.lt, fun j s hj => ?_⟩⟩
        rcases j with _ | j
        · simp at hj
          subst hj
          exact BX.cell 0
        · simp at hj
      · simp at hj⟩⟩
    have HX := Lib.hid hX
    clear hX BX BY hp hq hr
    clear hz hp3 hr4
    go_wp2_with fail
    refine (M1.out _).mono ?_
    rintro e wn ⟨rfl, rfl⟩
    go_wp2_with fail
    refine (M2.out _).mono ?_
    rintro e wn ⟨rfl, rfl⟩
    go_wp2_with fail
    refine (M3.out _).mono ?_
    rintro e wn ⟨rfl, rfl⟩
    go_wp2_with fail
    rw [← HX.out]
    go_ret
    exact ⟨some ⟨V.heap.size + 1, 0, none⟩, 1, [⟨p - 1, q, [r - 1]⟩], rfl, HTX.out, ⟨by simp, by simp [cntT]⟩, HBX.out⟩
  · have hz1 : ((L.length : Int) == 0) = false := beq_eq_false_iff_ne.2 (by omega)
    obtain ⟨m, hm⟩ : ∃ m : Nat, (m : Int) = at_ % (L.length : Int) := ⟨(at_ % (L.length : Int)).toNat, Int.toNat_of_nonneg (Int.emod_nonneg _ (by omega))⟩
    have hml : m < L.length := by have := Int.emod_lt_of_pos at_ (show (0 : Int) < L.length by omega); omega
    obtain ⟨k, hk⟩ : ∃ k, k = what % 6 := ⟨_, rfl⟩
    have hk6 : 0 ≤ k ∧ k < 6 := by omega
    have M1 : Hid (∀ W, Calls Try.prog 16 #[.int .i64 at_, .int .i64 L.length] W fun e w' => e = .returned (.int .i64 m) ∧ W = w') := Lib.hid fun W => by rw [hm]; exact mod_any at_ L.length (by omega) (by omega) a0 a1 W
    have M2 : Hid (∀ W, Calls Try.prog 16 #[.int .i64 what, .int .i64 6] W fun e w' => e = .returned (.int .i64 k) ∧ W = w') := Lib.hid fun W => by rw [hk]; exact mod_any what 6 (by omega) (by omega) w0 w1 W
    obtain ⟨x, hx⟩ := nth_of hml
    have HXP := Lib.hid ((HV.out.1 x (List.mem_iff_getElem?.2 ⟨m, hx⟩)).2.2.1)
    have hxl := sl_le (List.mem_iff_getElem?.2 ⟨m, hx⟩)
    obtain ⟨g, cap, cur, u, e1, hwg, hB1, hcap, hcm, hcs, e0, e1', e2, hrow, hug, hturn⟩ := HT.out.turn hx
    injection e1 with e1 _ e3
    subst e1
    subst e3
    obtain ⟨A2, c2, rfl, _⟩ := row_slice hrow
    have HROW := Lib.hid hrow
    have HTURN := Lib.hid hturn
    have HBK := Lib.hid hB1
    have HUG := Lib.hid hug
    have HE := Lib.hid (And.intro e0 (And.intro e1' e2))
    have HGE := Lib.hid hwg
    have hgl := hB1.lt
    have hml2 : 0 ≤ (m : Int) ∧ (m : Int) < L.length := by omega
    have HSET : Hid (∀ y : SetR, y.sl.length ≤ 21 → BndT (L.set m y)) := Lib.hid fun y hy => ⟨by simp; omega, by have := cnt_set L m y; omega⟩
    have HKEEP : Hid (∀ w2 : World, (∀ b, b < V.heap.size → b ≠ g → w2.heap[b]? = V.heap[b]?) → V.heap.size ≤ w2.heap.size → SArr w2 (Lt w2.heap.size) A2 c2 x.sl) := Lib.hid fun w2 hw2 hsz => by
      obtain ⟨A', c', e, hS⟩ := sarr_row (ownsRow_keep (w' := w2) HROW.out fun b hb _ hl => hw2 b hl (fun e => HUG.out (by rw [hb, e])))
      injection e with e1 _ e2
      subst e1 e2
      exact hS
    have sz0 : m * 3 < cur.size := by omega
    have sz1 : m * 3 + 1 < cur.size := by omega
    have sz2 : m * 3 + 2 < cur.size := by omega
    have SZ := Lib.hid (And.intro sz0 (And.intro sz1 sz2))
    have d0 : V.cell? ⟨g, m * 3, none⟩ = some (.int .i64 x.fr) := by rw [hB1.cell]; exact e0
    have d1 : V.cell? ⟨g, m * 3 + 1, none⟩ = some (.int .i64 x.tg) := by rw [hB1.cell]; exact e1'
    have d2 : V.cell? ⟨g, m * 3 + 2, none⟩ = some (.slice A2 x.sl.length c2) := by rw [hB1.cell]; exact e2
    have z0 := hB1.frozen (m * 3)
    have z1 := hB1.frozen (m * 3 + 1)
    have z2 := hB1.frozen (m * 3 + 2)
    -- a store into the row itself
    have HST : Hid (∀ (i : Nat) (v : Value) (y : SetR) (A' : Option Addr) (c' : Nat), (cur.setIfInBounds (m * 3 + i) v)[m * 3]? = some (.int .i64 y.fr) → (cur.setIfInBounds (m * 3 + i) v)[m * 3 + 1]? = some (.int .i64 y.tg) → (cur.setIfInBounds (m * 3 + i) v)[m * 3 + 2]? = some (.slice A' y.sl.length c') → i < 3 → y.sl.length ≤ 21 →
        (∀ w2 : World, (∀ b, b < V.heap.size → b ≠ g → w2.heap[b]? = V.heap[b]?) → V.heap.size ≤ w2.heap.size → SArr w2 (Lt w2.heap.size) A' c' y.sl) → SomeT w (.returned (.slice (some ⟨g, 0, none⟩) L.length c1)) (V.setCell ⟨g, m * 3 + i, none⟩ v)) := Lib.hid fun i v y A' c' h0 h1 h2 hi hy hS => by
      have hfar : ∀ b, b < V.heap.size → b ≠ g → (V.setCell ⟨g, m * 3 + i, none⟩ v).heap[b]? = V.heap[b]? := fun b _ hb => Below.heap_setCell _ ⟨g, m * 3 + i, none⟩ _ b hb
      have hsz : V.heap.size ≤ (V.setCell ⟨g, m * 3 + i, none⟩ v).heap.size := by simp [World.setCell]
      refine ⟨some ⟨g, 0, none⟩, c1, L.set m y, by rw [List.length_set], ?_, HSET.out y hy, HB.out.setCell (p := ⟨g, m * 3 + i, none⟩) HGE.out _⟩
      exact HTURN.out _ _ y A' c' (HBK.out.set_ (m * 3 + i) v) (fun j j0 j1 j2 => by rw [Array.getElem?_setIfInBounds_ne (by omega)]) h0 h1 h2 (hS _ hfar hsz) (fun b hb hb2 _ => hfar b hb hb2)
    clear hB1 hrow hug hturn e0 e1' e2 hx hcs hm hk hz
    rcases (by omega : k = 0 ∨ k = 1 ∨ k = 2 ∨ k = 3 ∨ k = 4 ∨ k = 5) with hk0 | hk0 | hk0 | hk0 | hk0 | hk0
    all_goals clear hk6
    · subst hk0
      obtain ⟨p8, hp8⟩ : ∃ p, p = by_ % 8 := ⟨_, rfl⟩
      have hw8 : IntKind.i64.wrap (p8 - 1) = p8 - 1 := IntWalk.i64_in _ (by omega)
      have M3 : Hid (∀ W, Calls Try.prog 16 #[.int .i64 by_, .int .i64 8] W fun e w' => e = .returned (.int .i64 p8) ∧ W = w') := Lib.hid fun W => by rw [hp8]; exact mod_any by_ 8 (by omega) (by omega) b0 b1 W
      clear hp8
      go_wp2_with fail
      refine (M1.out _).mono ?_
      rintro e wn ⟨rfl, rfl⟩
      go_wp2_with fail
      refine (M2.out _).mono ?_
      rintro e wn ⟨rfl, rfl⟩
      go_wp2_with fail
      refine (M3.out _).mono ?_
      rintro e wn ⟨rfl, rfl⟩
      go_wp2_with fail
      go_ret
      exact HST.out 0 (.int .i64 (p8 - 1)) ⟨p8 - 1, x.tg, x.sl⟩ A2 c2 (Array.getElem?_setIfInBounds_self_of_lt SZ.out.1) (by rw [Array.getElem?_setIfInBounds_ne (by omega)]; exact HE.out.2.1) (by rw [Array.getElem?_setIfInBounds_ne (by omega)]; exact HE.out.2.2) (by omega) (by show x.sl.length ≤ 21; omega) HKEEP.out
    · subst hk0
      obtain ⟨p8, hp8⟩ : ∃ p, p = by_ % 8 := ⟨_, rfl⟩
      have hw8 : IntKind.i64.wrap (p8 - 1) = p8 - 1 := IntWalk.i64_in _ (by omega)
      have M3 : Hid (∀ W, Calls Try.prog 16 #[.int .i64 by_, .int .i64 8] W fun e w' => e = .returned (.int .i64 p8) ∧ W = w') := Lib.hid fun W => by rw [hp8]; exact mod_any by_ 8 (by omega) (by omega) b0 b1 W
      clear hp8
      go_wp2_with fail
      refine (M1.out _).mono ?_
      rintro e wn ⟨rfl, rfl⟩
      go_wp2_with fail
      refine (M2.out _).mono ?_
      rintro e wn ⟨rfl, rfl⟩
      go_wp2_with fail
      refine (M3.out _).mono ?_
      rintro e wn ⟨rfl, rfl⟩
      go_wp2_with fail
      go_ret
      exact HST.out 1 (.int .i64 (p8 - 1)) ⟨x.fr, p8 - 1, x.sl⟩ A2 c2 (by rw [Array.getElem?_setIfInBounds_ne (by omega)]; exact HE.out.1) (Array.getElem?_setIfInBounds_self_of_lt SZ.out.2.1) (by rw [Array.getElem?_setIfInBounds_ne (by omega)]; exact HE.out.2.2) (by omega) (by show x.sl.length ≤ 21; omega) HKEEP.out
    · subst hk0
      go_wp2_with fail
      refine (M1.out _).mono ?_
      rintro e wn ⟨rfl, rfl⟩
      go_wp2_with fail
      refine (M2.out _).mono ?_
      rintro e wn ⟨rfl, rfl⟩
      go_wp2_with fail
      go_ret
      exact HST.out 2 (.slice none 0 0) ⟨x.fr, x.tg, []⟩ none 0 (by rw [Array.getElem?_setIfInBounds_ne (by omega)]; exact HE.out.1) (by rw [Array.getElem?_setIfInBounds_ne (by omega)]; exact HE.out.2.1) (Array.getElem?_setIfInBounds_self_of_lt SZ.out.2.2) (by omega) (by simp) (fun w2 _ _ => SArr.nil _ _)
    · subst hk0
      obtain ⟨r, hr⟩ : ∃ p, p = by_ % 40 := ⟨_, rfl⟩
      have M3 : Hid (∀ W, Calls Try.prog 16 #[.int .i64 by_, .int .i64 40] W fun e w' => e = .returned (.int .i64 r) ∧ W = w') := Lib.hid fun W => by rw [hr]; exact mod_any by_ 40 (by omega) (by omega) b0 b1 W
      clear hr
      obtain ⟨i0, hi0, iz0, iz1, iz2⟩ := info_parts num_info
      obtain ⟨X, hX⟩ : ∃ X, X = (V.alloc (.cells #[.int .i64 r] 3)).drew := ⟨_, rfl⟩
      have BX : Blk X V.heap.size 3 #[.int .i64 r] := by rw [hX]; exact Blk.new V _ _
      have hbx : Below V.heap.size V X := by rw [hX]; exact ((Below.refl _ V).alloc (Nat.le_refl _) _).drew
      have HNW := Lib.hid (one_news (BX.cell 0))
      have HBX := Lib.hid hbx
      have HRX := Lib.hid (ownsRow_keep (w' := X) HROW.out fun b _ _ hl => hbx.block b hl)
      have HM1 := Lib.hid (show x.sl.length + 1 ≤ maxLen by unfold maxLen; omega)
      have HM2 := Lib.hid (show (x.sl.length + 1) * 8 ≤ 140737488355328 by omega)
      have HWX := Lib.hid (Nat.le_trans HB.out.size hbx.size)
      have dv : V.drew.cell? ⟨g, m * 3 + 2, none⟩ = some (.slice A2 x.sl.length c2) := d2
      have dx : X.cell? ⟨g, m * 3 + 2, none⟩ = some (.slice A2 x.sl.length c2) := (hbx.cell (p := ⟨g, m * 3 + 2, none⟩) hgl).trans d2
      have HX := Lib.hid hX
      clear hX BX hbx
      go_wp2_with fail
      refine (M1.out _).mono ?_
      rintro e wn ⟨rfl, rfl⟩
      go_wp2_with fail
      refine (M2.out _).mono ?_
      rintro e wn ⟨rfl, rfl⟩
      go_wp2_with fail
      refine wp_region_held_drew (S := (fun w' => True)) (by kernel_rfl) ?_ (fun hHeld => ?_)
      · exact trivial
      (refine wpAnyH_take (i := 0) (v := ?_) rfl (by kernel_rfl) (by kernel_rfl) (by kernel_rfl) (fun _ _ _ h => h) (Or.inl ⟨by rfl, ?_⟩) (by assumption) ?_; rotate_left 1; (focus (intro w' hSw; (try dsimp only at hSw); go_simp; (try with_reducible rfl); done)); try simp only [Act.put, List.setIfInBounds_toArray, List.set_cons_zero, List.set_cons_succ, List.getElem_toArray, List.getElem_cons_zero])
      (refine wpAnyH_take (i := 1) (v := ?_) rfl (by kernel_rfl) (by kernel_rfl) (by kernel_rfl) (fun _ _ _ h => h) (Or.inl ⟨by rfl, ?_⟩) (by assumption) ?_; rotate_left 1; (focus (intro w' hSw; (try dsimp only at hSw); go_simp; (try with_reducible rfl); done)); try simp only [Act.put, List.setIfInBounds_toArray, List.set_cons_zero, List.set_cons_succ, List.getElem_toArray, List.getElem_cons_zero, List.getElem_cons_succ])
      (refine wpAnyH_take (i := 2) (v := ?_) rfl (by kernel_rfl) (by kernel_rfl) (by kernel_rfl) (fun _ _ _ h => h) (Or.inl ⟨by rfl, ?_⟩) (by assumption) ?_; rotate_left 1; (focus (intro w' hSw; (try dsimp only at hSw); go_simp; (try with_reducible rfl); done)); try simp only [Act.put, List.setIfInBounds_toArray, List.set_cons_zero, List.set_cons_succ, List.getElem_toArray, List.getElem_cons_zero, List.getElem_cons_succ])
      (refine wpAnyH_take (i := 3) (v := ?_) rfl (by kernel_rfl) (by kernel_rfl) (by kernel_rfl) (fun _ _ _ h => h) (Or.inl ⟨by rfl, ?_⟩) (by assumption) ?_; rotate_left 1; (focus (intro w' hSw; (try dsimp only at hSw); go_simp; (try with_reducible rfl); done)); try simp only [Act.put, List.setIfInBounds_toArray, List.set_cons_zero, List.set_cons_succ, List.getElem_toArray, List.getElem_cons_zero, List.getElem_cons_succ])
      (refine wpAnyH_take (i := 5) (v := ?_) rfl (by kernel_rfl) (by kernel_rfl) (by kernel_rfl) (fun _ _ _ h => h) (Or.inl ⟨by rfl, ?_⟩) (by assumption) ?_; rotate_left 1; (focus (intro w' hSw; (try dsimp only at hSw); go_simp; (try with_reducible rfl); done)); try simp only [Act.put, List.setIfInBounds_toArray, List.set_cons_zero, List.set_cons_succ, List.getElem_toArray, List.getElem_cons_zero, List.getElem_cons_succ])
      refine wpAnyH_ready (rs := [4, 6]) (by kernel_rfl) (by simp) ?_
      refine AllReadyH.cons rfl (fun K hK => ?_) (AllReadyH.cons rfl (fun K hK => ?_) AllReadyH.nil)
      · go_simp
        refine hK.out _ _ trivial (fun hHeld2 => ?_)
        clear hK K hHeld
        try simp only [Act.put, List.setIfInBounds_toArray, List.set_cons_zero, List.set_cons_succ, List.getElem_toArray, List.getElem_cons_zero, List.getElem_cons_succ]
        have hHeld := hHeld2
        clear hHeld2
        refine wpAnyH_ready (rs := [6]) (by kernel_rfl) (by simp) ?_
        refine AllReadyH.cons rfl (fun K hK => ?_) AllReadyH.nil
        go_simp
        refine (M3.out _).mono ?_
        rintro e wn ⟨rfl, rfl⟩
        go_wp2_with fail
        refine hK.out _ _ trivial (fun hHeld2 => ?_)
        clear hK K hHeld
        try simp only [Act.put, List.setIfInBounds_toArray, List.set_cons_zero, List.set_cons_succ, List.getElem_toArray, List.getElem_cons_zero, List.getElem_cons_succ]
        have hHeld := hHeld2
        clear hHeld2
        refine wpAnyH_ready (rs := [7]) (by kernel_rfl) (by simp) ?_
        refine AllReadyH.cons rfl (fun K hK => ?_) AllReadyH.nil
        go_simp
        rw [← HX.out]
        refine hK.out _ _ trivial (fun hHeld2 => ?_)
        clear hK K hHeld
        try simp only [Act.put, List.setIfInBounds_toArray, List.set_cons_zero, List.set_cons_succ, List.getElem_toArray, List.getElem_cons_zero, List.getElem_cons_succ]
        have hHeld := hHeld2
        clear hHeld2
        refine wpAnyH_ready (rs := [8]) (by kernel_rfl) (by simp) ?_
        refine AllReadyH.cons rfl (fun K hK => ?_) AllReadyH.nil
        rw [if_pos (by rfl)]
        refine wp_append_own _ _ _ 23 rfl w.heap.size 3 i0 _ 1 8 Try.underlying23 hi0 iz0 iz1 iz2 rfl (by decide) (.slice A2 x.sl.length c2) x.sl.length (numC x.sl) rfl HRX.out ⟨V.heap.size, 0, none⟩ 1 1 [.int .i64 r] rfl rfl HNW.out (by simp [Value.oneCell']) HM1.out HM2.out HWX.out ?_
        intro v2 w4 hown hgr _
        obtain ⟨A5, c5, rfl, _⟩ := row_slice hown
        have HOWN := Lib.hid (show w4.ownsRow w.heap.size 3 1 (.slice A5 (x.sl.length + 1) c5) (x.sl ++ [r]).length (numC (x.sl ++ [r])) by rw [numC_append, List.length_append]; exact hown)
        have hgb : w4.heap[g]? = X.heap[g]? := hgr.block g (Nat.lt_of_lt_of_le hgl HBX.out.size) (fun e => HUG.out e.symm)
        have HGB := Lib.hid hgb
        have HGR := Lib.hid hgr
        have f4 : w4.cell? ⟨g, m * 3 + 2, none⟩ = some (.slice A2 x.sl.length c2) := (World.cell?_of_block hgb).trans dx
        have HBK4 := Lib.hid (show Blk w4 g 48 cur from hgb.trans ((HBX.out.block g hgl).trans HBK.out))
        have z4 : w4.frozen? ⟨g, m * 3 + 2, none⟩ = false := HBK4.out.frozen _
        have hgl4 : g < w4.heap.size := HBK4.out.lt
        clear hown hgr hgb
        refine hK.out _ _ trivial (fun hHeld2 => ?_)
        clear hK K hHeld
        try simp only [Act.put, List.setIfInBounds_toArray, List.set_cons_zero, List.set_cons_succ, List.getElem_toArray, List.getElem_cons_zero, List.getElem_cons_succ]
        have hHeld := hHeld2
        clear hHeld2
        (refine wpAnyH_take (i := 9) (v := ?_) rfl (by kernel_rfl) (by kernel_rfl) (by kernel_rfl) (fun _ _ _ h => h) (Or.inl ⟨by rfl, ?_⟩) (by assumption) ?_; rotate_left 1; (focus (intro w' hSw; (try dsimp only at hSw); go_simp; (try with_reducible rfl); done)); try simp only [Act.put, List.setIfInBounds_toArray, List.set_cons_zero, List.set_cons_succ, List.getElem_toArray, List.getElem_cons_zero, List.getElem_cons_succ])
        (refine wpAnyH_take (i := 10) (v := ?_) rfl (by kernel_rfl) (by kernel_rfl) (by kernel_rfl) (fun _ _ _ h => h) (Or.inl ⟨by rfl, ?_⟩) (by assumption) ?_; rotate_left 1; (focus (intro w' hSw; (try dsimp only at hSw); go_simp; (try with_reducible rfl); done)); try simp only [Act.put, List.setIfInBounds_toArray, List.set_cons_zero, List.set_cons_succ, List.getElem_toArray, List.getElem_cons_zero, List.getElem_cons_succ])
        refine wpAnyH_ready (rs := [11]) (by kernel_rfl) (by simp) ?_
        refine AllReadyH.cons rfl (fun K hK => ?_) AllReadyH.nil
        go_simp
        refine hK.out _ _ trivial (fun hHeld2 => ?_)
        clear hK K hHeld
        try simp only [Act.put, List.setIfInBounds_toArray, List.set_cons_zero, List.set_cons_succ, List.getElem_toArray, List.getElem_cons_zero, List.getElem_cons_succ]
        have hHeld := hHeld2
        clear hHeld2
        refine wpAnyH_done (by kernel_rfl) ?_ _
        have HX3 : Hid (SomeT w (.returned (.slice (some ⟨g, 0, none⟩) L.length c1)) (w4.setCell ⟨g, m * 3 + 2, none⟩ (.slice A5 (x.sl.length + 1) c5))) := Lib.hid (by
          have hfar : ∀ b, b ≠ g → (w4.setCell ⟨g, m * 3 + 2, none⟩ (.slice A5 (x.sl.length + 1) c5)).heap[b]? = w4.heap[b]? := fun b hb => Below.heap_setCell _ ⟨g, m * 3 + 2, none⟩ _ b hb
          have hlen : (x.sl ++ [r]).length = x.sl.length + 1 := by simp
          refine ⟨some ⟨g, 0, none⟩, c1, L.set m ⟨x.fr, x.tg, x.sl ++ [r]⟩, by rw [List.length_set], ?_, HSET.out _ (by show (x.sl ++ [r]).length ≤ 21; omega), ?_⟩
          · obtain ⟨A', c', e, hS⟩ := sarr_row (ownsRow_keep (w' := w4.setCell ⟨g, m * 3 + 2, none⟩ (.slice A5 (x.sl.length + 1) c5)) HOWN.out fun b hb _ _ => hfar b (fun e => by
              rw [e] at hb
              obtain ⟨cu, hc, _⟩ := row_t HOWN.out hb
              rw [show w4.heap[g]? = _ from HBK4.out] at hc
              injection hc with hc
              injection hc with _ hc _
              exact absurd hc (by decide)))
            injection e with e1 e2 e3
            subst e1
            subst e3
            refine HTURN.out _ _ ⟨x.fr, x.tg, x.sl ++ [r]⟩ _ _ (HBK4.out.set_ (m * 3 + 2) _) (fun i j0 j1 j2 => by rw [Array.getElem?_setIfInBounds_ne (by omega)]) (by rw [Array.getElem?_setIfInBounds_ne (by omega)]; exact HE.out.1) (by rw [Array.getElem?_setIfInBounds_ne (by omega)]; exact HE.out.2.1) (by rw [Array.getElem?_setIfInBounds_self_of_lt SZ.out.2.2]; show _ = some (Value.slice _ (x.sl ++ [r]).length _); rw [hlen]) hS (fun b hbl hb hb2 => (hfar b hb).trans ((HGR.out.block b (Nat.lt_of_lt_of_le hbl HBX.out.size) (fun e => hb2 e.symm)).trans (HBX.out.block b hbl)))
          · exact ((HB.out.trans (HBX.out.mono HB.out.size)).trans (grown_below HGR.out (fun k hk => (HRX.out.lt k hk).1) HWX.out)).setCell (p := ⟨g, m * 3 + 2, none⟩) HGE.out _)
        clear f4 z4 hgl4 dv dx d0 d1 d2
        go_wp2_with fail
        go_ret
        exact HX3.out
      · go_simp
        refine (M3.out _).mono ?_
        rintro e wn ⟨rfl, rfl⟩
        go_wp2_with fail
        refine hK.out _ _ trivial (fun hHeld2 => ?_)
        clear hK K hHeld
        try simp only [Act.put, List.setIfInBounds_toArray, List.set_cons_zero, List.set_cons_succ, List.getElem_toArray, List.getElem_cons_zero, List.getElem_cons_succ]
        have hHeld := hHeld2
        clear hHeld2
        refine wpAnyH_ready (rs := [4, 7]) (by kernel_rfl) (by simp) ?_
        refine AllReadyH.cons rfl (fun K hK => ?_) (AllReadyH.cons rfl (fun K hK => ?_) AllReadyH.nil)
        · go_simp
          refine hK.out _ _ trivial (fun hHeld2 => ?_)
          clear hK K hHeld
          try simp only [Act.put, List.setIfInBounds_toArray, List.set_cons_zero, List.set_cons_succ, List.getElem_toArray, List.getElem_cons_zero, List.getElem_cons_succ]
          have hHeld := hHeld2
          clear hHeld2
          refine wpAnyH_ready (rs := [7]) (by kernel_rfl) (by simp) ?_
          refine AllReadyH.cons rfl (fun K hK => ?_) AllReadyH.nil
          go_simp
          rw [← HX.out]
          refine hK.out _ _ trivial (fun hHeld2 => ?_)
          clear hK K hHeld
          try simp only [Act.put, List.setIfInBounds_toArray, List.set_cons_zero, List.set_cons_succ, List.getElem_toArray, List.getElem_cons_zero, List.getElem_cons_succ]
          have hHeld := hHeld2
          clear hHeld2
          refine wpAnyH_ready (rs := [8]) (by kernel_rfl) (by simp) ?_
          refine AllReadyH.cons rfl (fun K hK => ?_) AllReadyH.nil
          rw [if_pos (by rfl)]
          refine wp_append_own _ _ _ 23 rfl w.heap.size 3 i0 _ 1 8 Try.underlying23 hi0 iz0 iz1 iz2 rfl (by decide) (.slice A2 x.sl.length c2) x.sl.length (numC x.sl) rfl HRX.out ⟨V.heap.size, 0, none⟩ 1 1 [.int .i64 r] rfl rfl HNW.out (by simp [Value.oneCell']) HM1.out HM2.out HWX.out ?_
          intro v2 w4 hown hgr _
          obtain ⟨A5, c5, rfl, _⟩ := row_slice hown
          have HOWN := Lib.hid (show w4.ownsRow w.heap.size 3 1 (.slice A5 (x.sl.length + 1) c5) (x.sl ++ [r]).length (numC (x.sl ++ [r])) by rw [numC_append, List.length_append]; exact hown)
          have hgb : w4.heap[g]? = X.heap[g]? := hgr.block g (Nat.lt_of_lt_of_le hgl HBX.out.size) (fun e => HUG.out e.symm)
          have HGB := Lib.hid hgb
          have HGR := Lib.hid hgr
          have f4 : w4.cell? ⟨g, m * 3 + 2, none⟩ = some (.slice A2 x.sl.length c2) := (World.cell?_of_block hgb).trans dx
          have HBK4 := Lib.hid (show Blk w4 g 48 cur from hgb.trans ((HBX.out.block g hgl).trans HBK.out))
          have z4 : w4.frozen? ⟨g, m * 3 + 2, none⟩ = false := HBK4.out.frozen _
          have hgl4 : g < w4.heap.size := HBK4.out.lt
          clear hown hgr hgb
          refine hK.out _ _ trivial (fun hHeld2 => ?_)
          clear hK K hHeld
          try simp only [Act.put, List.setIfInBounds_toArray, List.set_cons_zero, List.set_cons_succ, List.getElem_toArray, List.getElem_cons_zero, List.getElem_cons_succ]
          have hHeld := hHeld2
          clear hHeld2
          (refine wpAnyH_take (i := 9) (v := ?_) rfl (by kernel_rfl) (by kernel_rfl) (by kernel_rfl) (fun _ _ _ h => h) (Or.inl ⟨by rfl, ?_⟩) (by assumption) ?_; rotate_left 1; (focus (intro w' hSw; (try dsimp only at hSw); go_simp; (try with_reducible rfl); done)); try simp only [Act.put, List.setIfInBounds_toArray, List.set_cons_zero, List.set_cons_succ, List.getElem_toArray, List.getElem_cons_zero, List.getElem_cons_succ])
          (refine wpAnyH_take (i := 10) (v := ?_) rfl (by kernel_rfl) (by kernel_rfl) (by kernel_rfl) (fun _ _ _ h => h) (Or.inl ⟨by rfl, ?_⟩) (by assumption) ?_; rotate_left 1; (focus (intro w' hSw; (try dsimp only at hSw); go_simp; (try with_reducible rfl); done)); try simp only [Act.put, List.setIfInBounds_toArray, List.set_cons_zero, List.set_cons_succ, List.getElem_toArray, List.getElem_cons_zero, List.getElem_cons_succ])
          refine wpAnyH_ready (rs := [11]) (by kernel_rfl) (by simp) ?_
          refine AllReadyH.cons rfl (fun K hK => ?_) AllReadyH.nil
          go_simp
          refine hK.out _ _ trivial (fun hHeld2 => ?_)
          clear hK K hHeld
          try simp only [Act.put, List.setIfInBounds_toArray, List.set_cons_zero, List.set_cons_succ, List.getElem_toArray, List.getElem_cons_zero, List.getElem_cons_succ]
          have hHeld := hHeld2
          clear hHeld2
          refine wpAnyH_done (by kernel_rfl) ?_ _
          have HX3 : Hid (SomeT w (.returned (.slice (some ⟨g, 0, none⟩) L.length c1)) (w4.setCell ⟨g, m * 3 + 2, none⟩ (.slice A5 (x.sl.length + 1) c5))) := Lib.hid (by
            have hfar : ∀ b, b ≠ g → (w4.setCell ⟨g, m * 3 + 2, none⟩ (.slice A5 (x.sl.length + 1) c5)).heap[b]? = w4.heap[b]? := fun b hb => Below.heap_setCell _ ⟨g, m * 3 + 2, none⟩ _ b hb
            have hlen : (x.sl ++ [r]).length = x.sl.length + 1 := by simp
            refine ⟨some ⟨g, 0, none⟩, c1, L.set m ⟨x.fr, x.tg, x.sl ++ [r]⟩, by rw [List.length_set], ?_, HSET.out _ (by show (x.sl ++ [r]).length ≤ 21; omega), ?_⟩
            · obtain ⟨A', c', e, hS⟩ := sarr_row (ownsRow_keep (w' := w4.setCell ⟨g, m * 3 + 2, none⟩ (.slice A5 (x.sl.length + 1) c5)) HOWN.out fun b hb _ _ => hfar b (fun e => by
                rw [e] at hb
                obtain ⟨cu, hc, _⟩ := row_t HOWN.out hb
                rw [show w4.heap[g]? = _ from HBK4.out] at hc
                injection hc with hc
                injection hc with _ hc _
                exact absurd hc (by decide)))
              injection e with e1 e2 e3
              subst e1
              subst e3
              refine HTURN.out _ _ ⟨x.fr, x.tg, x.sl ++ [r]⟩ _ _ (HBK4.out.set_ (m * 3 + 2) _) (fun i j0 j1 j2 => by rw [Array.getElem?_setIfInBounds_ne (by omega)]) (by rw [Array.getElem?_setIfInBounds_ne (by omega)]; exact HE.out.1) (by rw [Array.getElem?_setIfInBounds_ne (by omega)]; exact HE.out.2.1) (by rw [Array.getElem?_setIfInBounds_self_of_lt SZ.out.2.2]; show _ = some (Value.slice _ (x.sl ++ [r]).length _); rw [hlen]) hS (fun b hbl hb hb2 => (hfar b hb).trans ((HGR.out.block b (Nat.lt_of_lt_of_le hbl HBX.out.size) (fun e => hb2 e.symm)).trans (HBX.out.block b hbl)))
            · exact ((HB.out.trans (HBX.out.mono HB.out.size)).trans (grown_below HGR.out (fun k hk => (HRX.out.lt k hk).1) HWX.out)).setCell (p := ⟨g, m * 3 + 2, none⟩) HGE.out _)
          clear f4 z4 hgl4 dv dx d0 d1 d2
          go_wp2_with fail
          go_ret
          exact HX3.out
        · go_simp
          rw [← HX.out]
          refine hK.out _ _ trivial (fun hHeld2 => ?_)
          clear hK K hHeld
          try simp only [Act.put, List.setIfInBounds_toArray, List.set_cons_zero, List.set_cons_succ, List.getElem_toArray, List.getElem_cons_zero, List.getElem_cons_succ]
          have hHeld := hHeld2
          clear hHeld2
          refine wpAnyH_ready (rs := [4]) (by kernel_rfl) (by simp) ?_
          refine AllReadyH.cons rfl (fun K hK => ?_) AllReadyH.nil
          go_simp
          refine hK.out _ _ trivial (fun hHeld2 => ?_)
          clear hK K hHeld
          try simp only [Act.put, List.setIfInBounds_toArray, List.set_cons_zero, List.set_cons_succ, List.getElem_toArray, List.getElem_cons_zero, List.getElem_cons_succ]
          have hHeld := hHeld2
          clear hHeld2
          refine wpAnyH_ready (rs := [8]) (by kernel_rfl) (by simp) ?_
          refine AllReadyH.cons rfl (fun K hK => ?_) AllReadyH.nil
          rw [if_pos (by rfl)]
          refine wp_append_own _ _ _ 23 rfl w.heap.size 3 i0 _ 1 8 Try.underlying23 hi0 iz0 iz1 iz2 rfl (by decide) (.slice A2 x.sl.length c2) x.sl.length (numC x.sl) rfl HRX.out ⟨V.heap.size, 0, none⟩ 1 1 [.int .i64 r] rfl rfl HNW.out (by simp [Value.oneCell']) HM1.out HM2.out HWX.out ?_
          intro v2 w4 hown hgr _
          obtain ⟨A5, c5, rfl, _⟩ := row_slice hown
          have HOWN := Lib.hid (show w4.ownsRow w.heap.size 3 1 (.slice A5 (x.sl.length + 1) c5) (x.sl ++ [r]).length (numC (x.sl ++ [r])) by rw [numC_append, List.length_append]; exact hown)
          have hgb : w4.heap[g]? = X.heap[g]? := hgr.block g (Nat.lt_of_lt_of_le hgl HBX.out.size) (fun e => HUG.out e.symm)
          have HGB := Lib.hid hgb
          have HGR := Lib.hid hgr
          have f4 : w4.cell? ⟨g, m * 3 + 2, none⟩ = some (.slice A2 x.sl.length c2) := (World.cell?_of_block hgb).trans dx
          have HBK4 := Lib.hid (show Blk w4 g 48 cur from hgb.trans ((HBX.out.block g hgl).trans HBK.out))
          have z4 : w4.frozen? ⟨g, m * 3 + 2, none⟩ = false := HBK4.out.frozen _
          have hgl4 : g < w4.heap.size := HBK4.out.lt
          clear hown hgr hgb
          refine hK.out _ _ trivial (fun hHeld2 => ?_)
          clear hK K hHeld
          try simp only [Act.put, List.setIfInBounds_toArray, List.set_cons_zero, List.set_cons_succ, List.getElem_toArray, List.getElem_cons_zero, List.getElem_cons_succ]
          have hHeld := hHeld2
          clear hHeld2
          (refine wpAnyH_take (i := 9) (v := ?_) rfl (by kernel_rfl) (by kernel_rfl) (by kernel_rfl) (fun _ _ _ h => h) (Or.inl ⟨by rfl, ?_⟩) (by assumption) ?_; rotate_left 1; (focus (intro w' hSw; (try dsimp only at hSw); go_simp; (try with_reducible rfl); done)); try simp only [Act.put, List.setIfInBounds_toArray, List.set_cons_zero, List.set_cons_succ, List.getElem_toArray, List.getElem_cons_zero, List.getElem_cons_succ])
          (refine wpAnyH_take (i := 10) (v := ?_) rfl (by kernel_rfl) (by kernel_rfl) (by kernel_rfl) (fun _ _ _ h => h) (Or.inl ⟨by rfl, ?_⟩) (by assumption) ?_; rotate_left 1; (focus (intro w' hSw; (try dsimp only at hSw); go_simp; (try with_reducible rfl); done)); try simp only [Act.put, List.setIfInBounds_toArray, List.set_cons_zero, List.set_cons_succ, List.getElem_toArray, List.getElem_cons_zero, List.getElem_cons_succ])
          refine wpAnyH_ready (rs := [11]) (by kernel_rfl) (by simp) ?_
          refine AllReadyH.cons rfl (fun K hK => ?_) AllReadyH.nil
          go_simp
          refine hK.out _ _ trivial (fun hHeld2 => ?_)
          clear hK K hHeld
          try simp only [Act.put, List.setIfInBounds_toArray, List.set_cons_zero, List.set_cons_succ, List.getElem_toArray, List.getElem_cons_zero, List.getElem_cons_succ]
          have hHeld := hHeld2
          clear hHeld2
          refine wpAnyH_done (by kernel_rfl) ?_ _
          have HX3 : Hid (SomeT w (.returned (.slice (some ⟨g, 0, none⟩) L.length c1)) (w4.setCell ⟨g, m * 3 + 2, none⟩ (.slice A5 (x.sl.length + 1) c5))) := Lib.hid (by
            have hfar : ∀ b, b ≠ g → (w4.setCell ⟨g, m * 3 + 2, none⟩ (.slice A5 (x.sl.length + 1) c5)).heap[b]? = w4.heap[b]? := fun b hb => Below.heap_setCell _ ⟨g, m * 3 + 2, none⟩ _ b hb
            have hlen : (x.sl ++ [r]).length = x.sl.length + 1 := by simp
            refine ⟨some ⟨g, 0, none⟩, c1, L.set m ⟨x.fr, x.tg, x.sl ++ [r]⟩, by rw [List.length_set], ?_, HSET.out _ (by show (x.sl ++ [r]).length ≤ 21; omega), ?_⟩
            · obtain ⟨A', c', e, hS⟩ := sarr_row (ownsRow_keep (w' := w4.setCell ⟨g, m * 3 + 2, none⟩ (.slice A5 (x.sl.length + 1) c5)) HOWN.out fun b hb _ _ => hfar b (fun e => by
                rw [e] at hb
                obtain ⟨cu, hc, _⟩ := row_t HOWN.out hb
                rw [show w4.heap[g]? = _ from HBK4.out] at hc
                injection hc with hc
                injection hc with _ hc _
                exact absurd hc (by decide)))
              injection e with e1 e2 e3
              subst e1
              subst e3
              refine HTURN.out _ _ ⟨x.fr, x.tg, x.sl ++ [r]⟩ _ _ (HBK4.out.set_ (m * 3 + 2) _) (fun i j0 j1 j2 => by rw [Array.getElem?_setIfInBounds_ne (by omega)]) (by rw [Array.getElem?_setIfInBounds_ne (by omega)]; exact HE.out.1) (by rw [Array.getElem?_setIfInBounds_ne (by omega)]; exact HE.out.2.1) (by rw [Array.getElem?_setIfInBounds_self_of_lt SZ.out.2.2]; show _ = some (Value.slice _ (x.sl ++ [r]).length _); rw [hlen]) hS (fun b hbl hb hb2 => (hfar b hb).trans ((HGR.out.block b (Nat.lt_of_lt_of_le hbl HBX.out.size) (fun e => hb2 e.symm)).trans (HBX.out.block b hbl)))
            · exact ((HB.out.trans (HBX.out.mono HB.out.size)).trans (grown_below HGR.out (fun k hk => (HRX.out.lt k hk).1) HWX.out)).setCell (p := ⟨g, m * 3 + 2, none⟩) HGE.out _)
          clear f4 z4 hgl4 dv dx d0 d1 d2
          go_wp2_with fail
          go_ret
          exact HX3.out
    · subst hk0
      have hpos : 0 < x.sl.length := by
        rcases hxs : x.sl with _ | ⟨s, l⟩
        · exact absurd hxs HXP.out
        · simp
      obtain ⟨h, caph, s0, eh, hBh, hlh, f0, zf, hset⟩ := row_first HROW.out hpos
      injection eh with eh1 _ eh3
      subst eh1
      subst eh3
      have hng : h ≠ g := fun e => HUG.out (by rw [e]; rfl)
      have hpos2 : (0 : Int) ≤ 0 ∧ (0 : Int) < x.sl.length := by omega
      have hpos3 : (0 : Int) < x.sl.length := by omega
      obtain ⟨T, hTl, hTr⟩ := hset (-1)
      have HX4 : Hid (SomeT w (.returned (.slice (some ⟨g, 0, none⟩) L.length c1)) (V.setCell ⟨h, 0, none⟩ (.int .i64 (-1)))) := Lib.hid (by
        have hfar : ∀ b, b ≠ h → (V.setCell ⟨h, 0, none⟩ (.int .i64 (-1))).heap[b]? = V.heap[b]? := fun b hb => Below.heap_setCell _ ⟨h, 0, none⟩ _ b hb
        refine ⟨some ⟨g, 0, none⟩, c1, L.set m ⟨x.fr, x.tg, T⟩, by rw [List.length_set], ?_, HSET.out _ (by show T.length ≤ 21; omega), HB.out.setCell (p := ⟨h, 0, none⟩) hBh _⟩
        obtain ⟨A', c', e, hS⟩ := sarr_row hTr
        injection e with e1 e2 e3
        subst e1
        subst e3
        refine HTURN.out _ cur ⟨x.fr, x.tg, T⟩ _ _ ((hfar g (fun e => hng e.symm)).trans HBK.out) (fun i _ _ _ => rfl) HE.out.1 HE.out.2.1 (by show _ = some (Value.slice _ T.length _); rw [hTl]; exact HE.out.2.2) hS (fun b _ hb hb2 => hfar b fun e => hb2 (by rw [e]; rfl)))
      clear hTl hTr hset
      go_wp2_with fail
      refine (M1.out _).mono ?_
      rintro e wn ⟨rfl, rfl⟩
      go_wp2_with fail
      refine (M2.out _).mono ?_
      rintro e wn ⟨rfl, rfl⟩
      go_wp2_with fail
      go_ret
      exact HX4.out
    · subst hk0
      go_wp2_with fail
      refine (M1.out _).mono ?_
      rintro e wn ⟨rfl, rfl⟩
      go_wp2_with fail
      refine (M2.out _).mono ?_
      rintro e wn ⟨rfl, rfl⟩
      go_wp2_with fail
      go_ret
      exact ⟨_, _, L, rfl, HTA.out, ⟨by omega, by omega⟩, HB.out⟩
end Go.Proofs.Ytkjmokaahpkahaa
