/-
  Contracts of package pool: clone, isOwner, isBelt, hasOtherStamp; of package slices: Clone, IndexFunc, ContainsFunc at frames.
-/
import Derived.Test.YtpjhgdgdckndeaaDoorFree
import Derived.Test.YtpjhgdgdckndeaaDoorCopy
import Derived.Lib.SliceRun
namespace Go.Proofs.YtpjhgdgdckndeaaDoor
open Go.RowKit
set_option maxRecDepth 100000
set_option linter.unusedVariables false

theorem clonew_any (b o n c : Nat) (f : Nat → Int) (w : World) (h : Arr w w.heap.size (some ⟨b, o, none⟩) n c f) (hn : n ≤ 1048576) (hn0 : 0 < n) :
    Calls Tryd.prog 52 #[.slice (some ⟨b, o, none⟩) n c] w (GivesOwn n f w) := by
  obtain ⟨i0, hi0, hz0, hz1, hz2⟩ := info_parts word_info
  have hc := news_words h
  have HC := Lib.hid hc
  have heq : ∀ W, (binOp .eql 23 (.slice (some ⟨b, o, none⟩) n c) (.slice none 0 0)).run Tryd.prog W = .ok (.bool false) W := fun W => by rw [Lib.run_eql_slice_nil W 23 59 _ n c 0 0 Tryd.underlying23]; rfl
  clear h hc
  go_enter Tryd.func52, Tryd.ntmps52
  go_wp2_with (at_builtin; refine wpList_append_own _ rfl _ _ 23 rfl w.heap.size 59 i0 _ 1 8 Tryd.underlying23 hi0 hz0 hz1 hz2 rfl (by decide) _ 0 [] rfl ?c0 ⟨b, o, none⟩ n c (wordsOf n f) rfl (by simp [wordsOf]) ?c1 (wordsOf_one n f) (by simp only [maxLen]; omega) (by omega) ?c5 ?_)
  case c0 => exact World.ownsRow_made w #[] 0 (Nat.le_refl _) (by simp) (by simp)
  case c1 => exact fun j u hu => Lib.cell?_alloc_some _ (HC.out j u hu)
  case c5 => simp
  intro v1 w1 hown hg _
  obtain ⟨A1, c1, rfl, ho⟩ := own_of_row hown (fun j hj => wordsOf_get n f j hj)
  have HO := Lib.hid ho
  have HB : Hid (Below w.heap.size w w1) := ((Below.refl _ _).alloc (Nat.le_refl _) _).grown hg (by simp) (by simp [Value.ownBlock])
  clear ho hg hown
  go_wp2
  go_ret
  exact ⟨A1, c1, rfl, HO.out, HB.out⟩

set_option maxHeartbeats 1000000 in
theorem clonef_any (b o n c : Nat) (F : Nat → Fr) (w : World) (h : Tab w w.heap.size (some ⟨b, o, none⟩) n c F) (hn : n ≤ 4096) (hn0 : 0 < n) :
    Calls Tryd.prog 53 #[.slice (some ⟨b, o, none⟩) n c] w fun e w' => ∃ g c', e = .returned (.slice (some ⟨g, 0, none⟩) n c') ∧ OwnT w' w.heap.size (some ⟨g, 0, none⟩) n c' F ∧ Below w.heap.size w w' := by
  obtain ⟨i0, hi0, hz0, hz1, hz2⟩ := info_parts frame_info
  have hc := tabList_cells h
  have HC := Lib.hid hc
  have heq : ∀ W, (binOp .eql 24 (.slice (some ⟨b, o, none⟩) n c) (.slice none 0 0)).run Tryd.prog W = .ok (.bool false) W := fun W => by rw [Lib.run_eql_slice_nil W 24 62 _ n c 0 0 Tryd.underlying24]; rfl
  clear h hc
  go_enter Tryd.func53, Tryd.ntmps53
  go_wp2_with (at_builtin; refine wpList_append_own _ rfl _ _ 24 rfl w.heap.size 62 i0 _ 3 24 Tryd.underlying24 hi0 hz0 hz1 hz2 rfl (by decide) _ 0 [] rfl ?c0 ⟨b, o, none⟩ n c (tabList n F) rfl (tabList_length n F) ?c1 (tabList_one n F) (by simp only [maxLen]; omega) (by omega) ?c5 ?_)
  case c0 => exact World.ownsRow_made w #[] 0 (Nat.le_refl _) (by simp) (by simp)
  case c1 => exact fun j u hu => Lib.cell?_alloc_some _ (HC.out j u hu)
  case c5 => simp
  intro v1 w1 hown hg _
  obtain ⟨g, c1, rfl, ho⟩ := ownT_of_row hown hn0
  have HO := Lib.hid ho
  have HB : Hid (Below w.heap.size w w1) := ((Below.refl _ _).alloc (Nat.le_refl _) _).grown hg (by simp) (by simp [Value.ownBlock])
  clear ho hg hown
  go_wp2
  go_ret
  exact ⟨g, c1, rfl, HO.out, HB.out⟩

/-- Whether a number is an owner's; whether a number is a belt's. -/
def okO (o : Int) : Bool := decide (0 ≤ o ∧ o ≤ 4294967295)
def okB (b : Int) : Bool := decide (0 ≤ b ∧ b < 4)
theorem isOwner_any (o : Int) (w : World) : Calls Tryd.prog 32 #[.int .i64 o] w fun e w' => e = .returned (.bool (okO o)) ∧ w = w' := by
  by_cases h1 : 0 ≤ o
  · by_cases h2 : o ≤ 4294967295
    all_goals
      go_enter Tryd.func32, Tryd.ntmps32
      go_wp2
      go_ret
      exact ⟨ret_bool (by simp [okO]; omega), rfl⟩
  · go_enter Tryd.func32, Tryd.ntmps32
    go_wp2
    go_ret
    exact ⟨ret_bool (by simp [okO]; omega), rfl⟩
theorem isBelt_any (o : Int) (w : World) : Calls Tryd.prog 33 #[.int .i64 o] w fun e w' => e = .returned (.bool (okB o)) ∧ w = w' := by
  by_cases h1 : 0 ≤ o
  · by_cases h2 : o < 4
    all_goals
      go_enter Tryd.func33, Tryd.ntmps33
      go_wp2
      go_ret
      exact ⟨ret_bool (by simp [okB]; omega), rfl⟩
  · go_enter Tryd.func33, Tryd.ntmps33
    go_wp2
    go_ret
    exact ⟨ret_bool (by simp [okB]; omega), rfl⟩

def anyB (F : Nat → Fr) (o st : Int) : Nat → Bool
  | 0 => false
  | n + 1 => anyB F o st n || (decide ((F n).ow = o) && decide ((F n).st ≠ st))
theorem anyB_iff (F : Nat → Fr) (o st : Int) : ∀ n, anyB F o st n = true ↔ ∃ f, f < n ∧ (F f).ow = o ∧ (F f).st ≠ st
  | 0 => by simp [anyB]
  | n + 1 => by
    simp only [anyB, Bool.or_eq_true, anyB_iff F o st n]
    constructor
    · rintro (⟨f, h1, h2⟩ | h)
      · exact ⟨f, by omega, h2⟩
      · simp at h; exact ⟨n, by omega, h⟩
    · rintro ⟨f, h1, h2, h3⟩
      rcases (show f < n ∨ f = n by omega) with h | rfl
      · exact .inl ⟨f, h, h2, h3⟩
      · right; simp [h2, h3]

set_option maxHeartbeats 1000000 in
theorem pred_any (x y z o st : Int) (p1 p2 : Nat) (w : World) (h1 : w.cell? ⟨p1, 0, none⟩ = some (.int .i64 o)) (h2 : w.cell? ⟨p2, 0, none⟩ = some (.int .i64 st)) :
    Calls Tryd.prog 51 #[.agg #[.int .i64 x, .int .i64 y, .int .i64 z], .pointer (some ⟨p1, 0, none⟩), .pointer (some ⟨p2, 0, none⟩)] w
      fun e w' => e = .returned (.bool (decide (x = o) && decide (y ≠ st))) ∧ Below w.heap.size w w' := by
  have l1 := cell_lt h1
  have l2 := cell_lt h2
  by_cases e1 : x = o
  · by_cases e2 : y = st
    all_goals
      have hb1 : (x == o) = true := by simpa using e1
      first
        | (have hb2 : (y != st) = false := by simpa using e2)
        | (have hb2 : (y != st) = true := by simpa using e2)
      have HR : Hid ((decide (x = o) && decide (y ≠ st)) = (y != st)) := by
        have h : (decide (x = o) && decide (y ≠ st)) = (y != st) := by rw [hb2]; simp [e1, e2]
        exact Lib.hid h
      clear e1 e2
      go_enter Tryd.func51, Tryd.ntmps51
      go_wp2
      go_ret
      exact ⟨ret_bool (by rw [HR.out, hb2]), (Below.refl _ _).alloc (Nat.le_refl _) _⟩
  · have hb1 : (x == o) = false := by simpa using e1
    have HR : Hid ((decide (x = o) && decide (y ≠ st)) = false) := by
      have h : (decide (x = o) && decide (y ≠ st)) = false := by simp [e1]
      exact Lib.hid h
    clear e1
    go_enter Tryd.func51, Tryd.ntmps51
    go_wp2
    go_ret
    exact ⟨ret_bool (by rw [HR.out]), (Below.refl _ _).alloc (Nat.le_refl _) _⟩

/-- A place at which the predicate holds, or -1. -/
def Found (F : Nat → Fr) (o st : Int) (n : Nat) (w : World) (e : Ending) (w' : World) : Prop := (∃ k : Int, e = .returned (.int .i64 k) ∧ -1 ≤ k ∧ decide (0 ≤ k) = anyB F o st n) ∧ Below w.heap.size w w'
set_option maxHeartbeats 1000000 in
theorem indexFunc_any (A' : Option Addr) (n c' p1 p2 : Nat) (F : Nat → Fr) (o st : Int) (w : World) (hT : Tab w w.heap.size A' n c' F) (hn : n ≤ 4096)
    (h1 : w.cell? ⟨p1, 0, none⟩ = some (.int .i64 o)) (h2 : w.cell? ⟨p2, 0, none⟩ = some (.int .i64 st)) :
    Calls Tryd.prog 61 #[.slice A' n c', .func (.func 51) #[] #[.pointer (some ⟨p1, 0, none⟩), .pointer (some ⟨p2, 0, none⟩)]] w
      (Found F o st n w) := by
  have HT := Lib.hid hT
  have H1 := Lib.hid h1
  have H2 := Lib.hid h2
  have l1 := cell_lt h1
  have l2 := cell_lt h2
  clear hT h1 h2
  go_enter Tryd.func61, Tryd.ntmps61
  go_wp2
  go_loopw [5, 8] (fun _ i wr => ∃ t : Nat, t ≤ n ∧ i = .int .i64 t ∧ anyB F o st t = false ∧ Below w.heap.size w wr) (fun _ i _ => n - (intOf i).toNat)
  case atStart => exact ⟨0, by omega, rfl, rfl, Below.refl _ _⟩
  case round =>
    obtain ⟨t, ht, rfl, hno, hb⟩ := hrel
    have HN := Lib.hid hno
    have HB := Lib.hid hb
    clear hno hb
    by_cases hlt : t < n
    · have hlt2 : 0 ≤ (t : Int) ∧ (t : Int) < n := by omega
      have HTR : Hid (Tab wr w.heap.size A' n c' F) := HT.out.below HB.out
      obtain ⟨b, o', rfl, hbb⟩ := HTR.out.base_ (by omega)
      obtain ⟨_, c0, c1, c2⟩ := HTR.out.cells t hlt
      have bz : b < wr.heap.size := by have := HB.out.size; omega
      have HP : Hid (wr.cell? ⟨p1, 0, none⟩ = some (.int .i64 o)) := Lib.hid ((HB.out.cell (p := ⟨p1, 0, none⟩) l1).trans H1.out)
      have HQ : Hid (wr.cell? ⟨p2, 0, none⟩ = some (.int .i64 st)) := Lib.hid ((HB.out.cell (p := ⟨p2, 0, none⟩) l2).trans H2.out)
      have HS : Hid (anyB F o st (t + 1) = (decide ((F t).ow = o) && decide ((F t).st ≠ st))) := by
        have h : anyB F o st (t + 1) = (decide ((F t).ow = o) && decide ((F t).st ≠ st)) := by simp only [anyB]; rw [HN.out]; rfl
        exact Lib.hid h
      obtain ⟨x, hx⟩ : ∃ x, x = (F t).ow := ⟨_, rfl⟩
      obtain ⟨y, hy⟩ : ∃ y, y = (F t).st := ⟨_, rfl⟩
      rw [← hx, ← hy] at HS
      rw [← hx] at c0
      rw [← hy] at c1
      clear hx hy
      cases hq : (decide (x = o) && decide (y ≠ st)) with
      | true =>
        have HQ2 := Lib.hid hq
        have hge : decide (0 ≤ (t : Int)) = true := decide_eq_true (by omega)
        clear hq
        go_wp2_with (go_at_call 51; refine (pred_any x y _ o st p1 p2 _ HP.out HQ.out).mono ?_; rintro e w1 ⟨rfl, hb1⟩; rw [HQ2.out])
        go_ret
        refine ⟨⟨t, rfl, by omega, ?_⟩, below_next HB.out (Nat.le_refl _) hb1⟩
        have h1 := (anyB_iff F o st (t + 1)).1 (by rw [HS.out]; exact HQ2.out)
        obtain ⟨f, h2, h3⟩ := h1
        rw [(anyB_iff F o st n).2 ⟨f, by omega, h3⟩]
        exact hge
      | false =>
        have HQ2 := Lib.hid hq
        clear hq
        go_wp2_with (go_at_call 51; refine (pred_any x y _ o st p1 p2 _ HP.out HQ.out).mono ?_; rintro e w1 ⟨rfl, hb1⟩; rw [HQ2.out])
        exact ⟨⟨t + 1, by omega, by go_num, by rw [HS.out]; exact HQ2.out, below_next HB.out (Nat.le_refl _) hb1⟩, by simp [intOf]; omega⟩
    · obtain rfl : n = t := by omega
      have hlt2 : ¬ (n : Int) < n := by omega
      go_wp2
      go_ret
      exact ⟨⟨-1, rfl, by omega, by rw [HN.out]; rfl⟩, HB.out⟩

theorem containsFunc_any (A' : Option Addr) (n c' p1 p2 : Nat) (F : Nat → Fr) (o st : Int) (w : World) (hT : Tab w w.heap.size A' n c' F) (hn : n ≤ 4096)
    (h1 : w.cell? ⟨p1, 0, none⟩ = some (.int .i64 o)) (h2 : w.cell? ⟨p2, 0, none⟩ = some (.int .i64 st)) :
    Calls Tryd.prog 50 #[.slice A' n c', .func (.func 51) #[] #[.pointer (some ⟨p1, 0, none⟩), .pointer (some ⟨p2, 0, none⟩)]] w
      fun e w' => e = .returned (.bool (anyB F o st n)) ∧ Below w.heap.size w w' := by
  go_enter Tryd.func50, Tryd.ntmps50
  go_wp2_with (go_at_call 61; refine (indexFunc_any A' n c' p1 p2 F o st w hT hn h1 h2).mono ?_; rintro e w1 ⟨⟨k, rfl, hk, hd⟩, hb1⟩)
  go_ret
  exact ⟨rfl, hb1⟩
theorem hasOther_any (s : Int) (V1 : Value) (A' : Option Addr) (n c' : Nat) (F : Nat → Fr) (o st : Int) (w : World) (hT : Tab w w.heap.size A' n c' F) (hn : n ≤ 4096) :
    Calls Tryd.prog 34 #[.agg #[.int .i64 s, V1, .slice A' n c'], .int .i64 o, .int .i64 st] w
      fun e w' => e = .returned (.bool (anyB F o st n)) ∧ Below w.heap.size w w' := by
  obtain ⟨U, hU⟩ : ∃ U, U = ((w.alloc (.cells #[.int .i64 s, V1, .slice A' n c'] 26)).alloc (.cells #[.int .i64 o] 3)).alloc (.cells #[.int .i64 st] 3) := ⟨_, rfl⟩
  have BU : Blk U w.heap.size 26 #[.int .i64 s, V1, .slice A' n c'] := by rw [hU]; exact ((Blk.new _ _ _).alloc _).alloc _
  have B1 : Blk U (w.heap.size + 1) 3 #[.int .i64 o] := by rw [hU]; exact (Blk.newAt _ _ _ _ (by simp)).alloc _
  have B2 : Blk U (w.heap.size + 2) 3 #[.int .i64 st] := by rw [hU]; exact Blk.newAt _ _ _ _ (by simp)
  have HBU : Hid (Below w.heap.size w U) := by rw [hU]; exact (((Below.refl _ _).alloc (Nat.le_refl _) _).alloc (by simp) _).alloc (by simp; omega) _
  have HT := Lib.hid (hT.next HBU.out)
  have HU := Lib.hid hU
  have p2 := BU.cell 2
  have q1 := B1.cell 0
  have q2 := B2.cell 0
  simp at p2 q1 q2
  have Q1 := Lib.hid q1
  have Q2 := Lib.hid q2
  clear hT hU q1 q2
  go_enter Tryd.func34, Tryd.ntmps34
  go_wp2_with (go_at_call 50; rw [← HU.out]; refine (containsFunc_any A' n c' _ _ F o st U HT.out hn Q1.out Q2.out).mono ?_; rintro e w1 ⟨rfl, hb1⟩)
  go_ret
  exact ⟨rfl, below_next HBU.out (Nat.le_refl _) hb1⟩

set_option maxHeartbeats 1000000 in
theorem clonep_any (k : Int) (A A' : Option Addr) (nw c n c' : Nat) (wd : Nat → Int) (F : Nat → Fr) (w : World) (hA : Arr w w.heap.size A nw c wd) (hT : Tab w w.heap.size A' n c' F) (hn : n ≤ 4096) (hn0 : 0 < n) (hw : nw ≤ 1048576) (hw0 : 0 < nw) :
    Calls Tryd.prog 36 #[.agg #[.int .i64 k, .slice A nw c, .slice A' n c']] w (CopyOf k nw n wd F w) := by
  obtain ⟨b, o, rfl, hbb⟩ := hT.base_ hn0
  obtain ⟨b', o', rfl, hbb', _⟩ := hA.at_ 0 hw0
  have HA := Lib.hid hA
  have HT := Lib.hid hT
  obtain ⟨U, hU⟩ : ∃ U, U = (w.alloc (.cells #[.int .i64 k, .slice (some ⟨b', o', none⟩) nw c, .slice (some ⟨b, o, none⟩) n c'] 26)).alloc (.cells #[.int .i64 0, .slice none 0 0, .slice none 0 0] 26) := ⟨_, rfl⟩
  have BU : Blk U w.heap.size 26 #[.int .i64 k, .slice (some ⟨b', o', none⟩) nw c, .slice (some ⟨b, o, none⟩) n c'] := by rw [hU]; exact (Blk.new _ _ _).alloc _
  have BR : Blk U (w.heap.size + 1) 26 #[.int .i64 0, .slice none 0 0, .slice none 0 0] := by rw [hU]; exact Blk.newAt _ _ _ _ (by simp)
  have HBU : Hid (Below w.heap.size w U) := by rw [hU]; exact ((Below.refl _ _).alloc (Nat.le_refl _) _).alloc (by simp) _
  have HU := Lib.hid hU
  have p0 := BU.cell 0
  have p1 := BU.cell 1
  have p2 := BU.cell 2
  simp at p0 p1 p2
  have z1 : w.heap.size < U.heap.size := BU.lt
  have z2 : w.heap.size + 1 < U.heap.size := BR.lt
  have hau : Arr U U.heap.size (some ⟨b', o', none⟩) nw c wd := HA.out.next HBU.out
  have HAD : Hid (Arr U.drew U.drew.heap.size (some ⟨b', o', none⟩) nw c wd) := hau
  clear hau
  have htu : Tab U U.heap.size (some ⟨b, o, none⟩) n c' F := HT.out.next HBU.out
  have HTD : Hid (Tab U.drew U.drew.heap.size (some ⟨b, o, none⟩) n c' F) := htu
  clear htu
  have BRD : Blk U.drew (w.heap.size + 1) 26 #[.int .i64 0, .slice none 0 0, .slice none 0 0] := BR
  clear hA hT hU
  go_enter Tryd.func36, Tryd.ntmps36
  go_wp2
  rw [← HU.out]
  go_region_held3 (fun w' => w'.cell? ⟨w.heap.size, 0, none⟩ = some (.int .i64 k) ∧ w'.cell? ⟨w.heap.size, 1, none⟩ = some (.slice (some ⟨b', o', none⟩) nw c) ∧ w'.cell? ⟨w.heap.size, 2, none⟩ = some (.slice (some ⟨b, o, none⟩) n c'))
    (first | exact ⟨p0, p1, p2⟩ | exact ⟨a0, a1, a2⟩ | exact ⟨b0, b1, b2⟩ | go_keep)
    (first
      | (go_at_call 52; refine (clonew_any b' o' nw c wd _ HAD.out hw hw0).mono ?_; rintro e wa ⟨A1, c1, rfl, ho, hba⟩; have a0 := (hba.cell (p := ⟨w.heap.size, 0, none⟩) z1).trans p0; have a1 := (hba.cell (p := ⟨w.heap.size, 1, none⟩) z1).trans p1; have a2 := (hba.cell (p := ⟨w.heap.size, 2, none⟩) z1).trans p2; have za : w.heap.size < wa.heap.size := Nat.lt_of_lt_of_le z1 hba.size; have Ba := BRD.next hba; have zRa := Ba.lt; have ra0 := Ba.cell 0; have ra1 := Ba.cell 1; have ra2 := Ba.cell 2; simp at ra0 ra1 ra2; have fa0 := Ba.frozen 0; have fa1 := Ba.frozen 1; have fa2 := Ba.frozen 2)
      | (go_at_call 52; refine (clonew_any b' o' nw c wd _ (HAD.out.next hbb2) hw hw0).mono ?_; rintro e wa ⟨A1, c1, rfl, ho, hba⟩; have a0 := (hba.cell (p := ⟨w.heap.size, 0, none⟩) zb).trans b0; have a1 := (hba.cell (p := ⟨w.heap.size, 1, none⟩) zb).trans b1; have a2 := (hba.cell (p := ⟨w.heap.size, 2, none⟩) zb).trans b2; have za : w.heap.size < wa.heap.size := Nat.lt_of_lt_of_le zb hba.size; have Ba := Bb.next hba; have zRa := Ba.lt; have ra0 := Ba.cell 0; have ra1 := Ba.cell 1; have ra2 := Ba.cell 2; simp at ra0 ra1 ra2; have fa0 := Ba.frozen 0; have fa1 := Ba.frozen 1; have fa2 := Ba.frozen 2)
      | (go_at_call 53; refine (clonef_any b o n c' F _ HTD.out hn hn0).mono ?_; rintro e wb ⟨gt, ct, rfl, htab, hbb2⟩; have b0 := (hbb2.cell (p := ⟨w.heap.size, 0, none⟩) z1).trans p0; have b1 := (hbb2.cell (p := ⟨w.heap.size, 1, none⟩) z1).trans p1; have b2 := (hbb2.cell (p := ⟨w.heap.size, 2, none⟩) z1).trans p2; have zb : w.heap.size < wb.heap.size := Nat.lt_of_lt_of_le z1 hbb2.size; have Bb := BRD.next hbb2; have zRb := Bb.lt; have rb0 := Bb.cell 0; have rb1 := Bb.cell 1; have rb2 := Bb.cell 2; simp at rb0 rb1 rb2; have fb0 := Bb.frozen 0; have fb1 := Bb.frozen 1; have fb2 := Bb.frozen 2)
      | (go_at_call 53; refine (clonef_any b o n c' F _ (HTD.out.next hba) hn hn0).mono ?_; rintro e wb ⟨gt, ct, rfl, htab, hbb2⟩; have b0 := (hbb2.cell (p := ⟨w.heap.size, 0, none⟩) za).trans a0; have b1 := (hbb2.cell (p := ⟨w.heap.size, 1, none⟩) za).trans a1; have b2 := (hbb2.cell (p := ⟨w.heap.size, 2, none⟩) za).trans a2; have zb : w.heap.size < wb.heap.size := Nat.lt_of_lt_of_le za hbb2.size; have Bb := Ba.next hbb2; have zRb := Bb.lt; have rb0 := Bb.cell 0; have rb1 := Bb.cell 1; have rb2 := Bb.cell 2; simp at rb0 rb1 rb2; have fb0 := Bb.frozen 0; have fb1 := Bb.frozen 1; have fb2 := Bb.frozen 2))
  have hud : Below w.heap.size w U.drew := HBU.out.drew
  have HBB := Lib.hid (below_next (below_next hud (Nat.le_refl _) hba) (Nat.le_refl _) hbb2)
  have hur : U.drew.heap.size ≤ wa.heap.size := hba.size
  have z3 : w.heap.size + 1 < wa.heap.size := Nat.lt_of_lt_of_le z2 hur
  have HO2 := Lib.hid (ho.below hbb2)
  have HTA := Lib.hid htab
  clear ho htab hba hbb2 hud
  go_wp2
  refine bodyPost_ret (v := .agg #[.int .i64 k, .slice A1 nw c1, .slice (some ⟨gt, 0, none⟩) n ct]) (by simp [results, Tryd.results36, go_sem, rb0, rb1, rb2]) rfl ⟨_, _, _, _, rfl, ?_, ?_, ?_⟩
  · exact (HO2.out.put3 z2 _ _ _).lower (show w.heap.size ≤ U.drew.heap.size from Nat.le_of_lt z1)
  · exact (HTA.out.put3 z3 _ _ _).lower (Nat.le_of_lt za)
  · exact below_put3 HBB.out (by omega) _ _ _
end Go.Proofs.YtpjhgdgdckndeaaDoor
