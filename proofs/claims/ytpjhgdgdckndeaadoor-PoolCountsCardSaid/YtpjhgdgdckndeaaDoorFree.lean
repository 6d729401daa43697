/-
  Contracts of package pool: framesOf, members, Free, Used.
-/
import Derived.Test.YtpjhgdgdckndeaaDoorOnes
import Derived.Test.YtpjhgdgdckndeaaDoorPool
import Derived.OwnWalk
import Derived.Laws.AppendOwnNone
namespace Go.Proofs.YtpjhgdgdckndeaaDoor
open Go.RowKit
set_option maxRecDepth 100000
set_option linter.unusedVariables false

/-- Whether frame f has the owner o. -/
def owB (F : Nat → Fr) (o : Int) (f : Nat) : Bool := decide ((F f).ow = o)
theorem owB_yes {F : Nat → Fr} {o : Int} {f : Nat} (h : (F f).ow = o) : owB F o f = true := decide_eq_true h
theorem owB_no {F : Nat → Fr} {o : Int} {f : Nat} (h : ¬ (F f).ow = o) : owB F o f = false := decide_eq_false h

theorem or_step (p : Nat → Bool) (t : Nat) (h : t < 64) : bits BinOp.or IntKind.u64 ((setP p t : Nat) : Int) (IntKind.u64.wrap (2 ^ t)) = ((setP p t + 2 ^ t : Nat) : Int) := by
  have h1 : 2 ^ t < 18446744073709551616 := Nat.lt_of_lt_of_le (Nat.pow_lt_pow_right (by decide) h) (Nat.le_refl (2 ^ 64))
  have e : IntKind.u64.wrap ((2 : Int) ^ t) = ((2 ^ t : Nat) : Int) := by
    rw [show ((2 : Int) ^ t) = ((2 ^ t : Nat) : Int) by simp, IntKind.wrap_u64]
    generalize 2 ^ t = z at h1
    omega
  rw [e, bits_or_u64_nat _ _ (setP_small p (by omega)) h1, setP_or]

/-- The n numbers of the slice at A (capacity c) are f 0, f 1, ..; the block that holds them lies below B. -/
def Nums (w : World) (B : Nat) (A : Option Addr) (n c : Nat) (f : Nat → Int) : Prop :=
  n ≤ c ∧ c ≤ maxLen ∧ (A = none → c = 0) ∧
    (0 < n → ∃ b o, A = some ⟨b, o, none⟩ ∧ b < B ∧ ∀ j, j < n → w.cell? ⟨b, o + j, none⟩ = some (.int .i64 (f j)))
section
variable {w w' : World} {B base n c : Nat} {A : Option Addr} {f f' : Nat → Int}
theorem Nums.le (h : Nums w B A n c f) : n ≤ c := h.1
theorem Nums.at_ (h : Nums w B A n c f) (k : Nat) (hk : k < n) : ∃ b o, A = some ⟨b, o, none⟩ ∧ b < B ∧ w.cell? ⟨b, o + k, none⟩ = some (.int .i64 (f k)) := by
  obtain ⟨b, o, hA, hb, hc⟩ := h.2.2.2 (by omega)
  exact ⟨b, o, hA, hb, hc k hk⟩
theorem Nums.keep (h : Nums w B A n c f) (hk : ∀ b o, b < B → w'.cell? ⟨b, o, none⟩ = w.cell? ⟨b, o, none⟩) : Nums w' B A n c f := by
  refine ⟨h.1, h.2.1, h.2.2.1, fun hn => ?_⟩
  obtain ⟨b, o, hA, hb, hc⟩ := h.2.2.2 hn
  exact ⟨b, o, hA, hb, fun j hj => (hk _ _ hb).trans (hc j hj)⟩
theorem Nums.below (h : Nums w B A n c f) (hb : Below B w w') : Nums w' B A n c f := h.keep fun _ _ hp => hb.cell hp
theorem Nums.more {B' : Nat} (h : Nums w B A n c f) (hB : B ≤ B') : Nums w B' A n c f := by
  refine ⟨h.1, h.2.1, h.2.2.1, fun hn => ?_⟩
  obtain ⟨b, o, hA, hb, hc⟩ := h.2.2.2 hn
  exact ⟨b, o, hA, by omega, hc⟩
theorem Nums.next (h : Nums w w.heap.size A n c f) (hb : Below w.heap.size w w') : Nums w' w'.heap.size A n c f := (h.below hb).more hb.size
theorem Nums.congr (h : Nums w B A n c f) (e : ∀ j, j < n → f j = f' j) : Nums w B A n c f' := by
  refine ⟨h.1, h.2.1, h.2.2.1, fun hn => ?_⟩
  obtain ⟨b, o, hA, hb, hc⟩ := h.2.2.2 hn
  exact ⟨b, o, hA, hb, fun j hj => by rw [← e j hj]; exact hc j hj⟩
theorem Nums.nil (w : World) (B : Nat) (f : Nat → Int) : Nums w B none 0 0 f := ⟨by simp, by simp, fun _ => rfl, fun h => absurd h (by omega)⟩
end
def numL (l : List Nat) : List Value := l.map fun (x : Nat) => .int .i64 (x : Int)
/-- A list's members as a function of the place. -/
def numF (l : List Nat) (j : Nat) : Int := ((l.getD j 0 : Nat) : Int)
theorem nums_of_row {w : World} {base : Nat} {v : Value} {n : Nat} {l : List Nat} (h : w.ownsRow base 3 1 v n (numL l)) :
    ∃ A c, v = .slice A n c ∧ Nums w w.heap.size A n c (numF l) ∧ n = l.length := by
  obtain ⟨hl, h⟩ := h
  have hn : n = l.length := by simpa [numL] using hl.symm
  rcases h with ⟨rfl, rfl⟩ | ⟨g, cap, cur, rfl, hb, hg, hc, hm, hs, ht⟩
  · exact ⟨none, 0, rfl, Nums.nil _ _ _, hn⟩
  · refine ⟨some ⟨g, 0, none⟩, cap, rfl, ⟨hc, hm, (fun e => by cases e), fun _ => ⟨g, 0, rfl, blk_lt hg, fun j hj => ?_⟩⟩, hn⟩
    rw [cell_row hg, Nat.zero_add]
    have h0 : (numL l)[j]? = some (.int .i64 (numF l j)) := by
      have : j < l.length := by omega
      simp [numL, numF, this]
    rw [← ht, List.getElem?_take, if_pos (by omega)] at h0
    simpa using h0
/-- A slice of the numbers of a list, made by the call. -/
def GivesNums (l : List Nat) (w : World) (e : Ending) (w' : World) : Prop :=
  ∃ A c, e = .returned (.slice A l.length c) ∧ Nums w' w'.heap.size A l.length c (numF l) ∧ Below w.heap.size w w'
/-- The same, and what is more: its block is new. -/
def GivesNew (l : List Nat) (w : World) (e : Ending) (w' : World) : Prop :=
  ∃ A c, e = .returned (.slice A l.length c) ∧ Nums w' w'.heap.size A l.length c (numF l) ∧ Below w.heap.size w w' ∧ ∀ x, A = some x → w.heap.size ≤ x.block
theorem GivesNew.nums {l : List Nat} {w w' : World} {e : Ending} (h : GivesNew l w e w') : GivesNums l w e w' := by
  obtain ⟨A, c, h1, h2, h3, _⟩ := h
  exact ⟨A, c, h1, h2, h3⟩

def SetRow (F : Nat → Fr) (o : Int) (n : Nat) (w : World) (i v : Value) (wr : World) : Prop :=
  ∃ t : Nat, t ≤ n ∧ i = .int .i64 t ∧ v = .int .u64 (setP (owB F o) t : Nat) ∧ Below w.heap.size w wr

set_option maxHeartbeats 1000000 in
theorem framesOf_any (s : Int) (V1 : Value) (A' : Option Addr) (n c' : Nat) (F : Nat → Fr) (o : Int) (w : World) (hT : Tab w w.heap.size A' n c' F) (hn : n ≤ 64) :
    Calls Tryd.prog 28 #[.agg #[.int .i64 s, V1, .slice A' n c'], .int .i64 o] w fun e w' => e = .returned (.int .u64 (setP (owB F o) n : Nat)) ∧ Below w.heap.size w w' := by
  have HT := Lib.hid hT
  have HB0 : Hid (Below w.heap.size w (w.alloc (.cells #[.int .i64 s, V1, .slice A' n c'] 26))) := (Below.refl _ _).alloc (Nat.le_refl _) _
  clear hT
  go_enter Tryd.func28, Tryd.ntmps28
  go_wp2
  go_loopw [5, 6, 7, 11] (fun v _ _ i wr => SetRow F o n w i v wr) (fun _ _ _ i _ => n - (intOf i).toNat)
  case atStart => exact ⟨0, by omega, rfl, rfl, HB0.out⟩
  case round =>
    obtain ⟨t, ht, rfl, rfl, hb⟩ := hrel
    have HB := Lib.hid hb
    clear hb
    by_cases hlt : t < n
    · have hlt2 : 0 ≤ (t : Int) ∧ (t : Int) < n := by omega
      have hlt3 : (t : Int) < 64 := by omega
      have HTR : Hid (Tab wr w.heap.size A' n c' F) := HT.out.below HB.out
      obtain ⟨b, o', rfl, hbb⟩ := HTR.out.base_ (by omega)
      obtain ⟨_, c0, c1, c2⟩ := HTR.out.cells t hlt
      have bz : b < wr.heap.size := by have := HB.out.size; omega
      obtain ⟨x, hx⟩ : ∃ x, x = (F t).ow := ⟨_, rfl⟩
      rw [← hx] at c0
      have HBN : Hid (Below w.heap.size w (wr.alloc (.cells #[.int .i64 x, .int .i64 (F t).st, .int .i64 (F t).nx] 62))) := HB.out.alloc HB.out.size _
      by_cases hx0 : x = o
      · have hf : setP (owB F o) (t + 1) = setP (owB F o) t + 2 ^ t := by simp only [setP]; rw [owB_yes (by rw [← hx]; exact hx0)]; rfl
        subst hx0
        have HF := Lib.hid hf
        clear hx hf
        have HO := Lib.hid (or_step (owB F x) t (by omega))
        go_wp2
        refine ⟨⟨t + 1, by omega, by go_num, by rw [HO.out, HF.out], HBN.out⟩, by simp [intOf]; omega⟩
      · have hf : setP (owB F o) (t + 1) = setP (owB F o) t := by simp only [setP]; rw [owB_no (by rw [← hx]; exact hx0)]; rfl
        have hb1 : (x == o) = false := by simpa using hx0
        have HF := Lib.hid hf
        clear hx hf hx0
        go_wp2
        refine ⟨⟨t + 1, by omega, by go_num, by rw [HF.out], HBN.out⟩, by simp [intOf]; omega⟩
    · obtain rfl : n = t := by omega
      have hlt2 : ¬ (n : Int) < n := by omega
      go_wp2
      go_ret
      exact ⟨rfl, HB.out⟩

theorem and_step (x : Nat) (h0 : x ≠ 0) (h : x < 18446744073709551616) : bits BinOp.and IntKind.u64 (x : Int) ((x : Int) - 1) = ((x &&& (x - 1) : Nat) : Int) := by
  have e : ((x : Int) - 1) = ((x - 1 : Nat) : Int) := by omega
  rw [e, bits_and_u64_nat _ _ h (by omega)]

/-- One round of the walk through a set's members: the least of the rest. -/
theorem rest_round (p : Nat → Bool) {t n : Nat} (hn : n ≤ 64) (h : setP (fromP p t) n ≠ 0) :
    ∃ i, t ≤ i ∧ i < n ∧ Lib.ctz 64 (setP (fromP p t) n) = i ∧ setP (fromP p t) n &&& (setP (fromP p t) n - 1) = setP (fromP p (i + 1)) n ∧
      lstP p (i + 1) = lstP p t ++ [i] ∧ cntP p (i + 1) = cntP p t + 1 := by
  obtain ⟨i, h1, h2, h3, h4⟩ := lowest p h
  obtain ⟨y, e1, e2⟩ := setP_split p h1 h3 h4 h2
  refine ⟨i, h1, h2, ?_, ?_, lstP_next p h1 h3 h4, cntP_next p h1 h3 h4⟩
  · rw [e1]; exact ctz_pow i y (by omega)
  · rw [e1, e2]; exact and_pred i y

def MemRow (p : Nat → Bool) (n : Nat) (w : World) (v r : Value) (wr : World) : Prop :=
  ∃ t : Nat, t ≤ n ∧ r = .int .u64 (setP (fromP p t) n : Nat) ∧ wr.ownsRow w.heap.size 3 1 v (cntP p t) (numL (lstP p t)) ∧ Below w.heap.size w wr

def restOf (v : Value) : Nat := (intOf v).toNat

set_option maxHeartbeats 1000000 in
theorem members_new (p : Nat → Bool) (n : Nat) (w : World) (hn : n ≤ 64) (hD : Db w) :
    Calls Tryd.prog 27 #[.int .u64 (setP p n : Nat)] w (GivesNew (lstP p n) w) := by
  obtain ⟨i0, hi0, hz0, hz1, hz2⟩ := info_parts int_info
  obtain ⟨m, hm⟩ : ∃ m, m = setP p n := ⟨_, rfl⟩
  have hm64 : m < 18446744073709551616 := by rw [hm]; exact setP_small p hn
  have ha : bitsT m 64 = cntP p n := by rw [hm]; exact bitsT_all p hn
  have hcn := cntP_le p n
  have hm0 : m = setP (fromP p 0) n := by rw [hm]; exact setP_congr (fun j _ => by simp [fromP])
  rw [← hm]
  have hmk : ∀ W, (Instr.makeSlice 22 (.int .i64 0) (.int .i64 (cntP p n : Nat))).run Tryd.prog W = .ok (.slice (some ⟨W.heap.size, 0, none⟩) 0 (cntP p n)) (W.alloc (.cells (madeCells #[.int .i64 0] (cntP p n * 1)) 3)) := fun W => by
    have h := run_make_rowN (P := Tryd.prog) 22 3 i0 _ Tryd.underlying22 hi0 hz0 .i64 .i64 0 (cntP p n) (Nat.zero_le _) (by rw [hz2]; omega) (by omega) W
    rw [hz1] at h
    exact h
  have HM := Lib.hid hm0
  have HD := Lib.hid hD
  have HA := Lib.hid ha
  clear hm hm0 hD ha
  go_enter Tryd.func27, Tryd.ntmps27
  go_wp2_with (first
    | (go_at_call 29; refine (ones_any m hm64 _).mono ?_; rintro e w' ⟨rfl, rfl⟩; rw [HA.out]))
  go_loopw [3, 4] (fun v r wr => MemRow p n w v r wr) (fun _ r _ => restOf r)
  case atStart => exact ⟨0, by omega, by rw [HM.out], World.ownsRow_made w _ (cntP p n) (Nat.le_refl _) (by simp only [maxLen]; omega) (by simp [madeCells]), (Below.refl _ _).alloc (Nat.le_refl _) _⟩
  case round =>
    obtain ⟨t, ht, rfl, hown, hb⟩ := hrel
    have HB := Lib.hid hb
    have HO := Lib.hid hown
    clear hb hown
    obtain ⟨x, hx⟩ : ∃ x, x = setP (fromP p t) n := ⟨_, rfl⟩
    have hx64 : x < 18446744073709551616 := by rw [hx]; exact setP_small _ hn
    by_cases hx0 : x = 0
    · have hd := lstP_done p ht (by rw [← hx]; exact hx0)
      have hcd : cntP p n = cntP p t := by rw [← lstP_length, ← lstP_length, hd]
      have hxe : ((x : Int) == 0) = true := by rw [hx0]; rfl
      rw [← hx]
      obtain ⟨A, c, rfl, hnums, hl⟩ := nums_of_row HO.out
      have HN := Lib.hid hnums
      have hob := row_block HO.out
      have HC := Lib.hid hcd
      have HL := Lib.hid hd
      clear hx hx0 hd hcd hnums hl
      go_wp2
      go_ret
      refine ⟨A, c, ?_, ?_, HB.out, fun x hx => hob x.block (by rw [hx]; rfl)⟩
      · rw [lstP_length, HC.out]; rfl
      · rw [lstP_length, HC.out, HL.out]; exact HN.out
    · have hk := rest_round p hn (t := t) (by rw [← hx]; exact hx0)
      rw [← hx] at hk ⊢
      obtain ⟨i, h1, h2, h3, h4, h5, h6⟩ := hk
      have hcx := cntP_le p i
      have hlt : cntP p t ≤ 64 := Nat.le_trans (cntP_le p t) (by omega)
      have hne : ((x : Int) == 0) = false := by simpa using hx0
      have has := and_step x hx0 hx64
      rw [h4] at has
      have hdrop : setP (fromP p (i + 1)) n < x := by
        rw [← h4]
        exact Nat.lt_of_le_of_lt Nat.and_le_right (by omega)
      have H3 := Lib.hid h3
      have H5 := Lib.hid h5
      have H6 := Lib.hid h6
      have HX := Lib.hid hx0
      have HAS := Lib.hid has
      have HDR : Hid (Db wr) := HD.out.next HB.out
      have hob := row_block HO.out
      clear h3 h4 h5 h6 hx hx0 has
      go_wp2_with (first
        | (go_at_call 35; refine (tz_any x hx64 HX.out _ HDR.out).mono ?_; rintro e w' ⟨rfl, rfl⟩; rw [H3.out])
        | (at_builtin; refine wpList_append_own _ rfl _ _ 22 rfl w.heap.size 3 i0 (.int .i64 0) 1 8 Tryd.underlying22 hi0 hz0 hz1 hz2 rfl (by decide) _ (cntP p t) (numL (lstP p t)) rfl (HO.out.alloc _) ⟨wr.heap.size, 0, none⟩ 1 1 [.int .i64 i] rfl rfl ?c1 (by simp [Value.oneCell']) (by simp only [maxLen]; omega) (by omega) ?c5 ?_))
      case c1 => exact one_news (by go_simp)
      case c5 => have := HB.out.size; simp; omega
      intro v' w1 hown' hgrow _
      have HN : Hid (w1.ownsRow w.heap.size 3 1 v' (cntP p (i + 1)) (numL (lstP p (i + 1)))) := by
        rw [H6.out, H5.out]
        have : numL (lstP p t ++ [i]) = numL (lstP p t) ++ [.int .i64 i] := by simp [numL]
        rw [this]
        exact hown'
      have HBN : Hid (Below w.heap.size w w1) := (HB.out.alloc HB.out.size _).grown hgrow (by simp; have := HB.out.size; omega) hob
      clear hown' hgrow hob
      go_wp2
      refine ⟨⟨i + 1, by omega, ?_, HN.out, HBN.out⟩, ?_⟩
      · rw [HAS.out]
      · rw [HAS.out]; simp [restOf, intOf]; omega

theorem members_any (p : Nat → Bool) (n : Nat) (w : World) (hn : n ≤ 64) (hD : Db w) :
    Calls Tryd.prog 27 #[.int .u64 (setP p n : Nat)] w (GivesNums (lstP p n) w) := (members_new p n w hn hD).mono fun _ _ h => h.nums

/-- The frames of an owner, ascending. -/
def ownL (F : Nat → Fr) (o : Int) (n : Nat) : List Nat := lstP (owB F o) n

theorem free_new (s : Int) (V1 : Value) (A' : Option Addr) (n c' : Nat) (F : Nat → Fr) (w : World) (hT : Tab w w.heap.size A' n c' F) (hn : n ≤ 64) (hD : Db w) :
    Calls Tryd.prog 10 #[.agg #[.int .i64 s, V1, .slice A' n c']] w (GivesNew (ownL F (-1) n) w) := by
  have HT := Lib.hid hT
  have HD := Lib.hid hD
  obtain ⟨U, hU⟩ : ∃ U, U = w.alloc (.cells #[.int .i64 s, V1, .slice A' n c'] 26) := ⟨_, rfl⟩
  have BU : Blk U w.heap.size 26 #[.int .i64 s, V1, .slice A' n c'] := by rw [hU]; exact Blk.new _ _ _
  have HBU : Hid (Below w.heap.size w U) := by rw [hU]; exact (Below.refl _ _).alloc (Nat.le_refl _) _
  have HU := Lib.hid hU
  have p0 := BU.cell 0
  have p1 := BU.cell 1
  have p2 := BU.cell 2
  simp at p0 p1 p2
  clear hT hD hU
  go_enter Tryd.func10, Tryd.ntmps10
  go_wp2_with (first
    | (go_at_call 28; rw [← HU.out]; refine (framesOf_any s V1 A' n c' F (-1) U (HT.out.next HBU.out) hn).mono ?_; rintro e w1 ⟨rfl, hb1⟩)
    | (go_at_call 27; refine (members_new (owB F (-1)) n w1 hn ((HD.out.next HBU.out).next hb1)).mono ?_; rintro e w2 ⟨A, c, rfl, h1, h2, h3⟩))
  have HB := Lib.hid (below_next (below_next HBU.out (Nat.le_refl _) hb1) (Nat.le_refl _) h2)
  have hs := (below_next HBU.out (Nat.le_refl _) hb1).size
  go_ret
  exact ⟨A, c, rfl, h1, HB.out, fun x hx => Nat.le_trans hs (h3 x hx)⟩
theorem free_any (s : Int) (V1 : Value) (A' : Option Addr) (n c' : Nat) (F : Nat → Fr) (w : World) (hT : Tab w w.heap.size A' n c' F) (hn : n ≤ 64) (hD : Db w) :
    Calls Tryd.prog 10 #[.agg #[.int .i64 s, V1, .slice A' n c']] w (GivesNums (ownL F (-1) n) w) := (free_new s V1 A' n c' F w hT hn hD).mono fun _ _ h => h.nums

set_option maxHeartbeats 1000000 in
theorem used_any (s : Int) (V1 : Value) (A' : Option Addr) (n c' : Nat) (F : Nat → Fr) (w : World) (hT : Tab w w.heap.size A' n c' F) (hn : n ≤ 64) :
    Calls Tryd.prog 12 #[.agg #[.int .i64 s, V1, .slice A' n c']] w fun e w' => e = .returned (.int .i64 ((n - cntP (owB F (-1)) n : Nat) : Int)) ∧ Below w.heap.size w w' := by
  have hcn := cntP_le (owB F (-1)) n
  have HS := Lib.hid (bitsT_all (owB F (-1)) hn)
  have hsm := setP_small (owB F (-1)) hn
  obtain ⟨U, hU⟩ : ∃ U, U = w.alloc (.cells #[.int .i64 s, V1, .slice A' n c'] 26) := ⟨_, rfl⟩
  have BU : Blk U w.heap.size 26 #[.int .i64 s, V1, .slice A' n c'] := by rw [hU]; exact Blk.new _ _ _
  have HBU : Hid (Below w.heap.size w U) := by rw [hU]; exact (Below.refl _ _).alloc (Nat.le_refl _) _
  have HTU : Hid (Tab U U.heap.size A' n c' F) := hT.next HBU.out
  have HTD : Hid (Tab U.drew U.drew.heap.size A' n c' F) := HTU.out
  have HU := Lib.hid hU
  have p0 := BU.cell 0
  have p1 := BU.cell 1
  have p2 := BU.cell 2
  simp at p0 p1 p2
  have z1 : w.heap.size < U.heap.size := BU.lt
  clear hT hU
  go_enter Tryd.func12, Tryd.ntmps12
  go_wp2
  rw [← HU.out]
  go_region_held3 (fun w' => w'.cell? ⟨w.heap.size, 0, none⟩ = some (.int .i64 s) ∧ w'.cell? ⟨w.heap.size, 1, none⟩ = some V1 ∧ w'.cell? ⟨w.heap.size, 2, none⟩ = some (.slice A' n c'))
    (first | exact ⟨p0, p1, p2⟩ | exact ⟨a0, a1, a2⟩ | go_keep)
    (first
      | (go_at_call 28; refine (framesOf_any s V1 A' n c' F (-1) _ HTD.out hn).mono ?_; rintro e wa ⟨rfl, hba⟩; have a0 := (hba.cell (p := ⟨w.heap.size, 0, none⟩) z1).trans p0; have a1 := (hba.cell (p := ⟨w.heap.size, 1, none⟩) z1).trans p1; have a2 := (hba.cell (p := ⟨w.heap.size, 2, none⟩) z1).trans p2)
      | (go_at_call 29; refine (ones_any _ hsm _).mono ?_; rintro e w' ⟨rfl, rfl⟩; rw [HS.out]))
  have hud : Below w.heap.size w U.drew := HBU.out.drew
  have HB := Lib.hid (below_next hud (Nat.le_refl _) hba)
  have HW : Hid (IntKind.i64.wrap ((n : Int) - (cntP (owB F (-1)) n : Nat)) = ((n - cntP (owB F (-1)) n : Nat) : Int)) := by
    have h : IntKind.i64.wrap ((n : Int) - (cntP (owB F (-1)) n : Nat)) = ((n - cntP (owB F (-1)) n : Nat) : Int) := by rw [IntKind.wrap_i64]; omega
    exact Lib.hid h
  go_wp2
  go_ret
  exact ⟨ret_i64 HW.out, HB.out⟩
end Go.Proofs.YtpjhgdgdckndeaaDoor
