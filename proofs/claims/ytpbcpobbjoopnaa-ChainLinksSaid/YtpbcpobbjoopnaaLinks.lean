/-
  The walk of ChainLinks.
-/
import Derived.Test.YtpbcpobbjoopnaaRlnk
import Derived.Test.YtpbcpobbjoopnaaTakes0
import Derived.Deep.RegionHeld3
import Derived.Deep.DeepCutAuto
import Derived.Deep.CutBlock
namespace Go.Proofs.Ytpbcpobbjoopnaa
open Go.RowKit
set_option maxRecDepth 100000
set_option linter.unusedVariables false

/-- The j-th space of a slice of spaces in block Q, not too great. -/
def ZAt5 (W : World) (Q j : Nat) : Prop := ∃ (s : Int) (A : Option Addr) (nw c : Nat) (A' : Option Addr) (n c' : Nat), nw ≤ 20000 ∧ n ≤ 80 ∧ W.cell? ⟨Q, j * 3, none⟩ = some (.int .i64 s) ∧ W.cell? ⟨Q, j * 3 + 1, none⟩ = some (.slice A nw c) ∧ W.cell? ⟨Q, j * 3 + 2, none⟩ = some (.slice A' n c') ∧ YV W s A nw c A' n c'
theorem zat4 {w X L : World} {s0 s1 s2 s3 : Int} {A0 A1 A2 A3 A0' A1' A2' A3' : Option Addr} {n0 n1 n2 n3 c0 c1 c2 c3 m0 m1 m2 m3 d0 d1 d2 d3 : Nat} (hX : Below w.heap.size w X) (hc : Below X.heap.size X L)
    (v0 : YV L s0 A0 n0 c0 A0' m0 d0) (v1 : YV L s1 A1 n1 c1 A1' m1 d1) (v2 : YV L s2 A2 n2 c2 A2' m2 d2) (v3 : YV L s3 A3 n3 c3 A3' m3 d3)
    (b0 : n0 ≤ 20000 ∧ m0 ≤ 80) (b1 : n1 ≤ 20000 ∧ m1 ≤ 80) (b2 : n2 ≤ 20000 ∧ m2 ≤ 80) (b3 : n3 ≤ 20000 ∧ m3 ≤ 80) :
    (∀ j, j < 4 → ZAt5 (L.alloc (.cells #[.int .i64 s0, .slice A0 n0 c0, .slice A0' m0 d0, .int .i64 s1, .slice A1 n1 c1, .slice A1' m1 d1, .int .i64 s2, .slice A2 n2 c2, .slice A2' m2 d2, .int .i64 s3, .slice A3 n3 c3, .slice A3' m3 d3] 25)) L.heap.size j) ∧
      L.heap.size < (L.alloc (.cells #[.int .i64 s0, .slice A0 n0 c0, .slice A0' m0 d0, .int .i64 s1, .slice A1 n1 c1, .slice A1' m1 d1, .int .i64 s2, .slice A2 n2 c2, .slice A2' m2 d2, .int .i64 s3, .slice A3 n3 c3, .slice A3' m3 d3] 25)).heap.size ∧
      Below w.heap.size w (L.alloc (.cells #[.int .i64 s0, .slice A0 n0 c0, .slice A0' m0 d0, .int .i64 s1, .slice A1 n1 c1, .slice A1' m1 d1, .int .i64 s2, .slice A2 n2 c2, .slice A2' m2 d2, .int .i64 s3, .slice A3 n3 c3, .slice A3' m3 d3] 25)) := by
  obtain ⟨W, hW⟩ : ∃ W, W = L.alloc (.cells #[.int .i64 s0, .slice A0 n0 c0, .slice A0' m0 d0, .int .i64 s1, .slice A1 n1 c1, .slice A1' m1 d1, .int .i64 s2, .slice A2 n2 c2, .slice A2' m2 d2, .int .i64 s3, .slice A3 n3 c3, .slice A3' m3 d3] 25) := ⟨_, rfl⟩
  have hbw : Below L.heap.size L W := by rw [hW]; exact (Below.refl _ _).alloc (Nat.le_refl _) _
  have hq : Blk W L.heap.size 25 #[.int .i64 s0, .slice A0 n0 c0, .slice A0' m0 d0, .int .i64 s1, .slice A1 n1 c1, .slice A1' m1 d1, .int .i64 s2, .slice A2 n2 c2, .slice A2' m2 d2, .int .i64 s3, .slice A3 n3 c3, .slice A3' m3 d3] := by rw [hW]; exact Blk.new _ _ _
  rw [← hW]
  refine ⟨fun j hj => ?_, hq.lt, below_next (below_next hX (Nat.le_refl _) hc) (Nat.le_refl _) hbw⟩
  rcases (by omega : j = 0 ∨ j = 1 ∨ j = 2 ∨ j = 3) with e | e | e | e <;> subst e
  · exact ⟨_, _, _, _, _, _, _, b0.1, b0.2, hq.cell 0, hq.cell 1, hq.cell 2, v0.next hbw⟩
  · exact ⟨_, _, _, _, _, _, _, b1.1, b1.2, hq.cell 3, hq.cell 4, hq.cell 5, v1.next hbw⟩
  · exact ⟨_, _, _, _, _, _, _, b2.1, b2.2, hq.cell 6, hq.cell 7, hq.cell 8, v2.next hbw⟩
  · exact ⟨_, _, _, _, _, _, _, b3.1, b3.2, hq.cell 9, hq.cell 10, hq.cell 11, v3.next hbw⟩

/-- Two pairs of numbers. -/
def Twos (W : World) (Q : Nat) : Prop := ∀ l, l < 2 → ∃ (b : Nat) (x y : Int), b < W.heap.size ∧ W.cell? ⟨Q, l, none⟩ = some (.slice (some ⟨b, 0, none⟩) 2 2) ∧ W.cell? ⟨b, 0, none⟩ = some (.int .i64 x) ∧ W.cell? ⟨b, 1, none⟩ = some (.int .i64 y)
theorem two1 {P0 : World} {S : Nat} {a b x y : Int} (hs : P0.heap.size = S) :
    Twos (((P0.alloc (.cells #[.int .i64 a, .int .i64 b] 3)).alloc (.cells #[.int .i64 x, .int .i64 y] 3)).alloc (.cells #[.slice (some ⟨S, 0, none⟩) 2 2, .slice (some ⟨S + 1, 0, none⟩) 2 2] 26)).drew (S + 1 + 1) ∧ S + 1 + 1 < (((P0.alloc (.cells #[.int .i64 a, .int .i64 b] 3)).alloc (.cells #[.int .i64 x, .int .i64 y] 3)).alloc (.cells #[.slice (some ⟨S, 0, none⟩) 2 2, .slice (some ⟨S + 1, 0, none⟩) 2 2] 26)).drew.heap.size ∧ Below P0.heap.size P0 (((P0.alloc (.cells #[.int .i64 a, .int .i64 b] 3)).alloc (.cells #[.int .i64 x, .int .i64 y] 3)).alloc (.cells #[.slice (some ⟨S, 0, none⟩) 2 2, .slice (some ⟨S + 1, 0, none⟩) 2 2] 26)).drew := by
  subst hs
  obtain ⟨P, hP⟩ : ∃ P, P = (((P0.alloc (.cells #[.int .i64 a, .int .i64 b] 3)).alloc (.cells #[.int .i64 x, .int .i64 y] 3)).alloc (.cells #[.slice (some ⟨P0.heap.size, 0, none⟩) 2 2, .slice (some ⟨P0.heap.size + 1, 0, none⟩) 2 2] 26)).drew := ⟨_, rfl⟩
  have b1 : Blk P P0.heap.size 3 #[.int .i64 a, .int .i64 b] := by rw [hP]; exact ((Blk.new P0 _ _).alloc _).alloc _
  have b2 : Blk P (P0.heap.size + 1) 3 #[.int .i64 x, .int .i64 y] := by rw [hP]; exact (Blk.newAt _ _ _ _ (by simp)).alloc _
  have b3 : Blk P (P0.heap.size + 1 + 1) 26 #[.slice (some ⟨P0.heap.size, 0, none⟩) 2 2, .slice (some ⟨P0.heap.size + 1, 0, none⟩) 2 2] := by rw [hP]; exact Blk.newAt _ _ _ _ (by simp)
  rw [← hP]
  refine ⟨fun l hl => ?_, b3.lt, by rw [hP]; exact ((((Below.refl _ _).alloc (Nat.le_refl _) _).alloc (by simp) _).alloc (by simp; omega) _).drew⟩
  rcases (by omega : l = 0 ∨ l = 1) with e | e <;> subst e
  · exact ⟨_, a, b, b1.lt, b3.cell 0, b1.cell 0, b1.cell 1⟩
  · exact ⟨_, x, y, b2.lt, b3.cell 1, b2.cell 0, b2.cell 1⟩
theorem two2 {P0 : World} {S : Nat} {a b x y : Int} (hs : P0.heap.size = S) :
    Twos (((P0.alloc (.cells #[.int .i64 x, .int .i64 y] 3)).alloc (.cells #[.int .i64 a, .int .i64 b] 3)).alloc (.cells #[.slice (some ⟨S + 1, 0, none⟩) 2 2, .slice (some ⟨S, 0, none⟩) 2 2] 26)).drew (S + 1 + 1) ∧ S + 1 + 1 < (((P0.alloc (.cells #[.int .i64 x, .int .i64 y] 3)).alloc (.cells #[.int .i64 a, .int .i64 b] 3)).alloc (.cells #[.slice (some ⟨S + 1, 0, none⟩) 2 2, .slice (some ⟨S, 0, none⟩) 2 2] 26)).drew.heap.size ∧ Below P0.heap.size P0 (((P0.alloc (.cells #[.int .i64 x, .int .i64 y] 3)).alloc (.cells #[.int .i64 a, .int .i64 b] 3)).alloc (.cells #[.slice (some ⟨S + 1, 0, none⟩) 2 2, .slice (some ⟨S, 0, none⟩) 2 2] 26)).drew := by
  subst hs
  obtain ⟨P, hP⟩ : ∃ P, P = (((P0.alloc (.cells #[.int .i64 x, .int .i64 y] 3)).alloc (.cells #[.int .i64 a, .int .i64 b] 3)).alloc (.cells #[.slice (some ⟨P0.heap.size + 1, 0, none⟩) 2 2, .slice (some ⟨P0.heap.size, 0, none⟩) 2 2] 26)).drew := ⟨_, rfl⟩
  have b1 : Blk P P0.heap.size 3 #[.int .i64 x, .int .i64 y] := by rw [hP]; exact ((Blk.new P0 _ _).alloc _).alloc _
  have b2 : Blk P (P0.heap.size + 1) 3 #[.int .i64 a, .int .i64 b] := by rw [hP]; exact (Blk.newAt _ _ _ _ (by simp)).alloc _
  have b3 : Blk P (P0.heap.size + 1 + 1) 26 #[.slice (some ⟨P0.heap.size + 1, 0, none⟩) 2 2, .slice (some ⟨P0.heap.size, 0, none⟩) 2 2] := by rw [hP]; exact Blk.newAt _ _ _ _ (by simp)
  rw [← hP]
  refine ⟨fun l hl => ?_, b3.lt, by rw [hP]; exact ((((Below.refl _ _).alloc (Nat.le_refl _) _).alloc (by simp) _).alloc (by simp; omega) _).drew⟩
  rcases (by omega : l = 0 ∨ l = 1) with e | e <;> subst e
  · exact ⟨_, a, b, b2.lt, b3.cell 0, b2.cell 0, b2.cell 1⟩
  · exact ⟨_, x, y, b1.lt, b3.cell 1, b1.cell 0, b1.cell 1⟩
theorem drew_cell5 {w : World} {p : Addr} {v : Value} (h : w.cell? p = some v) : w.drew.cell? p = some v := h

/-- A new space and an error. -/
def GivesS2 (s : Int) (nw n : Nat) (wd : Nat → Int) (F : Nat → Fr) (x : Int) (w : World) (e : Ending) (w' : World) : Prop :=
  ∃ (A : Option Addr) (c : Nat) (A' : Option Addr) (c' : Nat), e = .returned (.tuple #[.agg #[.int .i64 s, .slice A nw c, .slice A' n c'], .int .i64 x]) ∧ Own w' w.heap.size A nw c wd ∧ OwnT w' w.heap.size A' n c' F ∧ Below w.heap.size w w'
theorem lnk_val (s : Int) (nw : Nat) (wd : Nat → Int) (n : Nat) (F : Nat → Fr) (l f : Int) : ∃ (s' : Int) (nw' n' : Nat) (wd' : Nat → Int) (F' : Nat → Fr) (x : Int), nw' ≤ 1048576 ∧ n' ≤ 4096 ∧ ∀ w e w', LnkOut s nw wd n F l f w e w' → GivesS2 s' nw' n' wd' F' x w e w' := by
  by_cases h : lnkE s nw wd n F l f = 0
  · have hv : ValidP s nw wd n F := by
      cases e : validB s nw wd n F
      · unfold lnkE at h; rw [if_pos e] at h; exact absurd h (by decide)
      · exact validB_of e
    obtain ⟨n0, n64, w0, w20⟩ := take_bounds hv
    refine ⟨s, nw, n, wd, link F l.toNat f, 0, by omega, by omega, fun w e w' ht => ?_⟩
    rcases ht with ⟨x, h1, h2, _⟩ | ⟨_, A1, c1, g, c2, he, h1, h2, h3⟩
    · exact absurd (h1.symm.trans h) h2
    · exact ⟨A1, c1, _, c2, he, h1, h2, h3⟩
  · refine ⟨0, 0, 0, fun _ => 0, fun _ => frFree, lnkE s nw wd n F l f, by decide, by decide, fun w e w' ht => ?_⟩
    rcases ht with ⟨x, h1, h2, he, h3⟩ | ⟨h1, _⟩
    · subst h1
      exact ⟨none, 0, none, 0, he, Own.nil_ _ _ _, OwnT.nil_ _ _ _, h3⟩
    · exact absurd h1 h

/-- At the head of the loop that takes frames: the box bt holds a space of the same measures. -/
def LinksAt (w : World) (s : Int) (A : Option Addr) (nw c : Nat) (A' : Option Addr) (n c' : Nat) (K : Int) (mk m bt : Nat) (i : Value) (wr : World) : Prop :=
  ∃ (k : Nat) (Bj : Option Addr) (dj : Nat) (Gt : Option Addr) (ej : Nat) (wdj : Nat → Int) (Fj : Nat → Fr), k ≤ 3 ∧ i = .int .i64 k ∧ Blk wr bt 25 #[.int .i64 K, .slice Bj mk dj, .slice Gt m ej] ∧ Arr wr wr.heap.size Bj mk dj wdj ∧ Tab wr wr.heap.size Gt m ej Fj ∧
    Blk wr w.heap.size 25 #[.int .i64 s, .slice A nw c, .slice A' n c'] ∧ Below w.heap.size w wr

set_option maxHeartbeats 16000000 in
theorem walkLinks (s : Int) (A A' : Option Addr) (nw c n c' : Nat) (wd0 : Nat → Int) (F0' : Nat → Fr) (Al : Option Addr) (nl cl : Nat) (a b_ what at_ by_ : Int) (w : World) (hA : Arr w w.heap.size A nw c wd0) (hT : Tab w w.heap.size A' n c' F0') (hL : ListP w w.heap.size Al nl cl)
    (a0 : -9223372036854775808 ≤ a) (a1 : a ≤ 9223372036854775807) (b0 : -9223372036854775808 ≤ b_) (b1 : b_ ≤ 9223372036854775807) (c0 : -9223372036854775808 ≤ what) (c1 : what ≤ 9223372036854775807) (d0 : -9223372036854775808 ≤ at_) (d1 : at_ ≤ 9223372036854775807) (e0 : -9223372036854775808 ≤ by_) (e1 : by_ ≤ 9223372036854775807) :
    Calls Try.prog 3 #[.agg #[.int .i64 s, .slice A nw c, .slice A' n c'], .slice Al nl cl, .int .i64 a, .int .i64 b_, .int .i64 what, .int .i64 at_, .int .i64 by_] w fun e w' => e = .returned (.bool true) ∧ Below w.heap.size w w' := by
  obtain ⟨U, hU⟩ : ∃ U, U = w.alloc (.cells #[.int .i64 s, .slice A nw c, .slice A' n c'] 25) := ⟨_, rfl⟩
  have BX := Lib.hid (show Blk U w.heap.size 25 #[.int .i64 s, .slice A nw c, .slice A' n c'] by rw [hU]; exact Blk.new _ _ _)
  have hbu : Below w.heap.size w U := by rw [hU]; exact (Below.refl _ _).alloc (Nat.le_refl _) _
  have HBU := Lib.hid hbu
  have HU := Lib.hid hU
  have HL := Lib.hid (hL.next hbu)
  have HA0 := Lib.hid hA
  have HT0 := Lib.hid hT
  clear hL hU hbu hA hT
  go_enter Try.func3, Try.ntmps3
  go_wp2_with fail
  rw [← HU.out]
  refine (small_any s A A' nw c n c' U).mono ?_
  rintro e U1 ⟨rfl, hb⟩
  have BX1 := Lib.hid (BX.out.next hb)
  have HBU1 := Lib.hid (below_next HBU.out (Nat.le_refl _) hb)
  have HL1 := Lib.hid (HL.out.next hb)
  clear hb BX HBU HL HU
  obtain ⟨sm, hsm, hn⟩ : ∃ b, (decide (nw ≤ 3000) && decide (n ≤ 80)) = b ∧ (b = true → nw ≤ 3000 ∧ n ≤ 80) := ⟨_, rfl, by simp⟩
  rw [hsm]
  clear hsm
  rcases sm with _ | _
  · go_wp2_with (go_at_call 8; refine (awake5_any _).mono ?_; rintro e w6 ⟨rfl, b6⟩; have HB6 := Lib.hid b6; clear b6)
    go_ret
    exact ⟨rfl, below_next HBU1.out (Nat.le_refl _) HB6.out⟩
  · have hnb := hn rfl
    clear hn
    go_wp2_with fail
    refine (deck_any Al nl cl U1 HL1.out).mono ?_
    rintro e U2 ⟨rfl, hd, hb, hz⟩
    have HDK := Lib.hid hd
    have BX2 := Lib.hid (BX1.out.next hb)
    have HBU2 := Lib.hid (below_next HBU1.out (Nat.le_refl _) hb)
    have zz := BX1.out.lt
    clear hd hb BX1 HBU1 HL1
    go_wp2_with fail
    refine (space_any U1.heap.size U2 HDK.out).mono ?_
    rintro e U3 ⟨k, m, B, d, gb, d', wd, F, L, rfl, k0, k1, m0, m1, hoA, hoT, _, _, hG⟩
    have BX3 := Lib.hid (BX2.out.turn hG (by omega))
    have HBU3 := Lib.hid (below_turn HBU2.out hG (by omega))
    have HA3 := Lib.hid hoA.arr
    have HT3 := Lib.hid hoT.tab
    have hmk0 : 0 < m * 2 ^ k := Nat.mul_pos (by omega) (Nat.two_pow_pos k)
    have hmk1 : m * 2 ^ k ≤ 16384 := prod_le (by omega) (by omega)
    obtain ⟨mk, hmk⟩ : ∃ mk, mk = m * 2 ^ k := ⟨_, rfl⟩
    rw [← hmk] at HA3 hmk0 hmk1 ⊢
    clear hG BX2 HBU2 HDK hz hoA hoT hmk
    go_wp2_with fail
    obtain ⟨V, hV⟩ : ∃ V, V = (U3.alloc (.cells #[.int .i64 k, .slice B mk d, .slice (some ⟨gb, 0, none⟩) m d'] 25)).alloc (.cells #[.int .i64 k, .slice B mk d, .slice (some ⟨gb, 0, none⟩) m d'] 25) := ⟨_, rfl⟩
    have hbv : Below U3.heap.size U3 V := by rw [hV]; exact ((Below.refl _ _).alloc (Nat.le_refl _) _).alloc (by simp) _
    have BY := Lib.hid (show Blk V (U3.heap.size + 1) 25 #[.int .i64 k, .slice B mk d, .slice (some ⟨gb, 0, none⟩) m d'] by rw [hV]; exact Blk.newAt _ _ _ _ (by simp))
    have BX4 := Lib.hid (BX3.out.next hbv)
    have HBV := Lib.hid (below_next HBU3.out (Nat.le_refl _) hbv)
    have hwu : w.heap.size < U3.heap.size := BX3.out.lt
    have HR0 := Lib.hid (show ∀ W, Below w.heap.size w W → YV W s A nw c A' n c' from fun W h => ⟨wd0, F0', (HA0.out.below h).more h.size, (HT0.out.below h).more h.size⟩)
    have ST := Lib.hid (show LinksAt w s A nw c A' n c' k mk m (U3.heap.size + 1) (.int .i64 0) V from ⟨0, B, d, some ⟨gb, 0, none⟩, d', wd, F, Nat.zero_le _, rfl, BY.out, HA3.out.next hbv, HT3.out.next hbv, BX4.out, HBV.out⟩)
    rw [← hV]
    obtain ⟨bt, hbt⟩ : ∃ b, b = U3.heap.size + 1 := ⟨_, rfl⟩
    rw [← hbt] at ST ⊢
    have hwt : w.heap.size < bt := by omega
    have hm0 : 0 < m := by omega
    have hm64 : m ≤ 10 := by omega
    clear hV hbv BX3 HBU3 HA3 HT3 HA0 HT0 BY BX4 HBV hbt
    go_loopw [18] (fun i wr => LinksAt w s A nw c A' n c' k mk m bt i wr) (fun i _ => 3 - (intOf i).toNat)
    case atStart => exact ST.out
    case round =>
      obtain ⟨R, rfl⟩ : ∃ R, R = wr := ⟨_, rfl⟩
      obtain ⟨i, Bj, dj, Gt, ej, wdj, Fj, hi, rfl, hbb, haj, htj, hbr, hbw⟩ := hrel
      have q0 := hbb.cell 0
      have q1 := hbb.cell 1
      have q2 := hbb.cell 2
      have qz := hbb.lt
      simp at q0 q1 q2
      have BT := Lib.hid hbb
      have HA := Lib.hid haj
      have HT := Lib.hid htj
      have BRW := Lib.hid hbr
      have HB := Lib.hid hbw
      clear hbb haj htj hbr hbw
      by_cases hlt : i < 3
      · have hlt2 : (i : Int) < 3 := by omega
        by_cases hte : takeE k mk wdj m Fj 50 1 = 0
        · obtain ⟨hvj, hcj, _, _⟩ := takeE_zero hte
          obtain ⟨lf, hlf, _⟩ := least_of (show m ≤ 64 by omega) hcj
          have HTE := Lib.hid hte
          have HLF := Lib.hid hlf
          clear hte hvj hcj hlf
          go_upto_region 9 with (go_at_call 11; refine ((refTake_any k Bj Gt mk dj m ej wdj Fj 50 1 R HA.out HT.out).mono (fun e w' h => h.yes HTE.out HLF.out)).mono ?_; rintro e wn ⟨A1, c1', g1, e1', rfl, ho, ht, hb⟩)
          obtain ⟨W, hW⟩ : ∃ W, W = wn.alloc (.cells #[.int .i64 k, .slice A1 mk c1', .slice (some ⟨g1, 0, none⟩) m e1'] 25) := ⟨_, rfl⟩
          have hbw : Below wn.heap.size wn W := by rw [hW]; exact (Below.refl _ _).alloc (Nat.le_refl _) _
          have BN := Lib.hid (show Blk W wn.heap.size 25 #[.int .i64 k, .slice A1 mk c1', .slice (some ⟨g1, 0, none⟩) m e1'] by rw [hW]; exact Blk.new _ _ _)
          have hbW := below_next hb (Nat.le_refl _) hbw
          have BT2 := Lib.hid (BT.out.next hbW)
          have BRW2 := Lib.hid (BRW.out.next hbW)
          have HO := Lib.hid (ho.below hbw)
          have HTN := Lib.hid (ht.below hbw)
          have HB2 := Lib.hid (below_next HB.out (Nat.le_refl _) hbW)
          have r0 := BN.out.cell 0
          have r1 := BN.out.cell 1
          have r2 := BN.out.cell 2
          have rz := BN.out.lt
          have t0 := BT2.out.cell 0
          have t1 := BT2.out.cell 1
          have t2 := BT2.out.cell 2
          have t3 := BT2.out.frozen 0
          have t4 := BT2.out.frozen 1
          have t5 := BT2.out.frozen 2
          have tz := BT2.out.lt
          simp at r0 r1 r2 t0 t1 t2
          have NX := Lib.hid (show LinksAt w s A nw c A' n c' k mk m bt (.int .i64 ((i : Int) + 1)) (((W.setCell ⟨bt, 0, none⟩ (.int .i64 k)).setCell ⟨bt, 1, none⟩ (.slice A1 mk c1')).setCell ⟨bt, 2, none⟩ (.slice (some ⟨g1, 0, none⟩) m e1')) from
            ⟨i + 1, A1, c1', _, e1', _, _, by omega, by go_num, BT2.out.set3 _ _ _, (HO.out.put3 qz _ _ _).arr, (HTN.out.put3 qz _ _ _).tab, BRW2.out.far3 (Nat.ne_of_lt hwt) _ _ _, below_put3 HB2.out (Nat.le_of_lt hwt) _ _ _⟩)
          have HW := Lib.hid hW
          clear hW hbw hb ho ht hbW q0 q1 q2
          rw [← HW.out]
          go_wp2
          exact ⟨NX.out, by simp [intOf]; omega⟩
        · obtain ⟨x, hx⟩ : ∃ x, takeE k mk wdj m Fj 50 1 = x := ⟨_, rfl⟩
          have hx0 : x ≠ 0 := by rw [← hx]; exact hte
          have hxq : (x == 0) = false := by simpa using hx0
          have HTE := Lib.hid hx
          have HX0 := Lib.hid hx0
          clear hte hx hx0
          go_upto_region 9 with (go_at_call 11; refine ((refTake_any k Bj Gt mk dj m ej wdj Fj 50 1 R HA.out HT.out).mono (fun e w' h => h.err HTE.out HX0.out)).mono ?_; rintro e wn ⟨A1, c1', A1', e1', rfl, _, _, hb⟩)
          obtain ⟨W, hW⟩ : ∃ W, W = wn.alloc (.cells #[.int .i64 0, .slice A1 0 c1', .slice A1' 0 e1'] 25) := ⟨_, rfl⟩
          have hbw : Below wn.heap.size wn W := by rw [hW]; exact (Below.refl _ _).alloc (Nat.le_refl _) _
          have hbW := below_next hb (Nat.le_refl _) hbw
          have NX := Lib.hid (show LinksAt w s A nw c A' n c' k mk m bt (.int .i64 ((i : Int) + 1)) W from
            ⟨i + 1, Bj, dj, Gt, ej, wdj, Fj, by omega, by go_num, BT.out.next hbW, HA.out.next hbW, HT.out.next hbW, BRW.out.next hbW, below_next HB.out (Nat.le_refl _) hbW⟩)
          have HW := Lib.hid hW
          clear hW hbw hb hbW q0 q1 q2
          rw [← HW.out]
          go_wp2
          exact ⟨NX.out, by simp [intOf]; omega⟩
      · have hlt2 : ¬ (i : Int) < 3 := by omega
        have p0 := BRW.out.cell 0
        have p1 := BRW.out.cell 1
        have p2 := BRW.out.cell 2
        have zx := BRW.out.lt
        simp at p0 p1 p2
        have hc : Below R.drew.heap.size R.drew R.drew := Below.refl _ _
        have v0 : YV R.drew s A nw c A' n c' := HR0.out R HB.out
        have v1 : YV R.drew k Bj mk dj Gt m ej := ⟨wdj, Fj, HA.out, HT.out⟩
        have HBD := Lib.hid (show Below w.heap.size w R.drew from HB.out.drew)
        have q0d : R.drew.cell? ⟨bt, 0, none⟩ = some (.int .i64 k) := q0
        have q1d : R.drew.cell? ⟨bt, 1, none⟩ = some (.slice Bj mk dj) := q1
        have q2d : R.drew.cell? ⟨bt, 2, none⟩ = some (.slice Gt m ej) := q2
        have p0d : R.drew.cell? ⟨w.heap.size, 0, none⟩ = some (.int .i64 s) := p0
        have p1d : R.drew.cell? ⟨w.heap.size, 1, none⟩ = some (.slice A nw c) := p1
        have p2d : R.drew.cell? ⟨w.heap.size, 2, none⟩ = some (.slice A' n c') := p2
        have qzd : bt < R.drew.heap.size := qz
        have zxd : w.heap.size < R.drew.heap.size := zx
        have HSA := Lib.hid (show Arr R.drew R.drew.heap.size Bj mk dj wdj from HA.out)
        have HST := Lib.hid (show Tab R.drew R.drew.heap.size Gt m ej Fj from HT.out)
        clear q0 q1 q2 p0 p1 p2 qz zx
        go_upto_region 11 with fail
        go_cut [66, 67, 68] (fun q l i wx => l = .int .i64 4 ∧ i = .int .i64 0 ∧ ∃ Q, q = .slice (some ⟨Q, 0, none⟩) 4 4 ∧ (∀ j, j < 4 → ZAt5 wx Q j) ∧ Q < wx.heap.size ∧ Below w.heap.size w wx)
        case first =>
          go_region_held3 (fun w' => w'.cell? ⟨w.heap.size, 0, none⟩ = some (.int .i64 s) ∧ w'.cell? ⟨w.heap.size, 1, none⟩ = some (.slice A nw c) ∧ w'.cell? ⟨w.heap.size, 2, none⟩ = some (.slice A' n c') ∧ w'.cell? ⟨bt, 0, none⟩ = some (.int .i64 k) ∧ w'.cell? ⟨bt, 1, none⟩ = some (.slice Bj mk dj) ∧ w'.cell? ⟨bt, 2, none⟩ = some (.slice Gt m ej))
            (first | (with_reducible exact ⟨p0d, p1d, p2d, q0d, q1d, q2d⟩) | (with_reducible exact ⟨(hc.cell (p := ⟨_, 0, none⟩) zxd).trans p0d, (hc.cell (p := ⟨_, 1, none⟩) zxd).trans p1d, (hc.cell (p := ⟨_, 2, none⟩) zxd).trans p2d, (hc.cell (p := ⟨_, 0, none⟩) qzd).trans q0d, (hc.cell (p := ⟨_, 1, none⟩) qzd).trans q1d, (hc.cell (p := ⟨_, 2, none⟩) qzd).trans q2d⟩) | go_keep)
            (first
              | (go_at_call 12; refine (spoilt_any k Bj Gt mk dj m ej wdj Fj what at_ by_ _ (HSA.out.next hc) (HST.out.next hc) (by omega) hm0 (by omega) hmk0 c0 c1 d0 d1 e0 e1).mono ?_; rintro e wq ⟨k1, nw1, c1', g1, c1'', A1, wd1, F1, rfl, lo, hi', ho, ht, hb⟩; have hc := below_next hc (Nat.le_refl _) hb; have v2 : YV wq k1 A1 nw1 c1' (some ⟨g1, 0, none⟩) m c1'' := ⟨_, _, ho.arr, ht.tab⟩; have v0 := v0.next hb; have v1 := v1.next hb; (try have v3 := v3.next hb))
              | (go_at_call 13; refine (pair5_any _).mono ?_; rintro e wp ⟨A5, c5, g5, c5', rfl, ho5, ht5, hb5⟩; have hc := below_next hc (Nat.le_refl _) hb5; have v3 : YV wp 3 A5 32 c5 (some ⟨g5, 0, none⟩) 4 c5' := ⟨_, _, ho5.arr, ht5.tab⟩; have v0 := v0.next hb5; have v1 := v1.next hb5; (try have v2 := v2.next hb5)))
          all_goals
            have Z := Lib.hid (zat4 HBD.out hc v1 v0 v2 v3 ⟨by omega, by omega⟩ ⟨by omega, by omega⟩ ⟨by omega, by omega⟩ ⟨by decide, by decide⟩)
            clear hc v0 v1 v2 v3
            go_wp2
            go_meet
            exact ⟨rfl, rfl, _, rfl, Z.out⟩
        case rest =>
          obtain ⟨C0, rfl⟩ : ∃ C0, C0 = wc := ⟨_, rfl⟩
          obtain ⟨rfl, rfl, Q, rfl, hZA, hQ, hB⟩ := hcut
          have HZA := Lib.hid hZA
          have HBC := Lib.hid hB
          clear hZA hB hc v0 v1 HBD p0d p1d p2d q0d q1d q2d qzd zxd HSA HST BT HA HT BRW HB HR0 hwt hm0 hm64 hmk0 hmk1
          go_wp2_with fail
          go_loopw [68] (fun i wr => ∃ j : Nat, j ≤ 4 ∧ i = .int .i64 j ∧ Below C0.heap.size C0 wr) (fun i _ => 4 - (intOf i).toNat)
          case atStart => exact ⟨0, Nat.zero_le _, rfl, Below.refl _ _⟩
          case round =>
            obtain ⟨R2, rfl⟩ : ∃ R2, R2 = wr := ⟨_, rfl⟩
            obtain ⟨j, hj, rfl, hb⟩ := hrel
            by_cases hlt : j < 4
            · obtain ⟨s, A, nw, c, A', n, c', hbnw, hbn, x0, x1, x2, hv⟩ := HZA.out j hlt
              have x0' := (hb.cell (p := ⟨Q, j * 3, none⟩) hQ).trans x0
              have x1' := (hb.cell (p := ⟨Q, j * 3 + 1, none⟩) hQ).trans x1
              have x2' := (hb.cell (p := ⟨Q, j * 3 + 2, none⟩) hQ).trans x2
              have zQ : Q < R2.heap.size := Nat.lt_of_lt_of_le hQ hb.size
              obtain ⟨wd, F, hva, hvt⟩ := hv.next hb
              have hj2 : 0 ≤ (j : Int) ∧ (j : Int) < 4 := by omega
              obtain ⟨P0, hP0⟩ : ∃ P, P = R2.alloc (.cells #[.int .i64 s, .slice A nw c, .slice A' n c'] 25) := ⟨_, rfl⟩
              have bx0 : Blk P0 R2.heap.size 25 #[.int .i64 s, .slice A nw c, .slice A' n c'] := by rw [hP0]; exact Blk.new _ _ _
              have hbp0 : Below R2.heap.size R2 P0 := by rw [hP0]; exact (Below.refl _ _).alloc (Nat.le_refl _) _
              have hs0 : P0.heap.size = R2.heap.size + 1 := by rw [hP0]; simp
              have HP0 := Lib.hid hP0
              clear hP0
              have nm2 : (n : Int) + 2 ≤ 9223372036854775807 := by omega
              obtain ⟨z0, hz0, z00, z01⟩ : ∃ z, a % ((n : Int) + 2) = z ∧ 0 ≤ z ∧ z < 9223372036854775807 := ⟨_, rfl, Int.emod_nonneg _ (by omega), by have := Int.emod_lt_of_pos a (show 0 < (n : Int) + 2 by omega); omega⟩
              obtain ⟨z1, hz1, z10, z11⟩ : ∃ z, b_ % ((n : Int) + 2) = z ∧ 0 ≤ z ∧ z < 9223372036854775807 := ⟨_, rfl, Int.emod_nonneg _ (by omega), by have := Int.emod_lt_of_pos b_ (show 0 < (n : Int) + 2 by omega); omega⟩
              have HZ0 := Lib.hid hz0
              have HZ1 := Lib.hid hz1
              have y2 := bx0.cell 2
              have yz : R2.heap.size < P0.heap.size := bx0.lt
              simp at y2
              have bS1 : (1 : Int) ≤ (n : Int) + 2 := by omega
              have s2 : IntKind.i64.wrap ((n : Int) + 2) = (n : Int) + 2 := IntWalk.i64_in _ (by omega)
              have s3 : IntKind.i64.wrap (z0 - 1) = z0 - 1 := IntWalk.i64_in _ (by omega)
              have s4 : IntKind.i64.wrap (z1 - 1) = z1 - 1 := IntWalk.i64_in _ (by omega)
              clear hz0 hz1
              go_upto_region 14 with fail
              rw [← HP0.out]
              clear x0' x1' x2' x0 x1 x2 hv
              go_cut [90, 91, 92] (fun v len i wx => len = .int .i64 2 ∧ i = .int .i64 0 ∧ ∃ Q, v = .slice (some ⟨Q, 0, none⟩) 2 2 ∧ Twos wx Q ∧ Q < wx.heap.size ∧ Below P0.heap.size P0 wx)
              case first =>
                go_region_held3 (fun w' => w'.cell? ⟨R2.heap.size, 2, none⟩ = some (.slice A' n c'))
                  (first | (with_reducible exact drew_cell5 y2) | (with_reducible exact drew_cell5 (Lib.cell?_alloc_some _ y2)) | (with_reducible exact drew_cell5 (Lib.cell?_alloc_some _ (Lib.cell?_alloc_some _ y2))) | (with_reducible exact drew_cell5 (Lib.cell?_alloc_some _ (Lib.cell?_alloc_some _ (Lib.cell?_alloc_some _ y2)))) | go_keep)
                  (first
                    | (go_at_call 14; (with_reducible show Calls _ _ #[.int .i64 a, _] _ _); refine (mod_any a ((n : Int) + 2) bS1 nm2 a0 a1 _).mono ?_; rintro e w' ⟨rfl, rfl⟩; rw [HZ0.out])
                    | (go_at_call 14; (with_reducible show Calls _ _ #[.int .i64 b_, _] _ _); refine (mod_any b_ ((n : Int) + 2) bS1 nm2 b0 b1 _).mono ?_; rintro e w' ⟨rfl, rfl⟩; rw [HZ1.out]))
                all_goals
                  go_wp2
                  go_meet
                  first
                  | exact ⟨rfl, rfl, _, rfl, two1 hs0⟩
                  | exact ⟨rfl, rfl, _, rfl, two2 hs0⟩
              case rest =>
                obtain ⟨P, rfl⟩ : ∃ P, P = wc := ⟨_, rfl⟩
                obtain ⟨rfl, rfl, Q2, rfl, hTwo, hQ2, hbP⟩ := hcut
                have HTWO := Lib.hid hTwo
                have BXP := Lib.hid (bx0.next hbP)
                have HRP := Lib.hid (below_next hbp0 (Nat.le_refl _) hbP)
                have HVA := Lib.hid (hva.next HRP.out)
                have HVT := Lib.hid (hvt.next HRP.out)
                have HBP := Lib.hid (below_next hb (Nat.le_refl _) HRP.out)
                clear hTwo hbP bx0 hbp0 hs0 HP0 hva hvt hb y2 yz s2 s3 s4 z00 z01 z10 z11 HZ0 HZ1
                go_wp2_with fail
                go_loopw [92] (fun i wr2 => ∃ l : Nat, l ≤ 2 ∧ i = .int .i64 l ∧ Below P.heap.size P wr2) (fun i _ => 2 - (intOf i).toNat)
                case atStart => exact ⟨0, Nat.zero_le _, rfl, Below.refl _ _⟩
                case round =>
                  obtain ⟨W0, rfl⟩ : ∃ W0, W0 = wr := ⟨_, rfl⟩
                  obtain ⟨l, hl, rfl, hb⟩ := hrel
                  by_cases hll : l < 2
                  · obtain ⟨b, x, y, zb, t0, t1, t2⟩ := HTWO.out l hll
                    have t0' := (hb.cell (p := ⟨Q2, l, none⟩) hQ2).trans t0
                    have zq2 : Q2 < W0.heap.size := Nat.lt_of_lt_of_le hQ2 hb.size
                    have zbW : b < W0.heap.size := Nat.lt_of_lt_of_le zb hb.size
                    have BXC0 := Lib.hid (BXP.out.next hb)
                    have HVC0 := Lib.hid (HVA.out.next hb)
                    have HWC0 := Lib.hid (HVT.out.next hb)
                    have y3 := (hb.cell (p := ⟨b, 0, none⟩) zb).trans t1
                    have y4 := (hb.cell (p := ⟨b, 1, none⟩) zb).trans t2
                    have y0 := BXC0.out.cell 0
                    have y1 := BXC0.out.cell 1
                    have y2 := BXC0.out.cell 2
                    have zbx : R2.heap.size < W0.heap.size := BXC0.out.lt
                    simp at y0 y1 y2
                    have K0 := Lib.hid hb
                    clear hb t0 t1 t2
                    have hl2 : 0 ≤ (l : Int) ∧ (l : Int) < 2 := by omega
                    obtain ⟨s', nw', n', wd', F', x1, hnw', hn', hN⟩ := lnk_val s nw wd n F x y
                    have HN := Lib.hid hN
                    have N := Lib.hid (show ∀ W, Below W0.heap.size W0 W → Calls Try.prog 15 #[.agg #[.int .i64 s, .slice A nw c, .slice A' n c'], .int .i64 x, .int .i64 y] W (GivesS2 s' nw' n' wd' F' x1 W) from
                      fun W hW => (link5_any s A A' nw c n c' wd F x y W (HVC0.out.next hW) (HWC0.out.next hW)).mono (fun e w' h => HN.out W e w' h))
                    clear hN
                    go_upto_region 17 with fail
                    clear t0'
                    go_cut [26, 27] (fun v e wx => e = .int .i64 x1 ∧ SpBox W0 s' nw' n' wd' F' v wx)
                    case first =>
                      have y0d : W0.drew.cell? ⟨R2.heap.size, 0, none⟩ = some (.int .i64 s) := y0
                      have y0a : (W0.alloc (.cells #[.int .i64 0, .slice none 0 0, .slice none 0 0] 25)).drew.cell? ⟨R2.heap.size, 0, none⟩ = some (.int .i64 s) := (((Below.refl _ W0).alloc (Nat.le_refl _) (.cells #[.int .i64 0, .slice none 0 0, .slice none 0 0] 25)).cell (p := ⟨R2.heap.size, 0, none⟩) zbx).trans y0
                      have y1d : W0.drew.cell? ⟨R2.heap.size, 1, none⟩ = some (.slice A nw c) := y1
                      have y1a : (W0.alloc (.cells #[.int .i64 0, .slice none 0 0, .slice none 0 0] 25)).drew.cell? ⟨R2.heap.size, 1, none⟩ = some (.slice A nw c) := (((Below.refl _ W0).alloc (Nat.le_refl _) (.cells #[.int .i64 0, .slice none 0 0, .slice none 0 0] 25)).cell (p := ⟨R2.heap.size, 1, none⟩) zbx).trans y1
                      have y2d : W0.drew.cell? ⟨R2.heap.size, 2, none⟩ = some (.slice A' n c') := y2
                      have y2a : (W0.alloc (.cells #[.int .i64 0, .slice none 0 0, .slice none 0 0] 25)).drew.cell? ⟨R2.heap.size, 2, none⟩ = some (.slice A' n c') := (((Below.refl _ W0).alloc (Nat.le_refl _) (.cells #[.int .i64 0, .slice none 0 0, .slice none 0 0] 25)).cell (p := ⟨R2.heap.size, 2, none⟩) zbx).trans y2
                      have y3d : W0.drew.cell? ⟨b, 0, none⟩ = some (.int .i64 x) := y3
                      have y3a : (W0.alloc (.cells #[.int .i64 0, .slice none 0 0, .slice none 0 0] 25)).drew.cell? ⟨b, 0, none⟩ = some (.int .i64 x) := (((Below.refl _ W0).alloc (Nat.le_refl _) (.cells #[.int .i64 0, .slice none 0 0, .slice none 0 0] 25)).cell (p := ⟨b, 0, none⟩) zbW).trans y3
                      have y4d : W0.drew.cell? ⟨b, 1, none⟩ = some (.int .i64 y) := y4
                      have y4a : (W0.alloc (.cells #[.int .i64 0, .slice none 0 0, .slice none 0 0] 25)).drew.cell? ⟨b, 1, none⟩ = some (.int .i64 y) := (((Below.refl _ W0).alloc (Nat.le_refl _) (.cells #[.int .i64 0, .slice none 0 0, .slice none 0 0] 25)).cell (p := ⟨b, 1, none⟩) zbW).trans y4
                      have HBBH := Lib.hid (show Blk (W0.alloc (.cells #[.int .i64 0, .slice none 0 0, .slice none 0 0] 25)).drew W0.heap.size 25 #[.int .i64 0, .slice none 0 0, .slice none 0 0] from Blk.new _ _ _)
                      have HUAH := Lib.hid (show Below W0.heap.size W0 (W0.alloc (.cells #[.int .i64 0, .slice none 0 0, .slice none 0 0] 25)).drew from ((Below.refl _ _).alloc (Nat.le_refl _) _).drew)
                      have HUDH := Lib.hid (show Below W0.heap.size W0 W0.drew from (Below.refl _ _).drew)
                      go_region_held3 (fun w' => w'.cell? ⟨R2.heap.size, 0, none⟩ = some (.int .i64 s) ∧ w'.cell? ⟨R2.heap.size, 1, none⟩ = some (.slice A nw c) ∧ w'.cell? ⟨R2.heap.size, 2, none⟩ = some (.slice A' n c') ∧ w'.cell? ⟨b, 0, none⟩ = some (.int .i64 x) ∧ w'.cell? ⟨b, 1, none⟩ = some (.int .i64 y))
                        (first | (with_reducible exact ⟨y0d, y1d, y2d, y3d, y4d⟩) | (with_reducible exact ⟨u0, u1, u2, u3, u4⟩) | (with_reducible exact ⟨y0a, y1a, y2a, y3a, y4a⟩) | (with_reducible exact ⟨(cell_far3 (Nat.ne_of_lt zbx) _ _ _).trans u0, (cell_far3 (Nat.ne_of_lt zbx) _ _ _).trans u1, (cell_far3 (Nat.ne_of_lt zbx) _ _ _).trans u2, (cell_far3 (Nat.ne_of_lt zbW) _ _ _).trans u3, (cell_far3 (Nat.ne_of_lt zbW) _ _ _).trans u4⟩) | go_keep)
                        (first
                          | (go_at_call 15; refine (N.out _ (by first | (with_reducible exact HUDH.out) | (with_reducible exact HUAH.out))).mono ?_; rintro e wn ⟨RA, rc, RA', rc', rfl, ho, ht, hb⟩; have u0 : wn.cell? ⟨R2.heap.size, 0, none⟩ = some (.int .i64 s) := (hb.cell (p := ⟨R2.heap.size, 0, none⟩) (by simp; omega)).trans (by first | (with_reducible exact y0d) | (with_reducible exact y0a)); have u1 : wn.cell? ⟨R2.heap.size, 1, none⟩ = some (.slice A nw c) := (hb.cell (p := ⟨R2.heap.size, 1, none⟩) (by simp; omega)).trans (by first | (with_reducible exact y1d) | (with_reducible exact y1a)); have u2 : wn.cell? ⟨R2.heap.size, 2, none⟩ = some (.slice A' n c') := (hb.cell (p := ⟨R2.heap.size, 2, none⟩) (by simp; omega)).trans (by first | (with_reducible exact y2d) | (with_reducible exact y2a)); have u3 : wn.cell? ⟨b, 0, none⟩ = some (.int .i64 x) := (hb.cell (p := ⟨b, 0, none⟩) (by simp; omega)).trans (by first | (with_reducible exact y3d) | (with_reducible exact y3a)); have u4 : wn.cell? ⟨b, 1, none⟩ = some (.int .i64 y) := (hb.cell (p := ⟨b, 1, none⟩) (by simp; omega)).trans (by first | (with_reducible exact y4d) | (with_reducible exact y4a)); (try have bb : Blk wn W0.heap.size 25 #[.int .i64 0, .slice none 0 0, .slice none 0 0] := (by with_reducible exact HBBH.out.next hb)); (try have bz := bb.lt); (try have t0 := bb.cell 0); (try have t1 := bb.cell 1); (try have t2 := bb.cell 2); (try have t3 := bb.frozen 0); (try have t4 := bb.frozen 1); (try have t5 := bb.frozen 2); (try simp at t0 t1 t2)))
                      all_goals
                        first
                        | (have HBX := Lib.hid (spbox_early (s := s') (Nat.le_refl _) HUAH.out hb bb (by simp) rfl ho ht); clear hb ho ht bb t0 t1 t2 t3 t4 t5; go_wp2; go_meet; exact ⟨rfl, HBX.out⟩)
                        | (have HBX := Lib.hid (spbox_late (s := s') HUDH.out hb ho ht); clear hb ho ht; go_wp2; go_meet; exact ⟨rfl, HBX.out⟩)
                    case rest =>
                      obtain ⟨W1, rfl⟩ : ∃ W1, W1 = wc := ⟨_, rfl⟩
                      obtain ⟨rfl, t21, B1, k1, B1', k1', rfl, hx1, ha1, ht1, hb1', hz1⟩ := hcut
                      have BXC1 := Lib.hid (BXC0.out.next hb1')
                      have HVC1 := Lib.hid (HVC0.out.next hb1')
                      have HWC1 := Lib.hid (HWC0.out.next hb1')
                      have y3' := (hb1'.cell (p := ⟨b, 0, none⟩) zbW).trans y3
                      have y4' := (hb1'.cell (p := ⟨b, 1, none⟩) zbW).trans y4
                      have K1 := Lib.hid (below_next K0.out (Nat.le_refl _) hb1')
                      have zbW' : b < W1.heap.size := Nat.lt_of_lt_of_le zbW hb1'.size
                      have HX1 := Lib.hid hx1
                      have HAX := Lib.hid ha1
                      have HTX := Lib.hid ht1
                      clear y0 y1 y2 y3 y4 zbx zbW hx1 ha1 ht1 hb1' K0 HVC0 HWC0 BXC0 N
                      have y0 := BXC1.out.cell 0
                      have y1 := BXC1.out.cell 1
                      have y2 := BXC1.out.cell 2
                      have y3 := y3'
                      have y4 := y4'
                      have zbx : R2.heap.size < W1.heap.size := BXC1.out.lt
                      have zbW : b < W1.heap.size := zbW'
                      simp at y0 y1 y2
                      clear y3' y4' zbW'
                      have N := Lib.hid (show ∀ W, Below W1.heap.size W1 W → Calls Try.prog 16 #[.agg #[.int .i64 s, .slice A nw c, .slice A' n c'], .int .i64 x, .int .i64 y] W (GivesS2 s' nw' n' wd' F' x1 W) from
                        fun W hW => (refLink5_any s A A' nw c n c' wd F x y W (HVC1.out.next hW) (HWC1.out.next hW)).mono (fun e w' h => HN.out W e w' h))
                      clear HN
                      go_upto_region 18 with fail
                      go_cut [28, 29] (fun v e wx => e = .int .i64 x1 ∧ SpBox W1 s' nw' n' wd' F' v wx)
                      case first =>
                        have y0d : W1.drew.cell? ⟨R2.heap.size, 0, none⟩ = some (.int .i64 s) := y0
                        have y0a : (W1.alloc (.cells #[.int .i64 0, .slice none 0 0, .slice none 0 0] 25)).drew.cell? ⟨R2.heap.size, 0, none⟩ = some (.int .i64 s) := (((Below.refl _ W1).alloc (Nat.le_refl _) (.cells #[.int .i64 0, .slice none 0 0, .slice none 0 0] 25)).cell (p := ⟨R2.heap.size, 0, none⟩) zbx).trans y0
                        have y1d : W1.drew.cell? ⟨R2.heap.size, 1, none⟩ = some (.slice A nw c) := y1
                        have y1a : (W1.alloc (.cells #[.int .i64 0, .slice none 0 0, .slice none 0 0] 25)).drew.cell? ⟨R2.heap.size, 1, none⟩ = some (.slice A nw c) := (((Below.refl _ W1).alloc (Nat.le_refl _) (.cells #[.int .i64 0, .slice none 0 0, .slice none 0 0] 25)).cell (p := ⟨R2.heap.size, 1, none⟩) zbx).trans y1
                        have y2d : W1.drew.cell? ⟨R2.heap.size, 2, none⟩ = some (.slice A' n c') := y2
                        have y2a : (W1.alloc (.cells #[.int .i64 0, .slice none 0 0, .slice none 0 0] 25)).drew.cell? ⟨R2.heap.size, 2, none⟩ = some (.slice A' n c') := (((Below.refl _ W1).alloc (Nat.le_refl _) (.cells #[.int .i64 0, .slice none 0 0, .slice none 0 0] 25)).cell (p := ⟨R2.heap.size, 2, none⟩) zbx).trans y2
                        have y3d : W1.drew.cell? ⟨b, 0, none⟩ = some (.int .i64 x) := y3
                        have y3a : (W1.alloc (.cells #[.int .i64 0, .slice none 0 0, .slice none 0 0] 25)).drew.cell? ⟨b, 0, none⟩ = some (.int .i64 x) := (((Below.refl _ W1).alloc (Nat.le_refl _) (.cells #[.int .i64 0, .slice none 0 0, .slice none 0 0] 25)).cell (p := ⟨b, 0, none⟩) zbW).trans y3
                        have y4d : W1.drew.cell? ⟨b, 1, none⟩ = some (.int .i64 y) := y4
                        have y4a : (W1.alloc (.cells #[.int .i64 0, .slice none 0 0, .slice none 0 0] 25)).drew.cell? ⟨b, 1, none⟩ = some (.int .i64 y) := (((Below.refl _ W1).alloc (Nat.le_refl _) (.cells #[.int .i64 0, .slice none 0 0, .slice none 0 0] 25)).cell (p := ⟨b, 1, none⟩) zbW).trans y4
                        have HBBH := Lib.hid (show Blk (W1.alloc (.cells #[.int .i64 0, .slice none 0 0, .slice none 0 0] 25)).drew W1.heap.size 25 #[.int .i64 0, .slice none 0 0, .slice none 0 0] from Blk.new _ _ _)
                        have HUAH := Lib.hid (show Below W1.heap.size W1 (W1.alloc (.cells #[.int .i64 0, .slice none 0 0, .slice none 0 0] 25)).drew from ((Below.refl _ _).alloc (Nat.le_refl _) _).drew)
                        have HUDH := Lib.hid (show Below W1.heap.size W1 W1.drew from (Below.refl _ _).drew)
                        go_region_held3 (fun w' => w'.cell? ⟨R2.heap.size, 0, none⟩ = some (.int .i64 s) ∧ w'.cell? ⟨R2.heap.size, 1, none⟩ = some (.slice A nw c) ∧ w'.cell? ⟨R2.heap.size, 2, none⟩ = some (.slice A' n c') ∧ w'.cell? ⟨b, 0, none⟩ = some (.int .i64 x) ∧ w'.cell? ⟨b, 1, none⟩ = some (.int .i64 y))
                          (first | (with_reducible exact ⟨y0d, y1d, y2d, y3d, y4d⟩) | (with_reducible exact ⟨u0, u1, u2, u3, u4⟩) | (with_reducible exact ⟨y0a, y1a, y2a, y3a, y4a⟩) | (with_reducible exact ⟨(cell_far3 (Nat.ne_of_lt zbx) _ _ _).trans u0, (cell_far3 (Nat.ne_of_lt zbx) _ _ _).trans u1, (cell_far3 (Nat.ne_of_lt zbx) _ _ _).trans u2, (cell_far3 (Nat.ne_of_lt zbW) _ _ _).trans u3, (cell_far3 (Nat.ne_of_lt zbW) _ _ _).trans u4⟩) | go_keep)
                          (first
                            | (go_at_call 16; refine (N.out _ (by first | (with_reducible exact HUDH.out) | (with_reducible exact HUAH.out))).mono ?_; rintro e wn ⟨RA, rc, RA', rc', rfl, ho, ht, hb⟩; have u0 : wn.cell? ⟨R2.heap.size, 0, none⟩ = some (.int .i64 s) := (hb.cell (p := ⟨R2.heap.size, 0, none⟩) (by simp; omega)).trans (by first | (with_reducible exact y0d) | (with_reducible exact y0a)); have u1 : wn.cell? ⟨R2.heap.size, 1, none⟩ = some (.slice A nw c) := (hb.cell (p := ⟨R2.heap.size, 1, none⟩) (by simp; omega)).trans (by first | (with_reducible exact y1d) | (with_reducible exact y1a)); have u2 : wn.cell? ⟨R2.heap.size, 2, none⟩ = some (.slice A' n c') := (hb.cell (p := ⟨R2.heap.size, 2, none⟩) (by simp; omega)).trans (by first | (with_reducible exact y2d) | (with_reducible exact y2a)); have u3 : wn.cell? ⟨b, 0, none⟩ = some (.int .i64 x) := (hb.cell (p := ⟨b, 0, none⟩) (by simp; omega)).trans (by first | (with_reducible exact y3d) | (with_reducible exact y3a)); have u4 : wn.cell? ⟨b, 1, none⟩ = some (.int .i64 y) := (hb.cell (p := ⟨b, 1, none⟩) (by simp; omega)).trans (by first | (with_reducible exact y4d) | (with_reducible exact y4a)); (try have bb : Blk wn W1.heap.size 25 #[.int .i64 0, .slice none 0 0, .slice none 0 0] := (by with_reducible exact HBBH.out.next hb)); (try have bz := bb.lt); (try have t0 := bb.cell 0); (try have t1 := bb.cell 1); (try have t2 := bb.cell 2); (try have t3 := bb.frozen 0); (try have t4 := bb.frozen 1); (try have t5 := bb.frozen 2); (try simp at t0 t1 t2)))
                        all_goals
                          first
                          | (have HBX := Lib.hid (spbox_early (s := s') (Nat.le_refl _) HUAH.out hb bb (by simp) rfl ho ht); clear hb ho ht bb t0 t1 t2 t3 t4 t5; go_wp2; go_meet; exact ⟨rfl, HBX.out⟩)
                          | (have HBX := Lib.hid (spbox_late (s := s') HUDH.out hb ho ht); clear hb ho ht; go_wp2; go_meet; exact ⟨rfl, HBX.out⟩)
                      case rest =>
                        obtain ⟨W2, rfl⟩ : ∃ W2, W2 = wc := ⟨_, rfl⟩
                        obtain ⟨rfl, t24, B2, k2, B2', k2', rfl, hx2, ha2, ht2, hb2', hz2⟩ := hcut
                        have BXC2 := Lib.hid (BXC1.out.next hb2')
                        have HVC2 := Lib.hid (HVC1.out.next hb2')
                        have HWC2 := Lib.hid (HWC1.out.next hb2')
                        have y3' := (hb2'.cell (p := ⟨b, 0, none⟩) zbW).trans y3
                        have y4' := (hb2'.cell (p := ⟨b, 1, none⟩) zbW).trans y4
                        have K2 := Lib.hid (below_next K1.out (Nat.le_refl _) hb2')
                        have zbW' : b < W2.heap.size := Nat.lt_of_lt_of_le zbW hb2'.size
                        have HX1' := Lib.hid (HX1.out.next hb2')
                        have HAX' := Lib.hid (HAX.out.next hb2')
                        have HTX' := Lib.hid (HTX.out.next hb2')
                        have HX2 := Lib.hid hx2
                        have HAY := Lib.hid ha2
                        have HTY := Lib.hid ht2
                        obtain ⟨ll, hll'⟩ : ∃ ll, ll = lstL s nw wd n F x := ⟨_, rfl⟩
                        obtain ⟨le, hle'⟩ : ∃ le, le = lstE s nw wd n F x := ⟨_, rfl⟩
                        have HLL := Lib.hid hll'
                        have HLE := Lib.hid hle'
                        have HLN := Lib.hid (show ll.length ≤ 1048576 by
                          rw [hll']
                          unfold lstL
                          by_cases h0 : lstE s nw wd n F x = 0
                          · rw [if_pos h0]
                            have hv : validB s nw wd n F = true := by
                              cases e : validB s nw wd n F
                              · unfold lstE at h0; rw [if_pos e] at h0; exact absurd h0 (by decide)
                              · rfl
                            have hi : inB n x = true := by
                              cases e : inB n x
                              · unfold lstE at h0; rw [if_neg (by simp [hv]), if_pos e] at h0; exact absurd h0 (by decide)
                              · rfl
                            obtain ⟨f, rfl, hf⟩ := inB_nat hi
                            rw [Int.toNat_natCast]
                            obtain ⟨M, hM, hlen⟩ := (validB_of hv).fv.len hf
                            rw [chL_length hlen hM]
                            omega
                          · rw [if_neg h0]; decide)
                        clear y0 y1 y2 y3 y4 zbx zbW hx2 ha2 ht2 hb2' K1 HVC1 HWC1 BXC1 N HX1 HAX HTX hll' hle'
                        have y0 := BXC2.out.cell 0
                        have y1 := BXC2.out.cell 1
                        have y2 := BXC2.out.cell 2
                        have y3 := y3'
                        have y4 := y4'
                        have zbx : R2.heap.size < W2.heap.size := BXC2.out.lt
                        have zbW : b < W2.heap.size := zbW'
                        simp at y0 y1 y2
                        clear y3' y4' zbW'
                        go_upto_region 19 with fail
                        have y0d : W2.drew.cell? ⟨R2.heap.size, 0, none⟩ = some (.int .i64 s) := y0
                        have y1d : W2.drew.cell? ⟨R2.heap.size, 1, none⟩ = some (.slice A nw c) := y1
                        have y2d : W2.drew.cell? ⟨R2.heap.size, 2, none⟩ = some (.slice A' n c') := y2
                        have y3d : W2.drew.cell? ⟨b, 0, none⟩ = some (.int .i64 x) := y3
                        have zbxd : R2.heap.size < W2.drew.heap.size := zbx
                        have zbWd : b < W2.drew.heap.size := zbW
                        have HVD := Lib.hid (show Arr W2.drew W2.drew.heap.size A nw c wd from HVC2.out)
                        have HWD := Lib.hid (show Tab W2.drew W2.drew.heap.size A' n c' F from HWC2.out)
                        go_region_held3 (fun w' => w'.cell? ⟨R2.heap.size, 0, none⟩ = some (.int .i64 s) ∧ w'.cell? ⟨R2.heap.size, 1, none⟩ = some (.slice A nw c) ∧ w'.cell? ⟨R2.heap.size, 2, none⟩ = some (.slice A' n c') ∧ w'.cell? ⟨b, 0, none⟩ = some (.int .i64 x))
                          (first | (with_reducible exact ⟨y0d, y1d, y2d, y3d⟩) | (with_reducible exact ⟨u0, u1, u2, u3⟩) | go_keep)
                          (first
                            | (go_at_call 17; refine (list5_any s A A' nw c n c' wd F x _ HVD.out HWD.out).mono ?_; rintro e W3 ⟨A3, c3, rfl, hn, hbl⟩; rw [← HLL.out] at hn; rw [← HLL.out, ← HLE.out]; have u0 := (hbl.cell (p := ⟨R2.heap.size, 0, none⟩) zbxd).trans y0d; have u1 := (hbl.cell (p := ⟨R2.heap.size, 1, none⟩) zbxd).trans y1d; have u2 := (hbl.cell (p := ⟨R2.heap.size, 2, none⟩) zbxd).trans y2d; have u3 := (hbl.cell (p := ⟨b, 0, none⟩) zbWd).trans y3d))
                        have hbW3 : Below W2.heap.size W2 W3 := (show Below W2.heap.size W2 W2.drew from (Below.refl _ _).drew).trans hbl
                        clear y0d y1d y2d y3d u0 u1 u2 u3 zbxd zbWd HVD HWD hbl
                        have BXC3 := Lib.hid (BXC2.out.next hbW3)
                        have HVC3 := Lib.hid (HVC2.out.next hbW3)
                        have HWC3 := Lib.hid (HWC2.out.next hbW3)
                        have y3' := (hbW3.cell (p := ⟨b, 0, none⟩) zbW).trans y3
                        have y4' := (hbW3.cell (p := ⟨b, 1, none⟩) zbW).trans y4
                        have K3 := Lib.hid (below_next K2.out (Nat.le_refl _) hbW3)
                        have zbW' : b < W3.heap.size := Nat.lt_of_lt_of_le zbW hbW3.size
                        have HX1c := Lib.hid (HX1'.out.next hbW3)
                        have HAXc := Lib.hid (HAX'.out.next hbW3)
                        have HTXc := Lib.hid (HTX'.out.next hbW3)
                        have HX2c := Lib.hid (HX2.out.next hbW3)
                        have HAYc := Lib.hid (HAY.out.next hbW3)
                        have HTYc := Lib.hid (HTY.out.next hbW3)
                        have HNI := Lib.hid hn
                        clear y0 y1 y2 y3 y4 zbx zbW hbW3 hn K2 HVC2 HWC2 BXC2 HX1' HAX' HTX' HX2 HAY HTY
                        have y0 := BXC3.out.cell 0
                        have y1 := BXC3.out.cell 1
                        have y2 := BXC3.out.cell 2
                        have y3 := y3'
                        have y4 := y4'
                        have zbx : R2.heap.size < W3.heap.size := BXC3.out.lt
                        have zbW : b < W3.heap.size := zbW'
                        simp at y0 y1 y2
                        clear y3' y4' zbW'
                        go_upto_region 20 with fail
                        have y0d : W3.drew.cell? ⟨R2.heap.size, 0, none⟩ = some (.int .i64 s) := y0
                        have y1d : W3.drew.cell? ⟨R2.heap.size, 1, none⟩ = some (.slice A nw c) := y1
                        have y2d : W3.drew.cell? ⟨R2.heap.size, 2, none⟩ = some (.slice A' n c') := y2
                        have y3d : W3.drew.cell? ⟨b, 0, none⟩ = some (.int .i64 x) := y3
                        have zbxd : R2.heap.size < W3.drew.heap.size := zbx
                        have zbWd : b < W3.drew.heap.size := zbW
                        have HVD := Lib.hid (show Arr W3.drew W3.drew.heap.size A nw c wd from HVC3.out)
                        have HWD := Lib.hid (show Tab W3.drew W3.drew.heap.size A' n c' F from HWC3.out)
                        go_region_held3 (fun w' => w'.cell? ⟨R2.heap.size, 0, none⟩ = some (.int .i64 s) ∧ w'.cell? ⟨R2.heap.size, 1, none⟩ = some (.slice A nw c) ∧ w'.cell? ⟨R2.heap.size, 2, none⟩ = some (.slice A' n c') ∧ w'.cell? ⟨b, 0, none⟩ = some (.int .i64 x))
                          (first | (with_reducible exact ⟨y0d, y1d, y2d, y3d⟩) | (with_reducible exact ⟨u0, u1, u2, u3⟩) | go_keep)
                          (first
                            | (go_at_call 18; refine (refList5_any s A A' nw c n c' wd F x _ HVD.out HWD.out).mono ?_; rintro e W4 ⟨A4, c4, rfl, hn, hbl⟩; rw [← HLL.out] at hn; rw [← HLL.out, ← HLE.out]; have u0 := (hbl.cell (p := ⟨R2.heap.size, 0, none⟩) zbxd).trans y0d; have u1 := (hbl.cell (p := ⟨R2.heap.size, 1, none⟩) zbxd).trans y1d; have u2 := (hbl.cell (p := ⟨R2.heap.size, 2, none⟩) zbxd).trans y2d; have u3 := (hbl.cell (p := ⟨b, 0, none⟩) zbWd).trans y3d))
                        have hbW4 : Below W3.heap.size W3 W4 := (show Below W3.heap.size W3 W3.drew from (Below.refl _ _).drew).trans hbl
                        clear y0d y1d y2d y3d u0 u1 u2 u3 zbxd zbWd HVD HWD hbl
                        have HX1d := HX1c.out.next hbW4
                        have HAXd := Lib.hid (HAXc.out.next hbW4)
                        have HTXd := Lib.hid (HTXc.out.next hbW4)
                        have HX2d := HX2c.out.next hbW4
                        have HAYd := Lib.hid (HAYc.out.next hbW4)
                        have HTYd := Lib.hid (HTYc.out.next hbW4)
                        have HNId := Lib.hid (HNI.out.next hbW4)
                        have HNJ := Lib.hid hn
                        have K4 := Lib.hid (below_next K3.out (Nat.le_refl _) hbW4)
                        have r0 := HX1d.cell 0
                        have r1 := HX1d.cell 1
                        have r2 := HX1d.cell 2
                        have rz := HX1d.lt
                        have q0 := HX2d.cell 0
                        have q1 := HX2d.cell 1
                        have q2 := HX2d.cell 2
                        have qz := HX2d.lt
                        simp at r0 r1 r2 q0 q1 q2
                        clear y0 y1 y2 y3 y4 zbx zbW hbW4 hn HX1d HX2d HX1c HAXc HTXc HX2c HAYc HTYc HNI
                        go_wp2_with (first
                          | (go_at_call 19; refine (sameSp_yes s' B1 B1' B2 B2' nw' k1 k2 n' k1' k2' wd' F' W4 HAXd.out HAYd.out HTXd.out HTYd.out hnw' hn').mono ?_; rintro e W6 ⟨rfl, hb6⟩; have HNI6 := Lib.hid (HNId.out.next hb6); have HNJ6 := Lib.hid (HNJ.out.next hb6); have K6 := Lib.hid (below_next K4.out (Nat.le_refl _) hb6); clear hb6)
                          | (go_at_call 20; refine (sameInts_yes A3 A4 ll.length c3 c4 (numF ll) W6 HNI6.out HNJ6.out HLN.out).mono ?_; rintro e W7 ⟨rfl, hb7⟩))
                        exact ⟨⟨l + 1, by omega, by go_num, below_next K6.out (Nat.le_refl _) hb7⟩, by simp [intOf]; omega⟩
                  · obtain rfl : l = 2 := by omega
                    have HB7 := Lib.hid (below_next HBP.out (Nat.le_refl _) hb)
                    clear hb
                    go_wp2_with fail
                    exact ⟨⟨j + 1, by omega, by go_num, HB7.out⟩, by simp [intOf]; omega⟩
            · obtain rfl : j = 4 := by omega
              have HB8 := Lib.hid (below_next HBC.out (Nat.le_refl _) hb)
              clear hb
              go_wp2_with (go_at_call 8; refine (awake5_any _).mono ?_; rintro e w9 ⟨rfl, hb9⟩)
              go_ret
              exact ⟨rfl, below_next HB8.out (Nat.le_refl _) hb9⟩
end Go.Proofs.Ytpbcpobbjoopnaa
