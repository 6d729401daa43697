/-
  A space with one object more: grown (grown_any: the space's rows and all its boxes above the deck, GrownOf).
-/
import Derived.Test.YtpbcpobbjoopnaaDeck
namespace Go.Proofs.Ytpbcpobbjoopnaa
open Go.RowKit
set_option maxRecDepth 100000
set_option linter.unusedVariables false

/-- A valid space whose owners are at most 50. -/
def ValidO (k : Int) (nw : Nat) (wd : Nat → Int) (n : Nat) (F : Nat → Fr) : Prop := ValidP k nw wd n F ∧ ∀ j, (F j).ow ≤ 50
/-- An increment that is well: its frames are a chain, all frames of its owner, as many as its words need. -/
def IncP (F : Nat → Fr) (n k : Nat) (sq bt fi la wo : Int) : Prop :=
  0 ≤ sq ∧ sq ≤ 50 ∧ 0 ≤ bt ∧ bt ≤ 2 ∧ ∃ W : Nat, wo = W ∧ ChainP F n fi la (ceilV W k) sq (bt * 4294967296 + sq) ∧ cntO F sq n = ceilV W k
/-- Frames of other owners stay; no owner comes in but sq. -/
def KeepsO (F F' : Nat → Fr) (sq : Int) : Prop := (∀ j, (F j).ow ≠ -1 → (F j).ow ≠ sq → F' j = F j) ∧ ∀ j, (F' j).ow = (F j).ow ∨ (F' j).ow = sq
theorem KeepsO.refl (F : Nat → Fr) (sq : Int) : KeepsO F F sq := ⟨fun _ _ _ => rfl, fun _ => .inl rfl⟩
theorem KeepsO.iff {F F' : Nat → Fr} {sq o : Int} (h : KeepsO F F' sq) (ho : o ≠ -1) (hs : o ≠ sq) (j : Nat) : (F' j).ow = o ↔ (F j).ow = o := by
  constructor
  · intro e
    rcases h.2 j with h1 | h1
    · rw [← h1]; exact e
    · exact absurd (e.symm.trans h1) hs
  · intro e
    rw [h.1 j (by rw [e]; exact ho) (by rw [e]; exact hs)]; exact e
theorem cntO_congr {F F' : Nat → Fr} {o : Int} (h : ∀ j, (F' j).ow = o ↔ (F j).ow = o) : ∀ t, cntO F' o t = cntO F o t
  | 0 => rfl
  | t + 1 => by
    simp only [cntO, cntO_congr h t]
    by_cases e : (F t).ow = o
    · rw [if_pos e, if_pos ((h t).2 e)]
    · rw [if_neg e, if_neg (fun x => e ((h t).1 x))]
theorem iter_keeps {F F' : Nat → Fr} {n : Nat} {sq o s first last : Int} {m : Nat} (hk : KeepsO F F' sq) (hf : FV F n) (hs : stB s o = true) (ho : o ≠ -1) (hq : o ≠ sq) (h : ChainP F n first last m o s) : ∀ i, i < m → iter F' i first = iter F i first
  | 0, _ => rfl
  | i + 1, hi => by
    obtain ⟨q, h1, _, h3, _⟩ := h.at_ hf hs (show i < m by omega)
    rw [iter_succ, iter_succ, iter_keeps hk hf hs ho hq h i (by omega), h1]
    rw [if_neg (by omega), if_neg (by omega), Int.toNat_natCast, hk.1 q (by rw [h3]; exact ho) (by rw [h3]; exact hq)]
theorem IncP.other {F F' : Nat → Fr} {n k : Nat} {sq o bt fi la wo : Int} (h : IncP F n k o bt fi la wo) (hk : KeepsO F F' sq) (hf : FV F n) (hq : o ≠ sq) : IncP F' n k o bt fi la wo := by
  obtain ⟨h1, h2, h3, h4, W, rfl, hc, hn⟩ := h
  have ho : o ≠ -1 := by omega
  have hs : stB (bt * 4294967296 + o) o = true := by
    refine (stB_of ⟨h1, by omega, ?_⟩).symm
    omega
  refine ⟨h1, h2, h3, h4, W, rfl, ?_, by rw [cntO_congr (fun j => hk.iff ho hq j)]; exact hn⟩
  rcases hc with hc | ⟨hm, p, l, rfl, hp, rfl, hl, hi, hx, hpo, hps⟩
  · exact .inl hc
  · have hc' : ChainP F n p l (ceilV W k) o (bt * 4294967296 + o) := .inr ⟨hm, p, l, rfl, hp, rfl, hl, hi, hx, hpo, hps⟩
    have e1 := iter_keeps hk hf hs ho hq hc' (ceilV W k - 1) (by omega)
    obtain ⟨q, a1, _, a3, _⟩ := hc'.at_ hf hs (show ceilV W k - 1 < ceilV W k by omega)
    have hlq : l = q := by omega
    have e2 : F' l = F l := hk.1 l (by rw [hlq, a3]; exact ho) (by rw [hlq, a3]; exact hq)
    have e3 : F' p = F p := hk.1 p (by rw [hpo]; exact ho) (by rw [hpo]; exact hq)
    exact .inr ⟨hm, p, l, rfl, hp, rfl, hl, by rw [e1]; exact hi, by rw [e2]; exact hx, by rw [e3]; exact hpo, by rw [e3]; exact hps⟩
def GrownOf (dk B k nw n : Nat) (F0 : Nat → Fr) (s0 b0 : Int) (w : World) (e : Ending) (w' : World) : Prop :=
  ∃ (A : Option Addr) (c g c' : Nat) (wd : Nat → Int) (F : Nat → Fr) (i0 i1 i2 i3 i4 : Int), e = .returned (.tuple #[.agg #[.int .i64 k, .slice A nw c, .slice (some ⟨g, 0, none⟩) n c'], .agg #[.int .i64 i0, .int .i64 i1, .int .i64 i2, .int .i64 i3, .int .i64 i4]]) ∧
    Own w' B A nw c wd ∧ OwnT w' B (some ⟨g, 0, none⟩) n c' F ∧ ValidO k nw wd n F ∧ DeckP w' dk ∧ w.grownBy w' (some dk) ∧ i0 = s0 ∧ i1 = b0 ∧ IncP F n k i0 i1 i2 i3 i4 ∧ KeepsO F0 F s0

theorem Own.turnB {a w : World} {g base n c : Nat} {A : Option Addr} {f : Nat → Int} (h : Own a base A n c f) (hg : a.grownBy w (some g)) (hb : g < base) : Own w base A n c f :=
  h.keep fun x hx hl => hg.block x hl (by intro e; injection e; omega)
theorem OwnT.turnB {a w : World} {g base n c : Nat} {A : Option Addr} {F : Nat → Fr} (h : OwnT a base A n c F) (hg : a.grownBy w (some g)) (hb : g < base) : OwnT w base A n c F :=
  h.keep fun x hx hl => hg.block x hl (by intro e; injection e; omega)

theorem DeckP.far {w : World} {dk : Nat} (h : DeckP w dk) {p : Addr} (hp : dk < p.block) (u : Value) : DeckP (w.setCell p u) dk := by
  obtain ⟨A, n, c, q, h1, h2, h3, h4, h5⟩ := h
  refine ⟨A, n, c, q, h1.far (by omega) u, h2, h3, h4, fun j hj => ?_⟩
  obtain ⟨b, o, v, e, hlt, hc, hv⟩ := h5 j hj
  refine ⟨b, o, v, e, hlt, ?_, hv⟩
  rw [World.cell?_setCell_other _ _ _ _ (by rintro rfl; simp at hp; omega)]
  exact hc

theorem DeckP.put8 {w : World} {dk x y : Nat} (h : DeckP w dk) (hx : dk < x) (hy : dk < y) (v0 v1 v2 u0 u1 u2 u3 u4 : Value) :
    DeckP ((((((((w.setCell ⟨x, 0, none⟩ v0).setCell ⟨x, 1, none⟩ v1).setCell ⟨x, 2, none⟩ v2).setCell ⟨y, 0, none⟩ u0).setCell ⟨y, 1, none⟩ u1).setCell ⟨y, 2, none⟩ u2).setCell ⟨y, 3, none⟩ u3).setCell ⟨y, 4, none⟩ u4) dk :=
  (((((((h.far hx v0).far hx v1).far hx v2).far hy u0).far hy u1).far hy u2).far hy u3).far hy u4

theorem turn_put8 {a w : World} {g x y : Nat} (h : a.grownBy w (some g)) (hx : a.heap.size ≤ x) (hy : a.heap.size ≤ y) (v0 v1 v2 u0 u1 u2 u3 u4 : Value) :
    a.grownBy ((((((((w.setCell ⟨x, 0, none⟩ v0).setCell ⟨x, 1, none⟩ v1).setCell ⟨x, 2, none⟩ v2).setCell ⟨y, 0, none⟩ u0).setCell ⟨y, 1, none⟩ u1).setCell ⟨y, 2, none⟩ u2).setCell ⟨y, 3, none⟩ u3).setCell ⟨y, 4, none⟩ u4) (some g) :=
  turn_new (turn_new (turn_new (turn_new (turn_new (turn_new (turn_new (turn_new h _ hx v0) _ hx v1) _ hx v2) _ hy u0) _ hy u1) _ hy u2) _ hy u3) _ hy u4

theorem turn_drew {a w : World} {r : Option Nat} (h : a.grownBy w r) : a.grownBy w.drew r := turn_next h (Below.refl _ w).drew
theorem DeckP.drew {w : World} {dk : Nat} (h : DeckP w dk) : DeckP w.drew dk := h

/-- What stays while the deck alone turns. -/
structure GS (w V : World) (dk B b k nw n c g c' : Nat) (A : Option Addr) (wd : Nat → Int) (F : Nat → Fr) (i0 i1 i2 i3 i4 : Int) : Prop where
  x0 : Blk V b 25 #[.int .i64 k, .slice A nw c, .slice (some ⟨g, 0, none⟩) n c']
  x1 : Blk V (b + 1) 53 #[.int .i64 i0, .int .i64 i1, .int .i64 i2, .int .i64 i3, .int .i64 i4]
  x2 : Blk V (b + 1 + 1) 25 #[.int .i64 0, .slice none 0 0, .slice none 0 0]
  x3 : Blk V (b + 1 + 1 + 1) 53 #[.int .i64 0, .int .i64 0, .int .i64 0, .int .i64 0, .int .i64 0]
  own : Own V B A nw c wd
  ownT : OwnT V B (some ⟨g, 0, none⟩) n c' F
  deck : DeckP V dk
  lt : dk < B
  le : B ≤ b
  turned : w.grownBy V (some dk)
  size : b ≤ w.heap.size

theorem GS.turn {w V V' : World} {dk B b k nw n c g c' : Nat} {A : Option Addr} {wd : Nat → Int} {F : Nat → Fr} {i0 i1 i2 i3 i4 : Int} (h : GS w V dk B b k nw n c g c' A wd F i0 i1 i2 i3 i4) (hD : DeckP V' dk) (hG : V.grownBy V' (some dk)) :
    GS w V' dk B b k nw n c g c' A wd F i0 i1 i2 i3 i4 := by
  obtain ⟨x0, x1, x2, x3, o, t, d, l, le, g0, sz⟩ := h
  exact ⟨x0.turn hG (by omega), x1.turn hG (by omega), x2.turn hG (by omega), x3.turn hG (by omega), o.turnB hG l, t.turnB hG l, hD, l, le, turn_trans g0 hG, sz⟩

set_option maxHeartbeats 1000000 in
theorem grown_any (dk B k nw n c g c' : Nat) (A : Option Addr) (wd : Nat → Int) (F : Nat → Fr) (i0 i1 i2 i3 i4 : Int) (w : World) (hB : dk < B) (hBw : B ≤ w.heap.size) (hd : DeckP w dk)
    (hA : Own w B A nw c wd) (hT : OwnT w B (some ⟨g, 0, none⟩) n c' F) (hv : ValidO k nw wd n F) (hin : IncP F n k i0 i1 i2 i3 i4) :
    Calls Try.prog 27 #[.pointer (some ⟨dk, 0, none⟩), .agg #[.int .i64 k, .slice A nw c, .slice (some ⟨g, 0, none⟩) n c'], .agg #[.int .i64 i0, .int .i64 i1, .int .i64 i2, .int .i64 i3, .int .i64 i4]] w (GrownOf dk B k nw n F i0 i1 w) := by
  have HD := Lib.hid hd
  have HA := Lib.hid hA
  have HT := Lib.hid hT
  have HV := Lib.hid hv
  have HINC := Lib.hid hin
  clear hd hA hT hv
  go_enter Try.func27, Try.ntmps27
  go_wp2_with fail
  obtain ⟨V, hV⟩ : ∃ V, V = ((((w.alloc (.cells #[.int .i64 k, .slice A nw c, .slice (some ⟨g, 0, none⟩) n c'] 25)).alloc (.cells #[.int .i64 i0, .int .i64 i1, .int .i64 i2, .int .i64 i3, .int .i64 i4] 53)).alloc
    (.cells #[.int .i64 0, .slice none 0 0, .slice none 0 0] 25)).alloc (.cells #[.int .i64 0, .int .i64 0, .int .i64 0, .int .i64 0, .int .i64 0] 53)) := ⟨_, rfl⟩
  rw [← hV]
  have hBel : Below w.heap.size w V := by rw [hV]; exact ((((Below.refl _ w).alloc (Nat.le_refl _) _).alloc (by simp) _).alloc (by simp; omega) _).alloc (by simp; omega) _
  have S : GS w V dk B w.heap.size k nw n c g c' A wd F i0 i1 i2 i3 i4 := by
    refine ⟨?_, ?_, ?_, ?_, HA.out.below hBel, HT.out.below hBel, HD.out.next hBel, hB, hBw, turn_below hBel, Nat.le_refl _⟩
    · rw [hV]; exact (((Blk.newAt _ _ _ _ rfl).alloc _).alloc _).alloc _
    · rw [hV]; exact ((Blk.newAt _ _ _ _ (by simp)).alloc _).alloc _
    · rw [hV]; exact (Blk.newAt _ _ _ _ (by simp)).alloc _
    · rw [hV]; exact Blk.newAt _ _ _ _ (by simp)
  have HS := Lib.hid S
  clear S hV hBel HD
  refine (next_any dk 4 V (by omega) (by omega) HS.out.deck).mono ?_
  rintro e V1 ⟨v1, rfl, hv0, hv1, hD, hG⟩
  have HS1 := Lib.hid (HS.out.turn hD hG)
  clear HS hD hG
  go_wp2_with fail
  obtain ⟨V2, hV2⟩ : ∃ V2, V2 = V1.alloc (.cells #[.int .i64 3, .int .i64 3, .int .i64 9, .int .i64 33] 3) := ⟨_, rfl⟩
  obtain ⟨q, hq⟩ : ∃ q, q = V1.heap.size := ⟨_, rfl⟩
  have hb2 : Below V1.heap.size V1 V2 := by rw [hV2]; exact (Below.refl _ V1).alloc (Nat.le_refl _) _
  have HQ := Lib.hid (show Blk V2 q 3 #[.int .i64 3, .int .i64 3, .int .i64 9, .int .i64 33] by rw [hV2, hq]; exact Blk.new _ _ _)
  have HS2 := Lib.hid (HS1.out.turn (HS1.out.deck.next hb2) (turn_below hb2))
  have HN := Lib.hid (show q ≠ dk by have := HS1.out.deck.lt; omega)
  rw [← hV2]
  refine (next_any dk 4 V2 (by omega) (by omega) HS2.out.deck).mono ?_
  rintro e V3 ⟨v2, rfl, hx0, hx1, hD, hG⟩
  have HS3 := Lib.hid (HS2.out.turn hD hG)
  have HQ3 := Lib.hid (HQ.out.turn hG HN.out)
  clear HS1 HS2 HQ hD hG hb2 hV2
  have HQE := Lib.hid hq
  clear hq
  obtain ⟨x, e, hx⟩ : ∃ x : Nat, v2 = x ∧ x < 4 := ⟨v2.toNat, by omega, by omega⟩
  subst e
  obtain ⟨y, hy, y0, y1⟩ : ∃ y : Int, V3.cell? ⟨q, 0 + x, none⟩ = some (.int .i64 y) ∧ 1 ≤ y ∧ y ≤ 33 := by
    rw [Nat.zero_add]
    rcases (by omega : x = 0 ∨ x = 1 ∨ x = 2 ∨ x = 3) with r | r | r | r <;> subst r
    · exact ⟨3, HQ3.out.cell 0, by omega, by omega⟩
    · exact ⟨3, HQ3.out.cell 1, by omega, by omega⟩
    · exact ⟨9, HQ3.out.cell 2, by omega, by omega⟩
    · exact ⟨33, HQ3.out.cell 3, by omega, by omega⟩
  rw [Nat.zero_add, HQE.out] at hy
  go_wp2_with fail
  refine (next_any dk y V3 (by omega) (by omega) HS3.out.deck).mono ?_
  rintro e V4 ⟨v4, rfl, hz0, hz1, hD, hG⟩
  have HS4 := Lib.hid (HS3.out.turn hD hG)
  clear HS3 HQ3 hD hG hy HQE HN
  obtain ⟨r, e, hr⟩ : ∃ r : Nat, v1 = r ∧ r ≤ 3 := ⟨v1.toNat, by omega, by omega⟩
  subst e
  obtain ⟨d, e, hd⟩ : ∃ d : Nat, v4 = d ∧ d ≤ 32 := ⟨v4.toNat, by omega, by omega⟩
  subst e
  clear hv0 hv1 hx0 hx1 hz0 hz1 hx
  have q0 := HS4.out.x0.cell 0
  have q1 := HS4.out.x0.cell 1
  have q2 := HS4.out.x0.cell 2
  have r0 := HS4.out.x1.cell 0
  have r1 := HS4.out.x1.cell 1
  have r2 := HS4.out.x1.cell 2
  have r3 := HS4.out.x1.cell 3
  have r4 := HS4.out.x1.cell 4
  simp at q0 q1 q2 r0 r1 r2 r3 r4
  have s1 : IntKind.i64.wrap (1 + (r : Int)) = 1 + r := IntWalk.i64_in _ (by omega)
  have s2 : IntKind.i64.wrap (1 + (r : Int) + d) = 1 + r + d := IntWalk.i64_in _ (by omega)
  go_wp2_with fail
  clear q0 q1 q2 r0 r1 r2 r3 r4 s1 s2
  rw [show (1 + (r : Int) + d) = ((1 + r + d : Nat) : Int) by omega]
  refine (alloc_any k A (some ⟨g, 0, none⟩) nw c n c' wd F i0 i1 i2 i3 i4 (1 + r + d) V4 HS4.out.own.arr HS4.out.ownT.tab HV.out.1 (by omega)).mono ?_
  rintro e V5 ⟨v0, v1, v2, j0, j1, j2, j3, j4, a, err, rfl, hB5, ⟨k1, A1, n1, c1, A2, n2, c2, rfl, rfl, rfl⟩, hok⟩
  have HOK := Lib.hid hok
  have HB5 := Lib.hid hB5
  clear hok hB5
  have HS5 := Lib.hid (HS4.out.turn (HS4.out.deck.next HB5.out) (turn_below HB5.out))
  have hz4 : B ≤ V4.heap.size := by have := HS4.out.turned.size; omega
  have hz5 : V4.heap.size ≤ V5.heap.size := HB5.out.size
  have hz6 : w.heap.size + 1 + 1 + 1 < V5.heap.size := HS5.out.x3.lt
  have hz7 : w.heap.size + 1 + 1 < V5.heap.size := by omega
  by_cases he : err = 0
  · subst he
    obtain ⟨A5, c5, g5, c5', F5, first, last, sq, st, m, W, e0, e1, e2, hO, hT5, hval, hch, hst, ha, hW, hown, hj0, hj1, hj2, hj3, hj4, hsq, hst', hm', hwo, hkeep, hcnt⟩ := HOK.out rfl
    injection e0 with _ e0
    injection e1 with e1 e1' e1''
    injection e2 with e2 e2' e2''
    subst k1 A5 n1 c5 A2 n2 c5'
    obtain ⟨X, hX⟩ : ∃ X, X = V5.heap.size := ⟨_, rfl⟩
    obtain ⟨V6, hV6⟩ : ∃ V6, V6 = ((V5.alloc (.cells #[.int .i64 k, .slice A1 nw c1, .slice (some ⟨g5, 0, none⟩) n c2] 25)).alloc (.cells #[.int .i64 j0, .int .i64 j1, .int .i64 j2, .int .i64 j3, .int .i64 j4] 53)) := ⟨_, rfl⟩
    have hb6 : Below V5.heap.size V5 V6 := by rw [hV6]; exact ((Below.refl _ _).alloc (Nat.le_refl _) _).alloc (by simp) _
    have HS6 := Lib.hid (HS5.out.turn (HS5.out.deck.next hb6) (turn_below hb6))
    have hz8 : V5.heap.size + 1 < V6.heap.size := by rw [hV6]; simp
    have hz9 : V5.heap.size < V6.heap.size := by omega
    have HX0 := Lib.hid (show Blk V6 V5.heap.size 25 #[.int .i64 k, .slice A1 nw c1, .slice (some ⟨g5, 0, none⟩) n c2] by rw [hV6]; exact (Blk.new _ _ _).alloc _)
    have HX1 := Lib.hid (show Blk V6 (V5.heap.size + 1) 53 #[.int .i64 j0, .int .i64 j1, .int .i64 j2, .int .i64 j3, .int .i64 j4] by rw [hV6]; exact Blk.newAt _ _ _ _ (by simp))
    have HO := Lib.hid (hO.below hb6)
    have HT5 := Lib.hid (hT5.below hb6)
    have HVAL := Lib.hid hval
    have HOWN := Lib.hid (show ∀ j, (F5 j).ow ≤ 50 from fun j => by rcases hown j with h | h <;> rw [h]; exact HV.out.2 j; exact hin.2.1)
    have HJ0 := Lib.hid hj0
    have HJ1 := Lib.hid hj1
    have HK5 := Lib.hid (show KeepsO F F5 i0 from ⟨hkeep, hown⟩)
    have HIN := Lib.hid (show IncP F5 n k j0 j1 j2 j3 j4 by
      obtain ⟨x1, x2, x3, x4, W', x5, _, x7⟩ := hin
      obtain rfl : W' = W := by omega
      subst hsq hst' hm' hj0 hj1 hj2 hj3
      exact ⟨x1, x2, x3, x4, _, hj4, hch, by omega⟩)
    have HCH := Lib.hid hch
    have HST := Lib.hid hst
    have HA5 := Lib.hid ha
    have HW := Lib.hid hW
    have HV6 := Lib.hid hV6
    have HXX := Lib.hid hX
    clear hX hb6 HS5 HS4 HB5 HOK hO hT5 hval hch hst ha hW hown hj0 hj1 hj2 hj3 hj4 hsq hst' hm' hwo hkeep hcnt
    go_wp2_with fail
    rw [← hV6]
    clear hV6
    have q0 := HX0.out.cell 0
    have q1 := HX0.out.cell 1
    have q2 := HX0.out.cell 2
    simp at q0 q1 q2
    go_wp2_with fail
    rw [HA5.out]
    refine (init_pos k nw n c1 c2 A1 _ wd F5 first last sq st m W r d V6 HO.out.arr HT5.out.tab HVAL.out HCH.out HST.out (by omega) hd HW.out).mono ?_
    rintro e V7 ⟨A7, c7, g7, c7', wd7, rfl, hO7, hT7, hv7, hB7⟩
    have HS7 := Lib.hid (HS6.out.turn (HS6.out.deck.next hB7) (turn_below hB7))
    have hz10 : V6.heap.size ≤ V7.heap.size := hB7.size
    have HY0 := Lib.hid (HX0.out.next hB7)
    have HY1 := Lib.hid (HX1.out.next hB7)
    have HO7 := Lib.hid hO7
    have HT7 := Lib.hid hT7
    have HV7 := Lib.hid hv7
    clear q0 q1 q2 HX0 HX1 HS6 hB7 hO7 hT7 hv7 HO HT5
    have f0 := HY0.out.frozen 0
    have f1 := HY0.out.frozen 1
    have f2 := HY0.out.frozen 2
    have q0 := HY0.out.cell 0
    have q1 := HY0.out.cell 1
    have q2 := HY0.out.cell 2
    simp at q0 q1 q2
    have za : V5.heap.size < V7.heap.size := by omega
    have hTN : w.grownBy V7 (some dk) := HS7.out.turned
    go_wp2_with fail
    obtain ⟨V8, hV8⟩ : ∃ V8, V8 = (((V7.setCell ⟨V5.heap.size, 0, none⟩ (.int .i64 k)).setCell ⟨V5.heap.size, 1, none⟩ (.slice A7 nw c7)).setCell ⟨V5.heap.size, 2, none⟩ (.slice (some ⟨g7, 0, none⟩) n c7')) := ⟨_, rfl⟩
    rw [← hV8]
    have Z0 : Blk V8 V5.heap.size 25 #[.int .i64 k, .slice A7 nw c7, .slice (some ⟨g7, 0, none⟩) n c7'] := by rw [hV8]; exact ((HY0.out.set_ 0 _).set_ 1 _).set_ 2 _
    have Z1 : Blk V8 (V5.heap.size + 1) 53 #[.int .i64 j0, .int .i64 j1, .int .i64 j2, .int .i64 j3, .int .i64 j4] := by rw [hV8]; exact HY1.out.far3 (by omega) _ _ _
    have Z2 : Blk V8 (w.heap.size + 1 + 1) 25 #[.int .i64 0, .slice none 0 0, .slice none 0 0] := by rw [hV8]; exact HS7.out.x2.far3 (by omega) _ _ _
    have Z3 : Blk V8 (w.heap.size + 1 + 1 + 1) 53 #[.int .i64 0, .int .i64 0, .int .i64 0, .int .i64 0, .int .i64 0] := by rw [hV8]; exact HS7.out.x3.far3 (by omega) _ _ _
    have ZD := Lib.hid (show DeckP V8 dk by rw [hV8]; exact ((HS7.out.deck.far (by show dk < V5.heap.size; omega) _).far (by show dk < V5.heap.size; omega) _).far (by show dk < V5.heap.size; omega) _)
    have ZT := Lib.hid (show w.grownBy V8 (some dk) by rw [hV8]; exact turn_new (turn_new (turn_new hTN _ (by show _ ≤ V5.heap.size; omega) _) _ (by show _ ≤ V5.heap.size; omega) _) _ (by show _ ≤ V5.heap.size; omega) _)
    have ZO := Lib.hid (show Own V8 V6.heap.size A7 nw c7 wd7 by rw [hV8]; exact HO7.out.put3 (by omega) _ _ _)
    have ZT7 := Lib.hid (show OwnT V8 V6.heap.size (some ⟨g7, 0, none⟩) n c7' F5 by rw [hV8]; exact HT7.out.put3 (by omega) _ _ _)
    have z8 : V7.heap.size ≤ V8.heap.size := by rw [hV8]; simp
    clear hV8 hTN f0 f1 f2 q0 q1 q2 HY0 HY1 HO7 HT7 HS7
    have zX0 : V5.heap.size < V8.heap.size := Z0.lt
    have zX1 : V5.heap.size + 1 < V8.heap.size := Z1.lt
    have zX2' : w.heap.size + 1 + 1 < V8.heap.size := Z2.lt
    have zX3' : w.heap.size + 1 + 1 + 1 < V8.heap.size := Z3.lt
    have q0 := Z0.cell 0
    have q1 := Z0.cell 1
    have q2 := Z0.cell 2
    have t0 := Z1.cell 0
    have t1 := Z1.cell 1
    have t2 := Z1.cell 2
    have t3 := Z1.cell 3
    have t4 := Z1.cell 4
    have u0 := Z2.cell 0
    have u1 := Z2.cell 1
    have u2 := Z2.cell 2
    have y0 := Z3.cell 0
    have y1 := Z3.cell 1
    have y2 := Z3.cell 2
    have y3 := Z3.cell 3
    have y4 := Z3.cell 4
    have rf0 := Z2.frozen 0
    have rf1 := Z2.frozen 1
    have rf2 := Z2.frozen 2
    have tf0 := Z3.frozen 0
    have tf1 := Z3.frozen 1
    have tf2 := Z3.frozen 2
    have tf3 := Z3.frozen 3
    have tf4 := Z3.frozen 4
    simp at q0 q1 q2 t0 t1 t2 t3 t4 u0 u1 u2 y0 y1 y2 y3 y4
    clear Z0 Z1 Z2 Z3
    have FIN : ∀ w', Own w' B A7 nw c7 wd7 → OwnT w' B (some ⟨g7, 0, none⟩) n c7' F5 → DeckP w' dk → w.grownBy w' (some dk) →
        GrownOf dk B k nw n F i0 i1 w (.returned (.tuple #[.agg #[.int .i64 k, .slice A7 nw c7, .slice (some ⟨g7, 0, none⟩) n c7'], .agg #[.int .i64 j0, .int .i64 j1, .int .i64 j2, .int .i64 j3, .int .i64 j4]])) w' :=
      fun w' a1 a2 a3 a4 => ⟨A7, c7, g7, c7', wd7, F5, _, _, _, _, _, rfl, a1, a2, ⟨HV7.out, HOWN.out⟩, a3, a4, HJ0.out, HJ1.out, HIN.out, HK5.out⟩
    have HFIN := Lib.hid FIN
    clear FIN HV HVAL HCH HST HW HA5
    go_wp2
    go_region
    go_wp2
    refine bodyPost_ret (v := .tuple #[.agg #[.int .i64 k, .slice A7 nw c7, .slice (some ⟨g7, 0, none⟩) n c7'], .agg #[.int .i64 j0, .int .i64 j1, .int .i64 j2, .int .i64 j3, .int .i64 j4]]) (by simp [results, Try.results27, go_sem, u0, u1, u2, y0, y1, y2, y3, y4]) rfl ?_
    have G := turn_drew (turn_put8 ZT.out (show w.heap.size ≤ w.heap.size + 1 + 1 by omega) (show w.heap.size ≤ w.heap.size + 1 + 1 + 1 by omega) (.int .i64 k) (.slice A7 nw c7) (.slice (some ⟨g7, 0, none⟩) n c7') (.int .i64 j0) (.int .i64 j1) (.int .i64 j2) (.int .i64 j3) (.int .i64 j4))
    refine HFIN.out _ ?_ ?_ (ZD.out.put8 (by omega) (by omega) _ _ _ _ _ _ _ _).drew G
    · exact ((ZO.out.put8 (by omega) (by omega) _ _ _ _ _ _ _ _).lower (by omega)).drew
    · exact ((ZT7.out.put8 (by omega) (by omega) _ _ _ _ _ _ _ _).lower (by omega)).drew
  · have hb0 : (err == 0) = false := by simpa using he
    have hb1 : (err != 0) = true := by simpa using he
    clear he HOK
    go_wp2_with fail
    obtain ⟨V6, hV6⟩ : ∃ V6, V6 = ((V5.alloc (.cells #[.int .i64 k1, .slice A1 n1 c1, .slice A2 n2 c2] 25)).alloc (.cells #[.int .i64 j0, .int .i64 j1, .int .i64 j2, .int .i64 j3, .int .i64 j4] 53)) := ⟨_, rfl⟩
    have hb6 : Below V5.heap.size V5 V6 := by rw [hV6]; exact ((Below.refl _ _).alloc (Nat.le_refl _) _).alloc (by simp) _
    rw [← hV6]
    have HS6 := Lib.hid (HS5.out.turn (HS5.out.deck.next hb6) (turn_below hb6))
    have hz8 : V5.heap.size ≤ V6.heap.size := hb6.size
    clear hV6 hb6 HS5 HS4 HB5
    have zX2 : w.heap.size + 2 < V6.heap.size := by omega
    have zX2' : w.heap.size + 1 + 1 < V6.heap.size := by omega
    have zX3' : w.heap.size + 1 + 1 + 1 < V6.heap.size := by omega
    have q0 := HS6.out.x0.cell 0
    have q1 := HS6.out.x0.cell 1
    have q2 := HS6.out.x0.cell 2
    have t0 := HS6.out.x1.cell 0
    have t1 := HS6.out.x1.cell 1
    have t2 := HS6.out.x1.cell 2
    have t3 := HS6.out.x1.cell 3
    have t4 := HS6.out.x1.cell 4
    have u0 := HS6.out.x2.cell 0
    have u1 := HS6.out.x2.cell 1
    have u2 := HS6.out.x2.cell 2
    have y0 := HS6.out.x3.cell 0
    have y1 := HS6.out.x3.cell 1
    have y2 := HS6.out.x3.cell 2
    have y3 := HS6.out.x3.cell 3
    have y4 := HS6.out.x3.cell 4
    have rf0 := HS6.out.x2.frozen 0
    have rf1 := HS6.out.x2.frozen 1
    have rf2 := HS6.out.x2.frozen 2
    have tf0 := HS6.out.x3.frozen 0
    have tf1 := HS6.out.x3.frozen 1
    have tf2 := HS6.out.x3.frozen 2
    have tf3 := HS6.out.x3.frozen 3
    have tf4 := HS6.out.x3.frozen 4
    simp at q0 q1 q2 t0 t1 t2 t3 t4 u0 u1 u2 y0 y1 y2 y3 y4
    have FIN : ∀ w', Own w' B A nw c wd → OwnT w' B (some ⟨g, 0, none⟩) n c' F → DeckP w' dk → w.grownBy w' (some dk) →
        GrownOf dk B k nw n F i0 i1 w (.returned (.tuple #[.agg #[.int .i64 k, .slice A nw c, .slice (some ⟨g, 0, none⟩) n c'], .agg #[.int .i64 i0, .int .i64 i1, .int .i64 i2, .int .i64 i3, .int .i64 i4]])) w' :=
      fun w' a1 a2 a3 a4 => ⟨A, c, g, c', wd, F, _, _, _, _, _, rfl, a1, a2, HV.out, a3, a4, rfl, rfl, HINC.out, KeepsO.refl _ _⟩
    have HFIN := Lib.hid FIN
    clear FIN HV
    go_wp2
    go_region
    go_wp2
    refine bodyPost_ret (v := .tuple #[.agg #[.int .i64 k, .slice A nw c, .slice (some ⟨g, 0, none⟩) n c'], .agg #[.int .i64 i0, .int .i64 i1, .int .i64 i2, .int .i64 i3, .int .i64 i4]]) (by simp [results, Try.results27, go_sem, u0, u1, u2, y0, y1, y2, y3, y4]) rfl ?_
    have G := turn_drew (turn_put8 HS6.out.turned (show w.heap.size ≤ w.heap.size + 1 + 1 by omega) (show w.heap.size ≤ w.heap.size + 1 + 1 + 1 by omega) (.int .i64 k) (.slice A nw c) (.slice (some ⟨g, 0, none⟩) n c') (.int .i64 i0) (.int .i64 i1) (.int .i64 i2) (.int .i64 i3) (.int .i64 i4))
    exact HFIN.out _ (HA.out.turnB G hB) (HT.out.turnB G hB) (HS6.out.deck.put8 (by omega) (by omega) _ _ _ _ _ _ _ _).drew G

end Go.Proofs.Ytpbcpobbjoopnaa
