/-
  Rows of increments that change; what the drawn region of BumpApart leaves. (Made by mkbaa-s9.py.)
-/
import Derived.Test.YthcfcciemjkilaaDoorWst
import Derived.Test.YthcfcciemjkilaaDoorGvp
import Derived.Test.YthcfcciemjkilaaDoorRow9
namespace Go.Proofs.YthcfcciemjkilaaDoor
open Go.RowKit
set_option maxRecDepth 100000
set_option linter.unusedVariables false

/-- Three increments in block Q. -/
def QRow (W : World) (Q : Nat) (I : Nat → IncR) : Prop :=
  ∃ cs, Blk W Q 35 cs ∧ cs.size = 15 ∧ ∀ j, j < 3 → cs[j * 5]? = some (.int .i64 (I j).sq) ∧ cs[j * 5 + 1]? = some (.int .i64 (I j).bt) ∧ cs[j * 5 + 2]? = some (.int .i64 (I j).fi) ∧ cs[j * 5 + 3]? = some (.int .i64 (I j).la) ∧ cs[j * 5 + 4]? = some (.int .i64 (I j).wo)
section
variable {W W' : World} {Q : Nat} {I : Nat → IncR}
theorem QRow.next (h : QRow W Q I) (hb : Below W.heap.size W W') : QRow W' Q I := by
  obtain ⟨cs, h1, h2⟩ := h
  exact ⟨cs, h1.next hb, h2⟩
theorem QRow.turn (h : QRow W Q I) {g : Nat} (hg : W.grownBy W' (some g)) (hn : Q ≠ g) : QRow W' Q I := by
  obtain ⟨cs, h1, h2⟩ := h
  exact ⟨cs, h1.turn hg hn, h2⟩
theorem QRow.far3 (h : QRow W Q I) {b : Nat} (hn : Q ≠ b) (v0 v1 v2 : Value) : QRow (((W.setCell ⟨b, 0, none⟩ v0).setCell ⟨b, 1, none⟩ v1).setCell ⟨b, 2, none⟩ v2) Q I := by
  obtain ⟨cs, h1, h2⟩ := h
  exact ⟨cs, h1.far3 hn _ _ _, h2⟩
theorem QRow.lt (h : QRow W Q I) : Q < W.heap.size := by
  obtain ⟨cs, h1, _⟩ := h
  exact h1.lt
theorem QRow.cells (h : QRow W Q I) {j : Nat} (hj : j < 3) : W.cell? ⟨Q, j * 5, none⟩ = some (.int .i64 (I j).sq) ∧ W.cell? ⟨Q, j * 5 + 1, none⟩ = some (.int .i64 (I j).bt) ∧ W.cell? ⟨Q, j * 5 + 2, none⟩ = some (.int .i64 (I j).fi) ∧ W.cell? ⟨Q, j * 5 + 3, none⟩ = some (.int .i64 (I j).la) ∧ W.cell? ⟨Q, j * 5 + 4, none⟩ = some (.int .i64 (I j).wo) := by
  obtain ⟨cs, h1, h2, h3⟩ := h
  obtain ⟨c0, c1, c2, c3, c4⟩ := h3 j hj
  exact ⟨(h1.cell _).trans c0, (h1.cell _).trans c1, (h1.cell _).trans c2, (h1.cell _).trans c3, (h1.cell _).trans c4⟩
theorem QRow.frozen (h : QRow W Q I) (r : Nat) : W.frozen? ⟨Q, r, none⟩ = false := by
  obtain ⟨cs, h1, h2, h3⟩ := h
  exact h1.frozen r
/-- One of them is written. -/
theorem QRow.store (h : QRow W Q I) {n : Nat} (hn : n < 3) (i : IncR) :
    QRow (((((W.setCell ⟨Q, n * 5, none⟩ (.int .i64 i.sq)).setCell ⟨Q, n * 5 + 1, none⟩ (.int .i64 i.bt)).setCell ⟨Q, n * 5 + 2, none⟩ (.int .i64 i.fi)).setCell ⟨Q, n * 5 + 3, none⟩ (.int .i64 i.la)).setCell ⟨Q, n * 5 + 4, none⟩ (.int .i64 i.wo)) Q (fun j => if j = n then i else I j) := by
  obtain ⟨cs, h1, h2, h3⟩ := h
  refine ⟨_, ((((h1.set_ (n * 5) _).set_ (n * 5 + 1) _).set_ (n * 5 + 2) _).set_ (n * 5 + 3) _).set_ (n * 5 + 4) _, by simpa using h2, fun j hj => ?_⟩
  obtain ⟨c0, c1, c2, c3, c4⟩ := h3 j hj
  rcases (by omega : n = 0 ∨ n = 1 ∨ n = 2) with e | e | e <;> subst e <;> rcases (by omega : j = 0 ∨ j = 1 ∨ j = 2) with e | e | e <;> subst e <;> simp [h2] at c0 c1 c2 c3 c4 ⊢ <;> first | done | exact ⟨c0, c1, c2, c3, c4⟩
end
/-- An increment that is well, with all frames of its owner. -/
def IncOk (F : Nat → Fr) (n k : Nat) (i : IncR) : Prop := IncP F n k i.sq i.bt i.fi i.la i.wo ∧ (i.wo = 0 → i.fi = -1 ∧ i.la = -1)
theorem IncOk.fits {F : Nat → Fr} {n k nw : Nat} {i : IncR} (h : IncOk F n k i) (hnw : nw = n * 2 ^ k) : FitsQ k n nw F i.sq i.bt i.fi i.la i.wo ∧ (i.wo = 0 → cntO F i.sq n = 0) := by
  obtain ⟨h1, h2⟩ := h
  have h1' := h1
  obtain ⟨a1, a2, a3, a4, W, hW, a5, a6⟩ := h1
  by_cases h0 : i.wo = 0
  · obtain ⟨e1, e2⟩ := h2 h0
    refine ⟨by rw [h0, e1, e2]; exact fits_new a1 (by omega) a3 (by omega), fun _ => ?_⟩
    have hW0 : W = 0 := by rw [h0] at hW; omega
    rw [a6, hW0, ceilV_zero]
  · exact ⟨(inc_fits h1' (by omega) hnw).1, fun e => absurd e h0⟩
theorem IncOk.of_fits {F : Nat → Fr} {n k nw : Nat} {sq bt fi la : Int} {W : Nat} (h : FitsQ k n nw F sq bt fi la W) (hw : 0 < W) (h1 : sq ≤ 50) (h2 : bt ≤ 2) : IncOk F n k ⟨sq, bt, fi, la, W⟩ := by
  obtain ⟨⟨a1, _, a3, _, W', hW, _, a5, _⟩, a6⟩ := h
  obtain rfl : W = W' := by omega
  have := a6 (by omega)
  rw [Int.toNat_natCast] at this
  exact ⟨⟨a1, h1, a3, h2, W, rfl, a5, by show cntO F sq n = ceilV W k; omega⟩, fun e => absurd e (by show ¬ ((W : Int) = 0); omega)⟩
theorem IncOk.grown {F F' : Nat → Fr} {n k c0 m : Nat} {sq st fi la : Int} {i : IncR} (h : IncOk F n k i) (hg : Grown_ F n k sq st c0 m fi la F') (hv : FV F n) (hne : i.sq ≠ sq) : IncOk F' n k i := by
  refine ⟨h.1.other ⟨fun j h1 h2 => hg.2.2.2.2.1 j h1 h2, hg.2.2.2.1⟩ hv hne, h.2⟩
/-- The frame of an increment's word is one of its owner's. -/
theorem addr_frame {k nw n : Nat} {wd : Nat → Int} {G : Nat → Fr} {p m W : Nat} {la sq st : Int} (hv : ValidP k nw wd n G) (hc : ChainP G n p la m sq st) (hst : stB st sq = true) (hW : W < m * 2 ^ k) :
    ∃ y r : Nat, addrP G k p W = ((y * 2 ^ k + r : Nat) : Int) ∧ y < n ∧ r < 2 ^ k ∧ (G y).ow = sq := by
  have hz : 0 < 2 ^ k := Nat.two_pow_pos k
  have hq : W / 2 ^ k < m := Nat.div_lt_of_lt_mul (by rw [Nat.mul_comm]; exact hW)
  obtain ⟨y, hy1, hy2, hy3, _⟩ := hc.at_ hv.fv hst hq
  refine ⟨y, W % 2 ^ k, ?_, hy2, Nat.mod_lt _ hz, hy3⟩
  unfold addrP
  rw [hy1]
  simp
/-- What Alloc answers, as values, with what they are where a space is given. -/
theorem all_valX (s : Int) (nw : Nat) (wd : Nat → Int) (n : Nat) (F : Nat → Fr) (sq bt fi la wo d : Int) (hnw : nw ≤ 20000) (hn : n ≤ 80) :
    ∃ (s' : Int) (nw' n' : Nat) (wd' : Nat → Int) (F' : Nat → Fr) (e0 e1 e2 e3 e4 a x : Int), allE s nw wd n F sq bt fi la wo d = x ∧ (x = 0 → s = s' ∧ nw = nw' ∧ n = n' ∧ wd = wd' ∧ (allG s n F sq bt fi la wo d).F = F' ∧ sq = e0 ∧ bt = e1 ∧ (allG s n F sq bt fi la wo d).fi = e2 ∧ (allG s n F sq bt fi la wo d).la = e3 ∧ wo + d = e4 ∧ addrP (allG s n F sq bt fi la wo d).F s.toNat (allG s n F sq bt fi la wo d).fi wo.toNat = a) ∧
      ∀ w e w', AllX s nw wd n F sq bt fi la wo d w e w' → GivesAl s' nw' n' wd' F' e0 e1 e2 e3 e4 a x w e w' := by
  by_cases h : allE s nw wd n F sq bt fi la wo d = 0
  · refine ⟨s, nw, n, wd, (allG s n F sq bt fi la wo d).F, sq, bt, (allG s n F sq bt fi la wo d).fi, (allG s n F sq bt fi la wo d).la, wo + d, addrP (allG s n F sq bt fi la wo d).F s.toNat (allG s n F sq bt fi la wo d).fi wo.toNat, 0, h, fun _ => ⟨rfl, rfl, rfl, rfl, rfl, rfl, rfl, rfl, rfl, rfl, rfl⟩, fun w e w' ht => ?_⟩
    rcases ht with ⟨x, h1, h2, _⟩ | ⟨_, A1, c1, g, c2, he, ho, ht, hb⟩
    · exact absurd (h1.symm.trans h) h2
    · exact ⟨A1, c1, _, c2, he, ho, ht, hb⟩
  · refine ⟨0, 0, 0, fun _ => 0, fun _ => frFree, 0, 0, 0, 0, 0, 0, allE s nw wd n F sq bt fi la wo d, rfl, fun h0 => absurd h0 h, fun w e w' ht => ?_⟩
    rcases ht with ⟨x, h1, h2, he, hb⟩ | ⟨h1, _⟩
    · subst h1
      exact ⟨none, 0, none, 0, he, Own.nil_ _ _ _, OwnT.nil_ _ _ _, hb⟩
    · exact absurd h1 h

/-- What the drawn region of BumpApart leaves: the results in their boxes; Z: the world ahead of it. -/
def AprCut (s : Int) (nw n dk : Nat) (wd : Nat → Int) (F : Nat → Fr) (i : IncR) (Z : World) (p9 p10 p11 p12 : Value) (wx : World) : Prop :=
  ∃ (v : Int) (s' : Int) (nw' n' : Nat) (wd' : Nat → Int) (F' : Nat → Fr) (e0 e1 e2 e3 e4 a x : Int) (b9 b10 : Nat) (B1 : Option Addr) (k1 : Nat) (B1' : Option Addr) (k1' : Nat), 0 ≤ v ∧ v < 20 ∧ allE s nw wd n F i.sq i.bt i.fi i.la i.wo (1 + v) = x ∧
    (x = 0 → s = s' ∧ nw = nw' ∧ n = n' ∧ wd = wd' ∧ (allG s n F i.sq i.bt i.fi i.la i.wo (1 + v)).F = F' ∧ i.sq = e0 ∧ i.bt = e1 ∧ (allG s n F i.sq i.bt i.fi i.la i.wo (1 + v)).fi = e2 ∧ (allG s n F i.sq i.bt i.fi i.la i.wo (1 + v)).la = e3 ∧ i.wo + (1 + v) = e4 ∧ addrP (allG s n F i.sq i.bt i.fi i.la i.wo (1 + v)).F s.toNat (allG s n F i.sq i.bt i.fi i.la i.wo (1 + v)).fi i.wo.toNat = a) ∧
    p9 = .pointer (some ⟨b9, 0, none⟩) ∧ p10 = .pointer (some ⟨b10, 0, none⟩) ∧ p11 = .int .i64 a ∧ p12 = .int .i64 x ∧ Z.heap.size ≤ b9 ∧ Z.heap.size ≤ b10 ∧ b9 ≠ b10 ∧
    Blk wx b9 30 #[.int .i64 s', .slice B1 nw' k1, .slice B1' n' k1'] ∧ Blk wx b10 35 #[.int .i64 e0, .int .i64 e1, .int .i64 e2, .int .i64 e3, .int .i64 e4] ∧ Own wx Z.heap.size B1 nw' k1 wd' ∧ OwnT wx Z.heap.size B1' n' k1' F' ∧ DeckP wx dk ∧ Z.grownBy wx (some dk)
theorem own_named {w : World} {B nw c n c' : Nat} {A A' : Option Addr} {wd : Nat → Int} {F : Nat → Fr} (ho : Own w B A nw c wd) (ht : OwnT w B A' n c' F) : ∃ bx, bx = B ∧ Own w bx A nw c wd ∧ OwnT w bx A' n c' F := ⟨B, rfl, ho, ht⟩
theorem DeckP.alloc9 {w : World} {dk : Nat} (h : DeckP w dk) (o : Obj) : DeckP (w.alloc o) dk := h.next ((Below.refl _ _).alloc (Nat.le_refl _) _)
theorem DeckP.put3 {w : World} {dk b : Nat} (h : DeckP w dk) (hb : dk < b) (v0 v1 v2 : Value) : DeckP (((w.setCell ⟨b, 0, none⟩ v0).setCell ⟨b, 1, none⟩ v1).setCell ⟨b, 2, none⟩ v2) dk :=
  ((h.far (p := ⟨b, 0, none⟩) hb _).far (p := ⟨b, 1, none⟩) hb _).far (p := ⟨b, 2, none⟩) hb _
theorem DeckP.put5 {w : World} {dk b : Nat} (h : DeckP w dk) (hb : dk < b) (v0 v1 v2 v3 v4 : Value) : DeckP (((((w.setCell ⟨b, 0, none⟩ v0).setCell ⟨b, 1, none⟩ v1).setCell ⟨b, 2, none⟩ v2).setCell ⟨b, 3, none⟩ v3).setCell ⟨b, 4, none⟩ v4) dk :=
  ((h.put3 hb _ _ _).far (p := ⟨b, 3, none⟩) hb _).far (p := ⟨b, 4, none⟩) hb _
theorem turn_put3 {a w : World} {g b : Nat} (h : a.grownBy w (some g)) (hb : a.heap.size ≤ b) (v0 v1 v2 : Value) : a.grownBy (((w.setCell ⟨b, 0, none⟩ v0).setCell ⟨b, 1, none⟩ v1).setCell ⟨b, 2, none⟩ v2) (some g) :=
  turn_new (turn_new (turn_new h _ hb _) _ hb _) _ hb _
end Go.Proofs.YthcfcciemjkilaaDoor
