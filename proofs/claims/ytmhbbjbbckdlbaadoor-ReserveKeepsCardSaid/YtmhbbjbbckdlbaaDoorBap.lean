/-
  What growing needs: stamps and links; contracts of package bump: clone, appendFrames. (Made by mkapp-s9.py.)
-/
import Derived.Test.YtmhbbjbbckdlbaaDoorBmp
import Derived.Test.YtmhbbjbbckdlbaaDoorMPoolw
import Derived.Test.YtmhbbjbbckdlbaaDoorMLink
import Derived.Deep.RegionHeld3
import Derived.Deep.DeepCutAuto
namespace Go.Proofs.YtmhbbjbbckdlbaaDoor
open Go.RowKit
set_option maxRecDepth 100000
set_option linter.unusedVariables false

theorem nodup_len : ∀ (a b : List Nat), a.Nodup → (∀ x ∈ a, x ∈ b) → a.length ≤ b.length
  | [], b, _, _ => by simp
  | x :: a, b, h, hs => by
    rw [List.nodup_cons] at h
    have hx : x ∈ b := hs x (by simp)
    have ih := nodup_len a (b.erase x) h.2 (fun y hy => (List.mem_erase_of_ne (fun e => by subst e; exact h.1 hy)).2 (hs y (by simp [hy])))
    rw [List.length_erase_of_mem hx] at ih
    have := List.length_pos_of_mem hx
    simp
    omega
theorem nodup_all {a b : List Nat} (h : a.Nodup) (hs : ∀ x ∈ a, x ∈ b) (hl : b.length ≤ a.length) : ∀ x ∈ b, x ∈ a := by
  intro x hx
  rcases Classical.em (x ∈ a) with h1 | h1
  · exact h1
  · have := nodup_len (x :: a) b (List.nodup_cons.2 ⟨h1, h⟩) (fun y hy => by
      rcases List.mem_cons.1 hy with rfl | h2
      · exact hx
      · exact hs y h2)
    simp at this
    omega
theorem cntO_cntP (F : Nat → Fr) (o : Int) : ∀ t, cntO F o t = cntP (owB F o) t
  | 0 => rfl
  | t + 1 => by
    simp only [cntO, cntP, cntO_cntP F o t]
    by_cases h : (F t).ow = o
    · rw [if_pos h, owB_yes h]; rfl
    · rw [if_neg h, owB_no h]; rfl
theorem freeN_cntP (F : Nat → Fr) : ∀ t, freeN F t = cntP (owB F (-1)) t
  | 0 => rfl
  | t + 1 => by
    simp only [freeN, cntP, freeN_cntP F t]
    by_cases h : (F t).ow = -1
    · rw [if_pos h, owB_yes h]; rfl
    · rw [if_neg h, owB_no h]; rfl
/-- All frames of an owner have one stamp. -/
def StampP (F : Nat → Fr) (n : Nat) (sq st : Int) : Prop := ∀ f, f < n → (F f).ow = sq → (F f).st = st
theorem StampP.lift {F : Nat → Fr} {n f : Nat} {sq st : Int} (h : StampP F n sq st) : StampP (lift F f sq st) n sq st := by
  intro j hj ho
  by_cases e : j = f
  · subst e; rw [lift_same]
  · rw [lift_other e] at ho ⊢; exact h j hj ho
theorem StampP.link {F : Nat → Fr} {n l : Nat} {sq st f : Int} (h : StampP F n sq st) : StampP (link F l f) n sq st := by
  intro j hj ho
  by_cases e : j = l
  · subst e; rw [link_same] at ho ⊢; exact h _ hj ho
  · rw [link_other e] at ho ⊢; exact h j hj ho
/-- The frames of a chain are all frames of its owner where they are as many. -/
theorem chain_all {F : Nat → Fr} {n m : Nat} {fi la sq st : Int} (hv : FV F n) (hst : stB st sq = true) (hc : ChainP F n fi la m sq st) (hm : cntO F sq n = m) {f : Nat} (hf : f < n) (ho : (F f).ow = sq) : ∃ i, i < m ∧ iter F i fi = f := by
  have hpos : 0 < m := by
    rw [← hm, cntO_cntP, ← lstP_length]
    have : f ∈ lstP (owB F sq) n := (mem_lstP _ _ _).2 ⟨hf, owB_yes ho⟩
    exact List.length_pos_of_mem this
  rcases hc with ⟨h0, _⟩ | ⟨_, p, l, rfl, hp, hla, hl, h6, h7, h8, h9⟩
  · omega
  · have hc : ChainP F n p la m sq st := .inr ⟨hpos, p, l, rfl, hp, hla, hl, h6, h7, h8, h9⟩
    have hlen : LenP F p m := ⟨hc.end_ hpos, fun i hi he => by obtain ⟨q, hq1, _⟩ := hc.at_ hv hst hi; omega⟩
    have hbnd := hlen.bound hv rfl hp
    have hnd : (chL F n p).Nodup := by
      refine List.pairwise_iff_getElem.2 fun i j hi hj hij e => ?_
      have gi := List.getElem?_eq_getElem hi
      have gj := List.getElem?_eq_getElem hj
      rw [chL_length hlen hbnd] at hj
      rw [chL_get hv hp hlen (show i < m by omega)] at gi
      rw [chL_get hv hp hlen hj] at gj
      have e2 : (iter F i p).toNat = (iter F j p).toNat := (Option.some.inj gi).trans (e.trans (Option.some.inj gj).symm)
      have h1 := (hv.nonneg hp (hlen.2 i (by omega))).1
      have h2 := (hv.nonneg hp (hlen.2 j hj)).1
      exact lenP_inj hlen hij hj (by omega)
    have hsub : ∀ x ∈ chL F n p, x ∈ lstP (owB F sq) n := by
      intro x hx
      obtain ⟨i, hi, e⟩ := (mem_chL' hv hp hlen x).1 hx
      obtain ⟨q, hq1, hq2, hq3, _⟩ := hc.at_ hv hst hi
      obtain rfl : q = x := by omega
      exact (mem_lstP _ _ _).2 ⟨hq2, owB_yes hq3⟩
    have hlen2 : (lstP (owB F sq) n).length ≤ (chL F n p).length := by
      rw [lstP_length, ← cntO_cntP, hm, chL_length hlen hbnd]
      exact Nat.le_refl _
    have h3 := nodup_all hnd hsub hlen2 f ((mem_lstP _ _ _).2 ⟨hf, owB_yes ho⟩)
    exact (mem_chL' hv hp hlen f).1 h3
theorem cntO_not {F : Nat → Fr} {o : Int} {n : Nat} (h : cntO F o n = 0) {f : Nat} (hf : f < n) : (F f).ow ≠ o := by
  intro e
  rw [cntO_cntP, ← lstP_length] at h
  have : f ∈ lstP (owB F o) n := (mem_lstP _ _ _).2 ⟨hf, owB_yes e⟩
  have := List.length_pos_of_mem this
  omega
/-- The stamps of an increment that fits. -/
theorem fits_stamp {k n nw : Nat} {F : Nat → Fr} {sq bt fi la wo : Int} (hv : FV F n) (h : FitsQ k n nw F sq bt fi la wo) (h0 : wo = 0 → cntO F sq n = 0) : StampP F n sq (bt * 4294967296 + sq) := by
  intro f hf ho
  have hst := fits_stB h.1
  obtain ⟨⟨_, _, _, _, W, hW, _, hc, _⟩, h2⟩ := h
  by_cases hw : wo = 0
  · exact absurd ho (cntO_not (h0 hw) hf)
  · have h3 := h2 (by omega)
    subst hW
    rw [Int.toNat_natCast] at h3
    obtain ⟨i, hi, e⟩ := chain_all hv hst hc (by omega) hf ho
    obtain ⟨q, hq1, _, _, hq4⟩ := hc.at_ hv hst hi
    obtain rfl : q = f := by omega
    exact hq4
/-- What a link needs when a frame has just been taken. -/
theorem link_free_ok {F : Nat → Fr} {n m p l f : Nat} {sq st : Int} (hv : FV F n) (hst : stB st sq = true) (hm : 0 < m) (hc : ChainP F n p l m sq st) (hf : Least F n f) : l < n ∧ lnkB (lift F f sq st) n l f = false := by
  have hff := hv.free hf.1 hf.2.1
  have hso : sq ≠ -1 := by have := (stB_yes hst).1; omega
  obtain ⟨q, hq1, hq2, hq3, hq4⟩ := hc.at_ hv hst (show m - 1 < m by omega)
  rcases hc with ⟨h0, _⟩ | ⟨_, p', l', h7, hp, h8, hl, h9, h10, _⟩
  · omega
  · obtain rfl : p = p' := by omega
    obtain rfl : l = l' := by omega
    obtain rfl : l = q := by omega
    have hlf : l ≠ f := fun e => by subst e; rw [hff] at hq3; exact hso hq3.symm
    have hv2 := lift_fv hv hff hst
    refine ⟨hl, ?_⟩
    have h1 : (lift F f sq st l).ow = sq := by rw [lift_other hlf]; exact hq3
    have h2 : (lift F f sq st l).st = (lift F f sq st f).st := by rw [lift_other hlf, lift_same]; exact hq4
    have h3 : (lift F f sq st l).nx = -1 := by rw [lift_other hlf]; exact h10
    have h4 : fol (lift F f sq st) n f = false := by
      cases e : fol (lift F f sq st) n f with
      | false => rfl
      | true =>
        exfalso
        obtain ⟨j, hj, e2⟩ := (fol_iff _ n f).1 e
        rw [lift_nx hff] at e2
        rcases hv.1 j hj with h5 | h5
        · rw [h5] at e2; exact absurd e2 (by show ¬ (-1 : Int) = f; omega)
        · rcases (ownB_yes h5).2 with h6 | ⟨g, h6, h7, _, h8, _⟩
          · omega
          · obtain rfl : g = f := by omega
            rw [hff] at h8
            have := ownB_pos h5
            rw [← h8] at this
            exact absurd this (by decide)
    rw [lnkB_rest (by rw [h1]; exact hso) h2 h3 h4]
    refine decide_eq_false fun hin => ?_
    obtain ⟨i, hi, e⟩ := (mem_chL hv2 hf.1 l).1 hin
    rcases i with _ | i
    · simp only [iter] at e; omega
    · simp only [iter] at e
      rw [if_neg (by omega), Int.toNat_natCast, lift_same, iter_none] at e
      omega

theorem below_alloc9 {w w' : World} (h : Below w.heap.size w w') (o : Obj) : Below w.heap.size w (w'.alloc o) := h.alloc h.size o
theorem below_set9 {w w' : World} (h : Below w.heap.size w w') {p : Addr} (hp : w.heap.size ≤ p.block) (u : Value) : Below w.heap.size w (w'.setCell p u) := h.setCell hp u
theorem absorb9 {P Q : Prop} (h : P) (k : P → Q) : Q := k h
theorem Blk.drew9 {W : World} {b : Nat} {t : TypeId} {cs : Array Value} (h : Blk W b t cs) : Blk W.drew b t cs := h
/-- What appendFrames hands back. -/
def AppX (k nw n : Nat) (wd : Nat → Int) (sq bt : Int) (W : Nat) (x : GrS) (w : World) (e : Ending) (w' : World) : Prop :=
  ∃ (A1 : Option Addr) (c1 g c2 : Nat), e = .returned (.tuple #[.agg #[.int .i64 k, .slice A1 nw c1, .slice (some ⟨g, 0, none⟩) n c2], .agg #[.int .i64 sq, .int .i64 bt, .int .i64 x.fi, .int .i64 x.la, .int .i64 W]]) ∧
    Own w' w.heap.size A1 nw c1 wd ∧ OwnT w' w.heap.size (some ⟨g, 0, none⟩) n c2 x.F ∧ Below w.heap.size w w'
/-- What holds behind the first region: the copies in their boxes. -/
def AppCut (k nw n : Nat) (wd : Nat → Int) (F : Nat → Fr) (sq bt fi la : Int) (W : Nat) (U : World) (a b : Value) (wx : World) : Prop :=
  ∃ (bo bg : Nat) (A1 : Option Addr) (c1 g c2 : Nat), a = .pointer (some ⟨bo, 0, none⟩) ∧ b = .pointer (some ⟨bg, 0, none⟩) ∧ U.heap.size ≤ bo ∧ U.heap.size ≤ bg ∧ bo ≠ bg ∧ Blk wx bo 31 #[.int .i64 k, .slice A1 nw c1, .slice (some ⟨g, 0, none⟩) n c2] ∧
    Blk wx bg 38 #[.int .i64 sq, .int .i64 bt, .int .i64 fi, .int .i64 la, .int .i64 W] ∧ Own wx U.heap.size A1 nw c1 wd ∧ OwnT wx U.heap.size (some ⟨g, 0, none⟩) n c2 F ∧ Below U.heap.size U wx
/-- What holds while appendFrames takes frames; B: the heap's size ahead of the copies. -/
def AppAt (k nw n : Nat) (wd : Nat → Int) (F : Nat → Fr) (sq bt fi0 la0 : Int) (W K c0 : Nat) (U : World) (bo bg : Nat) (kk : Value) (wr : World) : Prop :=
  ∃ (t : Nat) (fi la : Int) (G : Nat → Fr) (A1 : Option Addr) (c1 g c2 : Nat), t ≤ K ∧ growG n sq (bt * 4294967296 + sq) t ⟨F, fi0, la0⟩ = ⟨G, fi, la⟩ ∧ kk = .int .i64 ((K - t : Nat) : Int) ∧ Grown_ F n k sq (bt * 4294967296 + sq) c0 (c0 + t) fi la G ∧ freeN G n + t = freeN F n ∧ StampP G n sq (bt * 4294967296 + sq) ∧
    Blk wr bo 31 #[.int .i64 k, .slice A1 nw c1, .slice (some ⟨g, 0, none⟩) n c2] ∧ Blk wr bg 38 #[.int .i64 sq, .int .i64 bt, .int .i64 fi, .int .i64 la, .int .i64 W] ∧
    Own wr U.heap.size A1 nw c1 wd ∧ OwnT wr U.heap.size (some ⟨g, 0, none⟩) n c2 G ∧ Below U.heap.size U wr
theorem Blk.set5 {w : World} {b : Nat} {t : TypeId} {a0 a1 a2 a3 a4 : Value} (h : Blk w b t #[a0, a1, a2, a3, a4]) (v0 v1 v2 v3 v4 : Value) : Blk (((((w.setCell ⟨b, 0, none⟩ v0).setCell ⟨b, 1, none⟩ v1).setCell ⟨b, 2, none⟩ v2).setCell ⟨b, 3, none⟩ v3).setCell ⟨b, 4, none⟩ v4) b t #[v0, v1, v2, v3, v4] :=
  ((((h.set_ 0 v0).set_ 1 v1).set_ 2 v2).set_ 3 v3).set_ 4 v4

section
variable {k nw n c1 g c2 W B : Nat} {wd : Nat → Int} {F : Nat → Fr} {sq bt fi la : Int} {U wn : World} {A1 : Option Addr} {a0 a1 a2 b0 b1 b2 b3 b4 : Value}
abbrev apS (k : Nat) (A1 : Option Addr) (nw c1 g n c2 : Nat) : Array Value := #[.int .i64 k, .slice A1 nw c1, .slice (some ⟨g, 0, none⟩) n c2]
abbrev apI (sq bt fi la : Int) (W : Nat) : Array Value := #[.int .i64 sq, .int .i64 bt, .int .i64 fi, .int .i64 la, .int .i64 W]
theorem Own.alloc9 {base : Nat} (h : Own wn base A1 nw c1 wd) (o : Obj) : Own (wn.alloc o) base A1 nw c1 wd := h.below ((Below.refl _ _).alloc (Nat.le_refl _) _)
theorem OwnT.alloc9 {base : Nat} (h : OwnT wn base A1 nw c1 F) (o : Obj) : OwnT (wn.alloc o) base A1 nw c1 F := h.below ((Below.refl _ _).alloc (Nat.le_refl _) _)
theorem Own.put5 {base b : Nat} (h : Own wn base A1 nw c1 wd) (hb : b < base) (v0 v1 v2 v3 v4 : Value) : Own (((((wn.setCell ⟨b, 0, none⟩ v0).setCell ⟨b, 1, none⟩ v1).setCell ⟨b, 2, none⟩ v2).setCell ⟨b, 3, none⟩ v3).setCell ⟨b, 4, none⟩ v4) base A1 nw c1 wd :=
  ((h.put3 hb _ _ _).far (p := ⟨b, 3, none⟩) hb _).far (p := ⟨b, 4, none⟩) hb _
theorem OwnT.put5 {base b : Nat} (h : OwnT wn base A1 nw c1 F) (hb : b < base) (v0 v1 v2 v3 v4 : Value) : OwnT (((((wn.setCell ⟨b, 0, none⟩ v0).setCell ⟨b, 1, none⟩ v1).setCell ⟨b, 2, none⟩ v2).setCell ⟨b, 3, none⟩ v3).setCell ⟨b, 4, none⟩ v4) base A1 nw c1 F :=
  ((h.put3 hb _ _ _).far (p := ⟨b, 3, none⟩) hb _).far (p := ⟨b, 4, none⟩) hb _
theorem below_put5 {a : World} {B b : Nat} (h : Below B a wn) (hb : B ≤ b) (v0 v1 v2 v3 v4 : Value) : Below B a (((((wn.setCell ⟨b, 0, none⟩ v0).setCell ⟨b, 1, none⟩ v1).setCell ⟨b, 2, none⟩ v2).setCell ⟨b, 3, none⟩ v3).setCell ⟨b, 4, none⟩ v4) :=
  ((below_put3 h hb _ _ _).setCell (p := ⟨b, 3, none⟩) hb _).setCell (p := ⟨b, 4, none⟩) hb _
theorem app_cut1 (hub : Below U.heap.size U wn) (ho : Own wn B A1 nw c1 wd) (ht : OwnT wn B (some ⟨g, 0, none⟩) n c2 F) (hB : U.heap.size ≤ B) :
    AppCut k nw n wd F sq bt fi la W U (.pointer (some ⟨wn.heap.size, 0, none⟩)) (.pointer (some ⟨wn.heap.size + 1, 0, none⟩)) ((wn.alloc (.cells (apS k A1 nw c1 g n c2) 31)).alloc (.cells (apI sq bt fi la W) 38)) :=
  ⟨_, _, A1, c1, g, c2, rfl, rfl, hub.size, by have := hub.size; omega, by omega, (Blk.new _ _ _).alloc _, Blk.newAt _ _ _ _ (by simp), ((ho.alloc9 _).alloc9 _).lower hB, ((ht.alloc9 _).alloc9 _).lower hB, below_alloc9 (below_alloc9 hub _) _⟩
theorem app_cut2 (hub : Below U.heap.size U wn) (ho : Own wn B A1 nw c1 wd) (ht : OwnT wn B (some ⟨g, 0, none⟩) n c2 F) (hB : U.heap.size ≤ B) :
    AppCut k nw n wd F sq bt fi la W U (.pointer (some ⟨wn.heap.size + 1, 0, none⟩)) (.pointer (some ⟨wn.heap.size, 0, none⟩)) ((wn.alloc (.cells (apI sq bt fi la W) 38)).alloc (.cells (apS k A1 nw c1 g n c2) 31)) :=
  ⟨_, _, A1, c1, g, c2, rfl, rfl, by have := hub.size; omega, hub.size, by omega, Blk.newAt _ _ _ _ (by simp), (Blk.new _ _ _).alloc _, ((ho.alloc9 _).alloc9 _).lower hB, ((ht.alloc9 _).alloc9 _).lower hB, below_alloc9 (below_alloc9 hub _) _⟩
theorem app_cut3 (hub : Below U.heap.size U wn) (bb : Blk wn U.heap.size 31 #[a0, a1, a2]) (ho : Own wn B A1 nw c1 wd) (ht : OwnT wn B (some ⟨g, 0, none⟩) n c2 F) (hB : U.heap.size < B) :
    AppCut k nw n wd F sq bt fi la W U (.pointer (some ⟨U.heap.size, 0, none⟩)) (.pointer (some ⟨wn.heap.size, 0, none⟩)) ((((wn.setCell ⟨U.heap.size, 0, none⟩ (.int .i64 k)).setCell ⟨U.heap.size, 1, none⟩ (.slice A1 nw c1)).setCell ⟨U.heap.size, 2, none⟩ (.slice (some ⟨g, 0, none⟩) n c2)).alloc (.cells (apI sq bt fi la W) 38)) :=
  have h := bb.lt
  ⟨_, _, A1, c1, g, c2, rfl, rfl, Nat.le_refl _, by omega, by omega, (bb.set3 _ _ _).alloc _, Blk.newAt _ _ _ _ (by simp), ((ho.put3 hB _ _ _).alloc9 _).lower (by omega), ((ht.put3 hB _ _ _).alloc9 _).lower (by omega), below_alloc9 (below_put3 hub (Nat.le_refl _) _ _ _) _⟩
theorem app_cut4 (hub : Below U.heap.size U wn) (bb : Blk wn U.heap.size 31 #[a0, a1, a2]) (be : Blk wn (U.heap.size + 1) 38 #[b0, b1, b2, b3, b4]) (ho : Own wn B A1 nw c1 wd) (ht : OwnT wn B (some ⟨g, 0, none⟩) n c2 F) (hB : U.heap.size + 1 < B) :
    AppCut k nw n wd F sq bt fi la W U (.pointer (some ⟨U.heap.size, 0, none⟩)) (.pointer (some ⟨U.heap.size + 1, 0, none⟩)) ((((((((wn.setCell ⟨U.heap.size, 0, none⟩ (.int .i64 k)).setCell ⟨U.heap.size, 1, none⟩ (.slice A1 nw c1)).setCell ⟨U.heap.size, 2, none⟩ (.slice (some ⟨g, 0, none⟩) n c2)).setCell ⟨U.heap.size + 1, 0, none⟩ (.int .i64 sq)).setCell ⟨U.heap.size + 1, 1, none⟩ (.int .i64 bt)).setCell ⟨U.heap.size + 1, 2, none⟩ (.int .i64 fi)).setCell ⟨U.heap.size + 1, 3, none⟩ (.int .i64 la)).setCell ⟨U.heap.size + 1, 4, none⟩ (.int .i64 W)) :=
  ⟨_, _, A1, c1, g, c2, rfl, rfl, Nat.le_refl _, by omega, by omega, (bb.set3 _ _ _).turn5 (by omega) _ _ _ _ _, (be.far3 (by omega) _ _ _).set5 _ _ _ _ _, ((ho.put3 (by omega) _ _ _).put5 hB _ _ _ _ _).lower (by omega), ((ht.put3 (by omega) _ _ _).put5 hB _ _ _ _ _).lower (by omega), below_put5 (below_put3 hub (Nat.le_refl _) _ _ _) (by omega) _ _ _ _ _⟩
theorem app_cut5 (hub : Below U.heap.size U wn) (bd : Blk wn U.heap.size 38 #[b0, b1, b2, b3, b4]) (ho : Own wn B A1 nw c1 wd) (ht : OwnT wn B (some ⟨g, 0, none⟩) n c2 F) (hB : U.heap.size < B) :
    AppCut k nw n wd F sq bt fi la W U (.pointer (some ⟨wn.heap.size, 0, none⟩)) (.pointer (some ⟨U.heap.size, 0, none⟩)) ((((((wn.setCell ⟨U.heap.size, 0, none⟩ (.int .i64 sq)).setCell ⟨U.heap.size, 1, none⟩ (.int .i64 bt)).setCell ⟨U.heap.size, 2, none⟩ (.int .i64 fi)).setCell ⟨U.heap.size, 3, none⟩ (.int .i64 la)).setCell ⟨U.heap.size, 4, none⟩ (.int .i64 W)).alloc (.cells (apS k A1 nw c1 g n c2) 31)) :=
  have h := bd.lt
  ⟨_, _, A1, c1, g, c2, rfl, rfl, by omega, Nat.le_refl _, by omega, Blk.newAt _ _ _ _ (by simp), (bd.set5 _ _ _ _ _).alloc _, ((ho.put5 hB _ _ _ _ _).alloc9 _).lower (by omega), ((ht.put5 hB _ _ _ _ _).alloc9 _).lower (by omega), below_alloc9 (below_put5 hub (Nat.le_refl _) _ _ _ _ _) _⟩
theorem app_cut6 (hub : Below U.heap.size U wn) (bc : Blk wn (U.heap.size + 1) 31 #[a0, a1, a2]) (bd : Blk wn U.heap.size 38 #[b0, b1, b2, b3, b4]) (ho : Own wn B A1 nw c1 wd) (ht : OwnT wn B (some ⟨g, 0, none⟩) n c2 F) (hB : U.heap.size + 1 < B) :
    AppCut k nw n wd F sq bt fi la W U (.pointer (some ⟨U.heap.size + 1, 0, none⟩)) (.pointer (some ⟨U.heap.size, 0, none⟩)) ((((((((wn.setCell ⟨U.heap.size + 1, 0, none⟩ (.int .i64 k)).setCell ⟨U.heap.size + 1, 1, none⟩ (.slice A1 nw c1)).setCell ⟨U.heap.size + 1, 2, none⟩ (.slice (some ⟨g, 0, none⟩) n c2)).setCell ⟨U.heap.size, 0, none⟩ (.int .i64 sq)).setCell ⟨U.heap.size, 1, none⟩ (.int .i64 bt)).setCell ⟨U.heap.size, 2, none⟩ (.int .i64 fi)).setCell ⟨U.heap.size, 3, none⟩ (.int .i64 la)).setCell ⟨U.heap.size, 4, none⟩ (.int .i64 W)) :=
  ⟨_, _, A1, c1, g, c2, rfl, rfl, by omega, Nat.le_refl _, by omega, (bc.set3 _ _ _).turn5 (by omega) _ _ _ _ _, (bd.far3 (by omega) _ _ _).set5 _ _ _ _ _, ((ho.put3 (by omega) _ _ _).put5 (by omega) _ _ _ _ _).lower (by omega), ((ht.put3 (by omega) _ _ _).put5 (by omega) _ _ _ _ _).lower (by omega), below_put5 (below_put3 hub (by omega) _ _ _) (by omega) _ _ _ _ _⟩
end

end Go.Proofs.YtmhbbjbbckdlbaaDoor
