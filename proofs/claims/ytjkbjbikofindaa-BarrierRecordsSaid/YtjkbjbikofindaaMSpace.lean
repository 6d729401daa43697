/-
  Merged: Grow, Alloc, Run, Deck, Grown, Space, Incs.
-/
import Derived.Test.YtjkbjbikofindaaMFits
import Derived.Test.YtjkbjbikofindaaMRef
import Derived.RegionTactic
import Derived.ChangeAlike
import Derived.Deep.DeepCutAuto
import Derived.Test.YtjkbjbikofindaaMR8
import Derived.Test.YtjkbjbikofindaaMBase
import Derived.BigQuiet
namespace Go.Proofs.Ytjkbjbikofindaa
open Go.RowKit
set_option maxRecDepth 100000
set_option linter.unusedVariables false

section
variable {w a : World} {base b n c x g : Nat} {A : Option Addr} {F : Nat → Fr} {f : Nat → Int}
theorem OwnT.apart5 (h : OwnT w base (some ⟨x, 0, none⟩) n c F) (hp : x ≠ b) (v0 v1 v2 v3 v4 : Value) :
    OwnT (((((w.setCell ⟨b, 0, none⟩ v0).setCell ⟨b, 1, none⟩ v1).setCell ⟨b, 2, none⟩ v2).setCell ⟨b, 3, none⟩ v3).setCell ⟨b, 4, none⟩ v4) base (some ⟨x, 0, none⟩) n c F :=
  ((h.apart3 (i := 0) (j := 1) (k := 2) hp v0 v1 v2).apart (p := ⟨b, 3, none⟩) hp v3).apart (p := ⟨b, 4, none⟩) hp v4
theorem turn_new5 (h : a.grownBy w (some g)) (hp : a.heap.size ≤ b) (v0 v1 v2 v3 v4 : Value) :
    a.grownBy (((((w.setCell ⟨b, 0, none⟩ v0).setCell ⟨b, 1, none⟩ v1).setCell ⟨b, 2, none⟩ v2).setCell ⟨b, 3, none⟩ v3).setCell ⟨b, 4, none⟩ v4) (some g) :=
  turn_new (turn_new (turn_new (turn_new (turn_new h ⟨b, 0, none⟩ hp v0) ⟨b, 1, none⟩ hp v1) ⟨b, 2, none⟩ hp v2) ⟨b, 3, none⟩ hp v3) ⟨b, 4, none⟩ hp v4
theorem ceilV_cover (T k : Nat) : T ≤ ceilV T k * 2 ^ k := by
  unfold ceilV
  have hz : 0 < 2 ^ k := Nat.two_pow_pos k
  have h1 := Nat.div_add_mod' (T + 2 ^ k - 1) (2 ^ k)
  have h2 := Nat.mod_lt (T + 2 ^ k - 1) hz
  omega
theorem Blk.turn5 {t : TypeId} {cs : Array Value} (h : Blk w g t cs) (hp : g ≠ b) (v0 v1 v2 v3 v4 : Value) :
    Blk (((((w.setCell ⟨b, 0, none⟩ v0).setCell ⟨b, 1, none⟩ v1).setCell ⟨b, 2, none⟩ v2).setCell ⟨b, 3, none⟩ v3).setCell ⟨b, 4, none⟩ v4) g t cs :=
  ((h.far3 (i := 0) (j := 1) (k := 2) hp v0 v1 v2).far (p := ⟨b, 3, none⟩) hp v3).far (p := ⟨b, 4, none⟩) hp v4
end

theorem cntO_link {F : Nat → Fr} {o : Int} {l : Nat} {f : Int} : ∀ t, cntO (link F l f) o t = cntO F o t
  | 0 => rfl
  | t + 1 => by
    simp only [cntO, cntO_link t]
    by_cases e : t = l
    · subst e; rw [link_same]
    · rw [link_other e]
theorem cntO_lift {F : Nat → Fr} {f : Nat} {o s : Int} (hf : (F f).ow ≠ o) : ∀ t, cntO (lift F f o s) o t = cntO F o t + (if f < t then 1 else 0)
  | 0 => by simp [cntO]
  | t + 1 => by
    have ih := cntO_lift (s := s) hf t
    simp only [cntO]
    by_cases e : t = f
    · subst e
      rw [lift_same, if_pos (show (⟨o, s, -1⟩ : Fr).ow = o from rfl), if_neg hf, if_pos (show t < t + 1 by omega)]
      rw [if_neg (by omega)] at ih
      omega
    · rw [lift_other e]
      by_cases h : f < t
      · rw [if_pos h] at ih
        rw [if_pos (show f < t + 1 by omega)]
        omega
      · rw [if_neg h] at ih
        rw [if_neg (show ¬ f < t + 1 by omega)]
        omega
/-- What Grow has done to a table: the increment has room for T words, and free frames alone have been taken. -/
def Grown_ (F : Nat → Fr) (n k : Nat) (sq st : Int) (c0 m : Nat) (fi la : Int) (F' : Nat → Fr) : Prop :=
  FV F' n ∧ ChainP F' n fi la m sq st ∧ (∀ f, F' f = frFree → F f = frFree) ∧ (∀ f, (F' f).ow = (F f).ow ∨ (F' f).ow = sq) ∧ (∀ f, (F f).ow ≠ -1 → (F f).ow ≠ sq → F' f = F f) ∧ cntO F' sq n + c0 = cntO F sq n + m
theorem keep_lift {G F : Nat → Fr} {f : Nat} {o s : Int} (h : ∀ j, (F j).ow ≠ -1 → (F j).ow ≠ o → G j = F j) (hf : (G f).ow = -1) (j : Nat) (h1 : (F j).ow ≠ -1) (h2 : (F j).ow ≠ o) : lift G f o s j = F j := by
  have h3 := h j h1 h2
  by_cases e : j = f
  · subst e; rw [h3] at hf; exact absurd hf h1
  · rw [lift_other e]; exact h3
theorem keep_link {G F : Nat → Fr} {l : Nat} {f o : Int} (h : ∀ j, (F j).ow ≠ -1 → (F j).ow ≠ o → G j = F j) (hl : (G l).ow = o) (j : Nat) (h1 : (F j).ow ≠ -1) (h2 : (F j).ow ≠ o) : link G l f j = F j := by
  have h3 := h j h1 h2
  by_cases e : j = l
  · subst e; rw [h3] at hl; exact absurd hl h2
  · rw [link_other e]; exact h3
theorem lift_ow {G F : Nat → Fr} {f : Nat} {o s : Int} (h : ∀ j, (G j).ow = (F j).ow ∨ (G j).ow = o) (j : Nat) : (lift G f o s j).ow = (F j).ow ∨ (lift G f o s j).ow = o := by
  by_cases e : j = f
  · subst e; rw [lift_same]; exact .inr rfl
  · rw [lift_other e]; exact h j
theorem link_ow {G F : Nat → Fr} {l : Nat} {f o : Int} (h : ∀ j, (G j).ow = (F j).ow ∨ (G j).ow = o) (j : Nat) : (link G l f j).ow = (F j).ow ∨ (link G l f j).ow = o := by
  by_cases e : j = l
  · subst e; rw [link_same]; exact h j
  · rw [link_other e]; exact h j

/-- The least free frame. -/
noncomputable def leastF (F : Nat → Fr) (n : Nat) : Nat := @dite _ (∃ f, Least F n f) (Classical.propDecidable _) (fun h => Classical.choose h) (fun _ => 0)
theorem least_uniq {F : Nat → Fr} {n f g : Nat} (h : Least F n f) (h' : Least F n g) : f = g := by
  rcases Nat.lt_trichotomy f g with e | e | e
  · exact absurd h.2.1 (h'.2.2 f e)
  · exact e
  · exact absurd h'.2.1 (h.2.2 g e)
theorem leastF_eq {F : Nat → Fr} {n f : Nat} (h : Least F n f) : leastF F n = f := by
  unfold leastF
  rw [dif_pos ⟨f, h⟩]
  exact least_uniq (Classical.choose_spec (⟨f, h⟩ : ∃ f, Least F n f)) h
/-- One frame more for an increment: a table, the first and the last frame. -/
structure GrS where
  F : Nat → Fr
  fi : Int
  la : Int
noncomputable def stepG (n : Nat) (sq st : Int) (x : GrS) : GrS :=
  if x.fi = -1 then ⟨lift x.F (leastF x.F n) sq st, leastF x.F n, leastF x.F n⟩ else ⟨link (lift x.F (leastF x.F n) sq st) x.la.toNat (leastF x.F n), x.fi, leastF x.F n⟩
noncomputable def growG (n : Nat) (sq st : Int) : Nat → GrS → GrS
  | 0, x => x
  | t + 1, x => stepG n sq st (growG n sq st t x)
theorem growG_first {n : Nat} {sq st : Int} {t f : Nat} {x : GrS} {G : Nat → Fr} {la : Int} (h : growG n sq st t x = ⟨G, -1, la⟩) (hl : Least G n f) : growG n sq st (t + 1) x = ⟨lift G f sq st, f, f⟩ := by
  show stepG n sq st (growG n sq st t x) = _
  rw [h]
  simp only [stepG, leastF_eq hl, if_true]
theorem growG_next {n : Nat} {sq st : Int} {t f p l : Nat} {x : GrS} {G : Nat → Fr} (h : growG n sq st t x = ⟨G, p, l⟩) (hl : Least G n f) : growG n sq st (t + 1) x = ⟨link (lift G f sq st) l f, p, f⟩ := by
  show stepG n sq st (growG n sq st t x) = _
  rw [h]
  simp only [stepG, leastF_eq hl, Int.toNat_natCast]
  rw [if_neg (by omega)]
/-- One frame more: the first one of all. -/
theorem grown_first {F G : Nat → Fr} {n k c0 f : Nat} {sq st la : Int} (h : Grown_ F n k sq st c0 0 (-1) la G) (hf : Least G n f) (hst : stB st sq = true) : Grown_ F n k sq st c0 1 f f (lift G f sq st) := by
  obtain ⟨hf1, hf2, hf3⟩ := hf
  obtain ⟨gv, gc, gm⟩ := h
  have hff := gv.free hf1 hf2
  have hso : sq ≠ -1 := by have := (stB_yes hst).1; omega
  have hgf := grow_first gv hf1 hff hst
  exact ⟨hgf.1, hgf.2, fun j hj => gm.1 j (lift_free hso hj), lift_ow gm.2.1, keep_lift gm.2.2.1 hf2, by rw [cntO_lift (by rw [hf2]; omega), if_pos hf1]; have := gm.2.2.2; omega⟩
/-- One frame more behind the last one. -/
theorem grown_next {F G : Nat → Fr} {n k c0 m p l f : Nat} {sq st : Int} (h : Grown_ F n k sq st c0 m p l G) (hm : 0 < m) (hf : Least G n f) (hst : stB st sq = true) : Grown_ F n k sq st c0 (m + 1) p f (link (lift G f sq st) l f) := by
  obtain ⟨hf1, hf2, hf3⟩ := hf
  obtain ⟨gv, gc, gm⟩ := h
  have hff := gv.free hf1 hf2
  have hso : sq ≠ -1 := by have := (stB_yes hst).1; omega
  have hgn := grow_next gv hst hm hf1 hff gc
  obtain ⟨q, hq1, hq2, hq3, hq4⟩ := gc.at_ gv hst (show m - 1 < m by omega)
  have hlq : l = q := by
    rcases gc with ⟨h7, _⟩ | ⟨_, p', l', h7, _, h8, _, h9, _⟩
    · omega
    · rw [h7, h9] at hq1; omega
  have hlf : l ≠ f := fun e => by rw [hlq] at e; rw [e, hff] at hq3; exact hso hq3.symm
  have hlo : (lift G f sq st l).ow = sq := by rw [lift_other hlf, hlq, hq3]
  exact ⟨hgn.1, hgn.2, fun j hj => gm.1 j (lift_free hso (link_free (by rw [hlo]; exact hso) hj)), link_ow (lift_ow gm.2.1), keep_link (keep_lift gm.2.2.1 hf2) hlo, by rw [cntO_link, cntO_lift (by rw [hf2]; omega), if_pos hf1]; have := gm.2.2.2; omega⟩

/-- What Grow answers: too few free frames, or the table in which the increment has grown. -/
def GrowX (F : Nat → Fr) (n k : Nat) (sq bt fi la : Int) (W d g base c : Nat) (w : World) (e : Ending) (w' : World) : Prop :=
  (freeN F n < ceilV (W + d) k - ceilV W k ∧ e = .returned (.tuple #[.agg #[.int .i64 0, .int .i64 0, .int .i64 0, .int .i64 0, .int .i64 0], .int .i64 0, .int .i64 4]) ∧ OwnT w' base (some ⟨g, 0, none⟩) n c F ∧ w.grownBy w' (some g)) ∨
  (ceilV (W + d) k - ceilV W k ≤ freeN F n ∧ ∃ (fi' la' : Int) (F' : Nat → Fr), growG n sq (bt * 4294967296 + sq) (ceilV (W + d) k - ceilV W k) ⟨F, fi, la⟩ = ⟨F', fi', la'⟩ ∧
    e = .returned (.tuple #[.agg #[.int .i64 sq, .int .i64 bt, .int .i64 fi', .int .i64 la', .int .i64 ((W + d : Nat) : Int)], .int .i64 (addrP F' k fi' W), .int .i64 0]) ∧
    OwnT w' base (some ⟨g, 0, none⟩) n c F' ∧ w.grownBy w' (some g) ∧ Grown_ F n k sq (bt * 4294967296 + sq) (ceilV W k) (ceilV (W + d) k) fi' la' F')

/-- What holds while Grow takes frames; bs, bi: the boxes of the space and of the increment. -/
def GrowAt (F : Nat → Fr) (n k : Nat) (V1 : Value) (sq bt fi0 la0 : Int) (W K g base c bs bi : Nat) (w : World) (kk : Value) (wr : World) : Prop :=
  ∃ (t : Nat) (fi la : Int) (G : Nat → Fr), t ≤ K ∧ growG n sq (bt * 4294967296 + sq) t ⟨F, fi0, la0⟩ = ⟨G, fi, la⟩ ∧ kk = .int .i64 ((K - t : Nat) : Int) ∧ OwnT wr base (some ⟨g, 0, none⟩) n c G ∧ Grown_ F n k sq (bt * 4294967296 + sq) (ceilV W k) (ceilV W k + t) fi la G ∧
    freeN G n + t = freeN F n ∧ Blk wr bs 25 #[.int .i64 k, V1, .slice (some ⟨g, 0, none⟩) n c] ∧ Blk wr bi 51 #[.int .i64 sq, .int .i64 bt, .int .i64 fi, .int .i64 la, .int .i64 W] ∧
    w.grownBy wr (some g) ∧ Blk wr (w.heap.size + 2) 51 #[.int .i64 0, .int .i64 0, .int .i64 0, .int .i64 0, .int .i64 0]

set_option maxHeartbeats 4000000 in
theorem grow_pos (k : Nat) (A : Option Addr) (nw c n c' g base : Nat) (F : Nat → Fr) (sq bt fi la : Int) (W d : Nat) (w : World) (hT : OwnT w base (some ⟨g, 0, none⟩) n c' F) (hn : n ≤ 64) (hv : FV F n) (h1 : 3 ≤ k) (h2 : k ≤ 8) (hw : nw = n * 2 ^ k)
    (hF : FitsP k n nw F sq bt fi la W) (hd : 1 ≤ d ∧ d ≤ 48) :
    Calls Try.prog 64 #[.agg #[.int .i64 k, .slice A nw c, .slice (some ⟨g, 0, none⟩) n c'], .agg #[.int .i64 sq, .int .i64 bt, .int .i64 fi, .int .i64 la, .int .i64 W], .int .i64 d] w (GrowX F n k sq bt fi la W d g base c' w) := by
  obtain ⟨f1, f2, f3, f4, W', hW', f6, f7, f8⟩ := hF
  obtain rfl : W = W' := by omega
  have hnw := prod_le hn h2
  rw [← hw] at hnw
  have hst : stB (bt * 4294967296 + sq) sq = true := by
    refine decide_eq_true ⟨f1, f2, ?_⟩
    rcases (show bt = 0 ∨ bt = 1 ∨ bt = 2 ∨ bt = 3 by omega) with h | h | h | h <;> subst h <;> omega
  have gz : g < w.heap.size := by
    obtain ⟨_, _, h | ⟨g', cur, hA, _, hg, _⟩⟩ := hT
    · cases h.1
    · injection hA with hA; injection hA with hA; subst hA; exact blk_lt hg
  obtain ⟨U, hU⟩ : ∃ U, U = ((w.alloc (.cells #[.int .i64 k, .slice A nw c, .slice (some ⟨g, 0, none⟩) n c'] 25)).alloc (.cells #[.int .i64 sq, .int .i64 bt, .int .i64 fi, .int .i64 la, .int .i64 W] 51)).alloc (.cells #[.int .i64 0, .int .i64 0, .int .i64 0, .int .i64 0, .int .i64 0] 51) := ⟨_, rfl⟩
  have BS : Blk U w.heap.size 25 #[.int .i64 k, .slice A nw c, .slice (some ⟨g, 0, none⟩) n c'] := by rw [hU]; exact ((Blk.new _ _ _).alloc _).alloc _
  have BI : Blk U (w.heap.size + 1) 51 #[.int .i64 sq, .int .i64 bt, .int .i64 fi, .int .i64 la, .int .i64 W] := by rw [hU]; exact (Blk.newAt _ _ _ _ (by simp)).alloc _
  have BR : Blk U (w.heap.size + 2) 51 #[.int .i64 0, .int .i64 0, .int .i64 0, .int .i64 0, .int .i64 0] := by rw [hU]; exact Blk.newAt _ _ _ _ (by simp)
  have hBU : Below w.heap.size w U := by rw [hU]; exact (((Below.refl _ _).alloc (Nat.le_refl _) _).alloc (by simp) _).alloc (by simp; omega) _
  have HBU := Lib.hid hBU
  have HU := Lib.hid hU
  have HT := Lib.hid hT
  have HV := Lib.hid hv
  have HST := Lib.hid hst
  have HCH := Lib.hid f7
  have HNW := Lib.hid hw
  have p0 := BS.cell 0
  have p1 := BS.cell 1
  have p2 := BS.cell 2
  have q0 := BI.cell 0
  have q1 := BI.cell 1
  have q2 := BI.cell 2
  have q3 := BI.cell 3
  have q4 := BI.cell 4
  simp at p0 p1 p2 q0 q1 q2 q3 q4
  obtain ⟨K, hK⟩ : ∃ K, K = ceilV (W + d) k - ceilV W k := ⟨_, rfl⟩
  have hKle : ceilV (W + d) k ≤ W + d := ceilV_le Nat.one_le_two_pow
  have HK := Lib.hid hK
  have Kb : K ≤ 65536 := by omega
  clear hT hv hst hU hBU f7 f8 hW' hw hK
  go_enter Try.func64, Try.ntmps64
  go_wp2_with fail
  rw [← HU.out]
  refine (extra_any k W d (.slice A nw c) (.slice (some ⟨g, 0, none⟩) n c') sq bt fi la U (by omega) (by omega) h2).mono ?_
  rintro e U1 ⟨rfl, hb1⟩
  rw [← HK.out]
  have BS1 := BS.next hb1
  have BI1 := BI.next hb1
  have BR1 := BR.next hb1
  have HT1 : Hid (OwnT U1 base (some ⟨g, 0, none⟩) n c' F) := HT.out.below (below_next HBU.out (Nat.le_refl _) hb1)
  have HBU1 : Hid (Below w.heap.size w U1) := below_next HBU.out (Nat.le_refl _) hb1
  clear hb1 p0 p1 p2 q0 q1 q2 q3 q4
  have p0 := BS1.cell 0
  have p1 := BS1.cell 1
  have p2 := BS1.cell 2
  simp at p0 p1 p2
  go_wp2_with fail
  refine (refFree_any k (.slice A nw c) _ n c' F U1 HT1.out.tab hn).mono ?_
  rintro e U2 ⟨Al, cl, rfl, hb2⟩
  have BS2 := BS1.next hb2
  have BI2 := BI1.next hb2
  have BR2 := BR1.next hb2
  have HT2 : Hid (OwnT U2 base (some ⟨g, 0, none⟩) n c' F) := HT1.out.below hb2
  have HBU2 : Hid (Below w.heap.size w U2) := below_next HBU1.out (Nat.le_refl _) hb2
  clear hb2 p0 p1 p2
  have p0 := BS2.cell 0
  have p1 := BS2.cell 1
  have p2 := BS2.cell 2
  have q0 := BI2.cell 0
  have q1 := BI2.cell 1
  have q2 := BI2.cell 2
  have q3 := BI2.cell 3
  have q4 := BI2.cell 4
  simp at p0 p1 p2 q0 q1 q2 q3 q4
  obtain ⟨fn, hfn⟩ : ∃ fn, fn = freeN F n := ⟨_, rfl⟩
  rw [← hfn]
  have HFN := Lib.hid hfn
  clear hfn
  by_cases hfull : (fn : Int) < (K : Int)
  · have r0 := BR2.cell 0
    have r1 := BR2.cell 1
    have r2 := BR2.cell 2
    have r3 := BR2.cell 3
    have r4 := BR2.cell 4
    have z0 := BR2.frozen 0
    have z1 := BR2.frozen 1
    have z2 := BR2.frozen 2
    have z3 := BR2.frozen 3
    have z4 := BR2.frozen 4
    simp at r0 r1 r2 r3 r4
    have HT3 := HT2.out
    have HG : Hid (w.grownBy U2 (some g)) := turn_below HBU2.out
    go_wp2
    refine bodyPost_ret (v := .tuple #[.agg #[.int .i64 0, .int .i64 0, .int .i64 0, .int .i64 0, .int .i64 0], .int .i64 0, .int .i64 4]) (by simp [results, Try.results64, go_sem, r0, r1, r2, r3, r4]) rfl (.inl ⟨by rw [← HK.out, ← HFN.out]; omega, rfl, ?_, ?_⟩)
    · exact HT2.out.apart5 (by omega) _ _ _ _ _
    · exact turn_new5 HG.out (by omega) _ _ _ _ _
  · have hKn : K ≤ fn := by omega
    have hdec : decide (fn < K) = false := decide_eq_false (by omega)
    have hnone : ceilV W k = 0 ∨ 0 < ceilV W k := by omega
    have ST : Hid (GrowAt F n k (.slice A nw c) sq bt fi la W K g base c' w.heap.size (w.heap.size + 1) w (.int .i64 K) U2) :=
      ⟨0, fi, la, F, by omega, rfl, rfl, HT2.out, ⟨HV.out, HCH.out, fun _ h => h, fun _ => .inl rfl, fun _ _ _ => rfl, rfl⟩, rfl, BS2, BI2, turn_below HBU2.out, BR2⟩
    go_wp2
    clear p0 p1 p2 q0 q1 q2 q3 q4 BS2 BI2 BR2 BS1 BI1 BR1 BS BI BR
    go_loopw [9, 11] (fun kk _ wr => GrowAt F n k (.slice A nw c) sq bt fi la W K g base c' w.heap.size (w.heap.size + 1) w kk wr) (fun kk _ _ => (intOf kk).toNat)
    case atStart => exact ST.out
    case round =>
      obtain ⟨t, fi', la', G, ht, hgq, rfl, hT', hgr, hfree, bs, bi, hgb, br⟩ := hrel
      have HGQ := Lib.hid hgq
      clear hgq
      have p0 := bs.cell 0
      have p1 := bs.cell 1
      have p2 := bs.cell 2
      have q0 := bi.cell 0
      have q1 := bi.cell 1
      have q2 := bi.cell 2
      have q3 := bi.cell 3
      have q4 := bi.cell 4
      have zf0 := bi.frozen 0
      have zf1 := bi.frozen 1
      have zf2 := bi.frozen 2
      have zf3 := bi.frozen 3
      have zf4 := bi.frozen 4
      simp at p0 p1 p2 q0 q1 q2 q3 q4
      have HTT := Lib.hid hT'
      have HGR := Lib.hid hgr
      have HFREE := Lib.hid hfree
      have HGB := Lib.hid hgb
      clear hT' hgr hfree hgb
      by_cases hlt : t < K
      · have hlt2 : 0 < ((K - t : Nat) : Int) := by omega
        go_wp2_with fail
        refine (lift_any k (.slice A nw c) g n c' base G sq bt wr HTT.out hn (by have := HFREE.out; have := HFN.out; omega) ⟨f1, f2⟩ ⟨f3, by omega⟩).mono ?_
        rintro e W1 ⟨f, hleast, rfl, hT1, hg1⟩
        have bs' := bs.turn hg1 (by omega)
        have bi' := bi.turn hg1 (by omega)
        have br' := br.turn hg1 (by omega)
        have p0' := bs'.cell 0
        have p2' := bs'.cell 2
        have u2 := bi'.cell 2
        have u3 := bi'.cell 3
        have y2 := bi'.frozen 2
        have y3 := bi'.frozen 3
        simp at p0' p2' u2 u3
        obtain ⟨hf1, hf2, hf3⟩ := hleast
        obtain ⟨gv, gc, gm⟩ := HGR.out
        have hff := gv.free hf1 hf2
        have hso : sq ≠ -1 := by omega
        have hnl := freeN_lift (F := G) (o := sq) (s := bt * 4294967296 + sq) hf2 hso n
        rw [if_pos hf1] at hnl
        have HG1 : Hid (w.grownBy W1 (some g)) := turn_trans HGB.out hg1
        have bz : w.heap.size + 1 < W1.heap.size := bi'.lt
        have HTL := Lib.hid hT1
        have HNL := Lib.hid hnl
        have HGC := Lib.hid gc
        have HGM := Lib.hid gm
        have HGV := Lib.hid gv
        have HFF := Lib.hid hff
        clear p0 p1 p2 q0 q1 q2 q3 q4 zf0 zf1 zf2 zf3 zf4 bs bi br hT1 hg1 hnl gv gc gm hff
        rcases HGC.out with ⟨hm0, hfi⟩ | ⟨hm0, p, l, hfi, hp, hla, hl, h6, h7, h8, h9⟩
        · subst hfi
          have HGQ' := Lib.hid (growG_first HGQ.out ⟨hf1, hf2, hf3⟩)
          have HN : Hid (Grown_ F n k sq (bt * 4294967296 + sq) (ceilV W k) (ceilV W k + (t + 1)) f f (lift G f sq (bt * 4294967296 + sq))) := by
            have h := HGR.out
            rw [hm0] at h
            have h' := grown_first h ⟨hf1, hf2, hf3⟩ HST.out
            rw [show ceilV W k + (t + 1) = 1 by omega]
            exact h'
          have hbI : Blk ((W1.setCell ⟨w.heap.size + 1, 2, none⟩ (.int .i64 f)).setCell ⟨w.heap.size + 1, 3, none⟩ (.int .i64 f)) (w.heap.size + 1) 51 #[.int .i64 sq, .int .i64 bt, .int .i64 f, .int .i64 f, .int .i64 W] := (bi'.set_ 2 _).set_ 3 _
          have HBI := Lib.hid hbI
          have HBS : Hid (Blk ((W1.setCell ⟨w.heap.size + 1, 2, none⟩ (.int .i64 f)).setCell ⟨w.heap.size + 1, 3, none⟩ (.int .i64 f)) w.heap.size 25 #[.int .i64 k, .slice A nw c, .slice (some ⟨g, 0, none⟩) n c']) := (bs'.far (p := ⟨w.heap.size + 1, 2, none⟩) (show w.heap.size ≠ w.heap.size + 1 by omega) _).far (p := ⟨w.heap.size + 1, 3, none⟩) (show w.heap.size ≠ w.heap.size + 1 by omega) _
          have HBR : Hid (Blk ((W1.setCell ⟨w.heap.size + 1, 2, none⟩ (.int .i64 f)).setCell ⟨w.heap.size + 1, 3, none⟩ (.int .i64 f)) (w.heap.size + 2) 51 #[.int .i64 0, .int .i64 0, .int .i64 0, .int .i64 0, .int .i64 0]) := (br'.far (p := ⟨w.heap.size + 1, 2, none⟩) (show w.heap.size + 2 ≠ w.heap.size + 1 by omega) _).far (p := ⟨w.heap.size + 1, 3, none⟩) (show w.heap.size + 2 ≠ w.heap.size + 1 by omega) _
          have HTN : Hid (OwnT ((W1.setCell ⟨w.heap.size + 1, 2, none⟩ (.int .i64 f)).setCell ⟨w.heap.size + 1, 3, none⟩ (.int .i64 f)) base (some ⟨g, 0, none⟩) n c' (lift G f sq (bt * 4294967296 + sq))) := (HTL.out.apart (p := ⟨w.heap.size + 1, 2, none⟩) (show g ≠ w.heap.size + 1 by omega) _).apart (p := ⟨w.heap.size + 1, 3, none⟩) (show g ≠ w.heap.size + 1 by omega) _
          have HGN : Hid (w.grownBy ((W1.setCell ⟨w.heap.size + 1, 2, none⟩ (.int .i64 f)).setCell ⟨w.heap.size + 1, 3, none⟩ (.int .i64 f)) (some g)) := turn_new (turn_new HG1.out ⟨w.heap.size + 1, 2, none⟩ (show w.heap.size ≤ w.heap.size + 1 by omega) _) ⟨w.heap.size + 1, 3, none⟩ (show w.heap.size ≤ w.heap.size + 1 by omega) _
          clear hbI bs' bi' br'
          go_wp2
          go_roundw
          case rel => exact ⟨t + 1, f, f, _, by omega, HGQ'.out, congrArg (Value.int IntKind.i64) (by omega), HTN.out, HN.out, by have := HNL.out; have := HFREE.out; omega, HBS.out, HBI.out, HGN.out, HBR.out⟩
          case measure => simp [intOf]; omega
        · subst hfi hla
          have hpm : ((p : Int) == -1) = false := by simp
          have HGQ' := Lib.hid (growG_next HGQ.out ⟨hf1, hf2, hf3⟩)
          have HN : Hid (Grown_ F n k sq (bt * 4294967296 + sq) (ceilV W k) (ceilV W k + (t + 1)) p f (link (lift G f sq (bt * 4294967296 + sq)) l f)) :=
            grown_next HGR.out hm0 ⟨hf1, hf2, hf3⟩ HST.out
          obtain ⟨_, _, c0, c1, c2, z0, z1, z2, _, hlk⟩ := HTL.out.spotAt l hl ⟨0, 0, f⟩
          have li : 0 ≤ (l : Int) ∧ (l : Int) < n := by omega
          have gW : g < W1.heap.size := by omega
          have HTN : Hid (OwnT ((W1.setCell ⟨g, l * 3 + 2, none⟩ (.int .i64 f)).setCell ⟨w.heap.size + 1, 3, none⟩ (.int .i64 f)) base (some ⟨g, 0, none⟩) n c' (link (lift G f sq (bt * 4294967296 + sq)) l f)) := hlk.apart (p := ⟨w.heap.size + 1, 3, none⟩) (show g ≠ w.heap.size + 1 by omega) _
          have HBI : Hid (Blk ((W1.setCell ⟨g, l * 3 + 2, none⟩ (.int .i64 f)).setCell ⟨w.heap.size + 1, 3, none⟩ (.int .i64 f)) (w.heap.size + 1) 51 #[.int .i64 sq, .int .i64 bt, .int .i64 p, .int .i64 f, .int .i64 W]) := (bi'.far (p := ⟨g, l * 3 + 2, none⟩) (show w.heap.size + 1 ≠ g by omega) _).set_ 3 _
          have HBS : Hid (Blk ((W1.setCell ⟨g, l * 3 + 2, none⟩ (.int .i64 f)).setCell ⟨w.heap.size + 1, 3, none⟩ (.int .i64 f)) w.heap.size 25 #[.int .i64 k, .slice A nw c, .slice (some ⟨g, 0, none⟩) n c']) := (bs'.far (p := ⟨g, l * 3 + 2, none⟩) (show w.heap.size ≠ g by omega) _).far (p := ⟨w.heap.size + 1, 3, none⟩) (show w.heap.size ≠ w.heap.size + 1 by omega) _
          have HBR : Hid (Blk ((W1.setCell ⟨g, l * 3 + 2, none⟩ (.int .i64 f)).setCell ⟨w.heap.size + 1, 3, none⟩ (.int .i64 f)) (w.heap.size + 2) 51 #[.int .i64 0, .int .i64 0, .int .i64 0, .int .i64 0, .int .i64 0]) := (br'.far (p := ⟨g, l * 3 + 2, none⟩) (show w.heap.size + 2 ≠ g by omega) _).far (p := ⟨w.heap.size + 1, 3, none⟩) (show w.heap.size + 2 ≠ w.heap.size + 1 by omega) _
          have HGN : Hid (w.grownBy ((W1.setCell ⟨g, l * 3 + 2, none⟩ (.int .i64 f)).setCell ⟨w.heap.size + 1, 3, none⟩ (.int .i64 f)) (some g)) := turn_new (turn_set HG1.out (l * 3 + 2) _) ⟨w.heap.size + 1, 3, none⟩ (show w.heap.size ≤ w.heap.size + 1 by omega) _
          have HFL : Hid (freeN (link (lift G f sq (bt * 4294967296 + sq)) l f) n + (t + 1) = freeN F n) := by
            have e1 := HNL.out
            have e2 := HFREE.out
            show freeN (link (lift G f sq (bt * 4294967296 + sq)) l f) n + (t + 1) = freeN F n
            rw [freeN_link]; omega
          clear hlk bs' bi' br' h6 h7 h8 h9
          go_wp2
          go_roundw
          case rel => exact ⟨t + 1, p, f, _, by omega, HGQ'.out, congrArg (Value.int IntKind.i64) (by omega), HTN.out, HN.out, HFL.out, HBS.out, HBI.out, HGN.out, HBR.out⟩
          case measure => simp [intOf]; omega
      · obtain rfl : K = t := by omega
        have hlt2 : ¬ (0 : Int) < ((K - K : Nat) : Int) := by omega
        have hmono := ceilV_mono k (show W ≤ W + d by omega)
        have hm : ceilV W k + K = ceilV (W + d) k := by have := HK.out; omega
        have hpos : 0 < ceilV (W + d) k := ceilV_pos (by omega)
        have hcov := ceilV_cover (W + d) k
        have hgr := HGR.out
        rw [hm] at hgr
        obtain ⟨p, hfi, hpn, hat⟩ : ∃ p : Nat, fi' = p ∧ p < n ∧ iter G 0 fi' = p := by
          obtain ⟨q, hq1, hq2, _⟩ := hgr.2.1.at_ hgr.1 HST.out hpos
          exact ⟨q, hq1, hq2, hq1⟩
        subst hfi
        have haddr : addrP G k p 0 = (p : Int) * 2 ^ k := by
          have := addrP_at (F := G) (k := k) (q := 0) (r := 0) (P := 0) (y := p) (first := p) (by simp) (Nat.two_pow_pos k) rfl
          rw [this]; simp
        have HAD := Lib.hid haddr
        have HGR2 := Lib.hid hgr
        have HCOV := Lib.hid hcov
        obtain ⟨pz0, pz1⟩ := prod_bd (show p ≤ 64 by omega) h2
        have hTs : Tab (wr.setCell ⟨w.heap.size + 1, 4, none⟩ (.int .i64 ((W : Int) + d))) (wr.setCell ⟨w.heap.size + 1, 4, none⟩ (.int .i64 ((W : Int) + d))).heap.size (some ⟨g, 0, none⟩) n c' G := (HTT.out.apart (p := ⟨w.heap.size + 1, 4, none⟩) (show g ≠ w.heap.size + 1 by omega) _).tab
        have HTS := Lib.hid hTs
        have HTO : Hid (OwnT (wr.setCell ⟨w.heap.size + 1, 4, none⟩ (.int .i64 ((W : Int) + d))) base (some ⟨g, 0, none⟩) n c' G) := HTT.out.apart (p := ⟨w.heap.size + 1, 4, none⟩) (show g ≠ w.heap.size + 1 by omega) _
        have biN := bi.set_ 4 (.int .i64 ((W : Int) + d))
        have bsN := bs.far (p := ⟨w.heap.size + 1, 4, none⟩) (show w.heap.size ≠ w.heap.size + 1 by omega) (.int .i64 ((W : Int) + d))
        have brN := br.far (p := ⟨w.heap.size + 1, 4, none⟩) (show w.heap.size + 2 ≠ w.heap.size + 1 by omega) (.int .i64 ((W : Int) + d))
        have HGN : Hid (w.grownBy (wr.setCell ⟨w.heap.size + 1, 4, none⟩ (.int .i64 ((W : Int) + d))) (some g)) := turn_new HGB.out ⟨w.heap.size + 1, 4, none⟩ (show w.heap.size ≤ w.heap.size + 1 by omega) _
        have wz : w.heap.size + 1 < wr.heap.size := bi.lt
        clear hgr hcov haddr hTs hm hat
        go_wp2_with fail
        rw [← HAD.out]
        refine (go_pos k A _ nw c n c' G p la' sq (bt * 4294967296 + sq) (ceilV (W + d) k) 0 W _ HTS.out hn HGR2.out.1 h1 h2 HNW.out HGR2.out.2.1 HST.out (by have := HCOV.out; omega)).mono ?_
        rintro e W3 ⟨rfl, hb3⟩
        rw [Nat.zero_add]
        have biF := biN.next hb3
        have brF := brN.next hb3
        have HTF : Hid (OwnT W3 base (some ⟨g, 0, none⟩) n c' G) := HTO.out.below hb3
        have HGF : Hid (w.grownBy W3 (some g)) := turn_next HGN.out hb3
        have e0 := biF.cell 0
        have e1 := biF.cell 1
        have e2 := biF.cell 2
        have e3 := biF.cell 3
        have e4 := biF.cell 4
        have r0 := brF.cell 0
        have r1 := brF.cell 1
        have r2 := brF.cell 2
        have r3 := brF.cell 3
        have r4 := brF.cell 4
        have y0 := brF.frozen 0
        have y1 := brF.frozen 1
        have y2 := brF.frozen 2
        have y3 := brF.frozen 3
        have y4 := brF.frozen 4
        simp at e0 e1 e2 e3 e4 r0 r1 r2 r3 r4
        have wz3 : w.heap.size + 2 < W3.heap.size := brF.lt
        clear p0 p1 p2 q0 q1 q2 q3 q4 zf0 zf1 zf2 zf3 zf4 hb3 bi bs br biN bsN brN
        go_wp2
        refine bodyPost_ret (v := .tuple #[.agg #[.int .i64 sq, .int .i64 bt, .int .i64 p, .int .i64 la', .int .i64 ((W : Int) + d)], .int .i64 (addrP G k p W), .int .i64 0]) (by simp [results, Try.results64, go_sem, r0, r1, r2, r3, r4]) rfl (.inr ⟨by rw [← HK.out, ← HFN.out]; omega, p, la', G, by rw [← HK.out]; exact HGQ.out, by simp, ?_, ?_, HGR2.out⟩)
        · exact HTF.out.apart5 (by omega) _ _ _ _ _
        · exact turn_new5 HGF.out (by omega) _ _ _ _ _
end Go.Proofs.Ytjkbjbikofindaa

namespace Go.Proofs.Ytjkbjbikofindaa
open Go.RowKit
set_option maxRecDepth 100000
set_option linter.unusedVariables false

theorem cntO_mono (F : Nat → Fr) (o : Int) {a b : Nat} (h : a ≤ b) : cntO F o a ≤ cntO F o b := by
  induction b with
  | zero => obtain rfl : a = 0 := by omega
            exact Nat.le_refl _
  | succ b ih =>
    rcases (show a ≤ b ∨ a = b + 1 by omega) with h1 | rfl
    · have := ih h1
      simp only [cntO]
      omega
    · exact Nat.le_refl _
theorem least_or (F : Nat → Fr) : ∀ n, (∃ f, Least F n f) ∨ ((∀ j, j < n → (F j).ow ≠ -1) ∧ freeN F n = 0)
  | 0 => .inr ⟨fun j hj => absurd hj (by omega), rfl⟩
  | n + 1 => by
    rcases least_or F n with ⟨f, h1, h2, h3⟩ | ⟨h1, h2⟩
    · exact .inl ⟨f, by omega, h2, h3⟩
    · by_cases e : (F n).ow = -1
      · exact .inl ⟨n, by omega, e, h1⟩
      · refine .inr ⟨fun j hj => ?_, by simp only [freeN, h2, if_neg e]⟩
        rcases (show j < n ∨ j = n by omega) with h | rfl
        · exact h1 j h
        · exact e
theorem least_free {F : Nat → Fr} {n : Nat} (h : 0 < freeN F n) : ∃ f, Least F n f := by
  rcases least_or F n with h1 | ⟨_, h1⟩
  · exact h1
  · omega
theorem ownsX_any (s : Int) (V1 : Value) (A' : Option Addr) (n c' : Nat) (F : Nat → Fr) (sq : Int) (w : World) (hT : Tab w w.heap.size A' n c' F) (hn : n ≤ 64) :
    Calls Try.prog 63 #[.agg #[.int .i64 s, V1, .slice A' n c'], .int .i64 sq] w fun e w' => e = .returned (.bool (decide (0 < cntO F sq n))) ∧ Below w.heap.size w w' := by
  have HT := Lib.hid hT
  have HB0 : Hid (Below w.heap.size w (w.alloc (.cells #[.int .i64 s, V1, .slice A' n c'] 25))) := (Below.refl _ _).alloc (Nat.le_refl _) _
  clear hT
  go_enter Try.func63, Try.ntmps63
  go_wp2
  go_loopw [6, 10] (fun _ i wr => ∃ t : Nat, t ≤ n ∧ cntO F sq t = 0 ∧ i = .int .i64 t ∧ Below w.heap.size w wr) (fun _ i _ => n - (intOf i).toNat)
  case atStart => exact ⟨0, by omega, rfl, rfl, HB0.out⟩
  case round =>
    obtain ⟨t, ht, hcn, rfl, hb⟩ := hrel
    have HCN := Lib.hid hcn
    clear hcn
    have HB := Lib.hid hb
    clear hb
    by_cases hlt : t < n
    · have hlt2 : 0 ≤ (t : Int) ∧ (t : Int) < n := by omega
      have HTR : Hid (Tab wr w.heap.size A' n c' F) := HT.out.below HB.out
      obtain ⟨b, o, rfl, hbb⟩ := HTR.out.base_ (by omega)
      obtain ⟨_, c0, c1, c2⟩ := HTR.out.cells t hlt
      have bz : b < wr.heap.size := by have := HB.out.size; omega
      obtain ⟨x, hx⟩ : ∃ x, x = (F t).ow := ⟨_, rfl⟩
      rw [← hx] at c0
      have HC1 := Lib.hid (show cntO F sq (t + 1) = (if x = sq then 1 else 0) by rw [hx]; simp only [cntO, HCN.out, Nat.zero_add])
      clear hx
      by_cases hx0 : x = sq
      · subst hx0
        go_wp2
        go_ret
        exact ⟨by rw [decide_eq_true (show 0 < cntO F x n from by have h1 : cntO F x (t + 1) = 1 := (by simpa using HC1.out); have h2 := cntO_mono F x (show t + 1 ≤ n by omega); omega)]; rfl, HB.out.alloc HB.out.size _⟩
      · have hb1 : (x == sq) = false := by simpa using hx0
        have HBN : Hid (Below w.heap.size w (wr.alloc (.cells #[.int .i64 x, .int .i64 (F t).st, .int .i64 (F t).nx] 61))) := HB.out.alloc HB.out.size _
        have HX9 := Lib.hid hx0
        clear hx0
        go_wp2
        exact ⟨⟨t + 1, by omega, by rw [HC1.out, if_neg HX9.out], by go_num, HBN.out⟩, by simp [intOf]; omega⟩
    · have hlt2 : ¬ (t : Int) < n := by omega
      go_wp2
      go_ret
      exact ⟨by rw [decide_eq_false (show ¬ 0 < cntO F sq n from by have h1 := HCN.out; rw [show t = n by omega] at h1; omega)]; rfl, HB.out⟩
theorem incValidX_any (k : Nat) (A A' : Option Addr) (nw c n c' : Nat) (wd : Nat → Int) (F : Nat → Fr) (sq bt fi la wo : Int) (w : World) (hA : Arr w w.heap.size A nw c wd) (hT : Tab w w.heap.size A' n c' F) (hv : ValidP k nw wd n F) :
    Calls Try.prog 62 #[.agg #[.int .i64 k, .slice A nw c, .slice A' n c'], .agg #[.int .i64 sq, .int .i64 bt, .int .i64 fi, .int .i64 la, .int .i64 wo]] w (FitsX k n nw F sq bt fi la wo w) := by
  have hk := shB_yes hv.1
  have hn := nfB_yes hv.2.1
  have hnw : nw = n * 2 ^ k := by have := hv.2.2.1; rw [Int.toNat_natCast] at this; exact this
  have hpl := prod_le (show n ≤ 64 by omega) (show k ≤ 8 by omega)
  rw [← hnw] at hpl
  have HA := Lib.hid hA
  have HT := Lib.hid hT
  have HV := Lib.hid (validB_yes hv)
  have HFV := Lib.hid hv.fv
  obtain ⟨U, hU⟩ : ∃ U, U = (w.alloc (.cells #[.int .i64 k, .slice A nw c, .slice A' n c'] 25)).alloc (.cells #[.int .i64 sq, .int .i64 bt, .int .i64 fi, .int .i64 la, .int .i64 wo] 51) := ⟨_, rfl⟩
  have BS : Blk U w.heap.size 25 #[.int .i64 k, .slice A nw c, .slice A' n c'] := by rw [hU]; exact (Blk.new _ _ _).alloc _
  have BI : Blk U (w.heap.size + 1) 51 #[.int .i64 sq, .int .i64 bt, .int .i64 fi, .int .i64 la, .int .i64 wo] := by rw [hU]; exact Blk.newAt _ _ _ _ (by simp)
  have HBU : Hid (Below w.heap.size w U) := by rw [hU]; exact ((Below.refl _ _).alloc (Nat.le_refl _) _).alloc (by simp) _
  have HU := Lib.hid hU
  clear hA hT hv hU hnw
  go_enter Try.func62, Try.ntmps62
  go_wp2_with fail
  rw [← HU.out]
  refine (refValid_any k A A' nw c n c' wd F U (HA.out.next HBU.out) (HT.out.next HBU.out)).mono ?_
  rintro e U1 ⟨rfl, hb1⟩
  rw [HV.out]
  have BS1 := BS.next hb1
  have BI1 := BI.next hb1
  have HB1 : Hid (Below w.heap.size w U1) := below_next HBU.out (Nat.le_refl _) hb1
  have p0 := BS1.cell 0
  have p1 := BS1.cell 1
  have p2 := BS1.cell 2
  have q0 := BI1.cell 0
  have q1 := BI1.cell 1
  have q2 := BI1.cell 2
  have q3 := BI1.cell 3
  have q4 := BI1.cell 4
  simp at p0 p1 p2 q0 q1 q2 q3 q4
  clear hb1
  go_wp2_with fail
  refine (fitsX_any k A A' nw c n c' F sq bt fi la wo U1 (HT.out.next HB1.out) (by omega) HFV.out (by omega) (by omega)).mono ?_
  rintro e U2 ⟨b, rfl, hF, hb2⟩
  have HF := Lib.hid hF
  have HB2 := Lib.hid (below_next HB1.out (Nat.le_refl _) hb2)
  clear hF hb2
  go_wp2
  go_ret
  exact ⟨b, by simp, HF.out, HB2.out⟩

theorem incNot_any (s : Int) (A A' : Option Addr) (nw c n c' : Nat) (wd : Nat → Int) (F : Nat → Fr) (sq bt fi la wo : Int) (w : World) (hA : Arr w w.heap.size A nw c wd) (hT : Tab w w.heap.size A' n c' F) (hv : validB s nw wd n F = false) :
    Calls Try.prog 62 #[.agg #[.int .i64 s, .slice A nw c, .slice A' n c'], .agg #[.int .i64 sq, .int .i64 bt, .int .i64 fi, .int .i64 la, .int .i64 wo]] w fun e w' => e = .returned (.bool false) ∧ Below w.heap.size w w' := by
  have HA := Lib.hid hA
  have HT := Lib.hid hT
  have HV := Lib.hid hv
  obtain ⟨U, hU⟩ : ∃ U, U = (w.alloc (.cells #[.int .i64 s, .slice A nw c, .slice A' n c'] 25)).alloc (.cells #[.int .i64 sq, .int .i64 bt, .int .i64 fi, .int .i64 la, .int .i64 wo] 51) := ⟨_, rfl⟩
  have HBU : Hid (Below w.heap.size w U) := by rw [hU]; exact ((Below.refl _ _).alloc (Nat.le_refl _) _).alloc (by simp) _
  have BS : Blk U w.heap.size 25 #[.int .i64 s, .slice A nw c, .slice A' n c'] := by rw [hU]; exact (Blk.new _ _ _).alloc _
  have p0 := BS.cell 0
  have p1 := BS.cell 1
  have p2 := BS.cell 2
  simp at p0 p1 p2
  have HU := Lib.hid hU
  clear hA hT hv hU BS
  go_enter Try.func62, Try.ntmps62
  go_wp2_with fail
  rw [← HU.out]
  refine (refValid_any s A A' nw c n c' wd F U (HA.out.next HBU.out) (HT.out.next HBU.out)).mono ?_
  rintro e U1 ⟨rfl, hb1⟩
  rw [HV.out]
  have HB2 := Lib.hid (below_next HBU.out (Nat.le_refl _) hb1)
  clear hb1
  go_wp2
  go_ret
  exact ⟨rfl, HB2.out⟩
/-- An increment is valid in any space. -/
noncomputable def incB (s : Int) (nw : Nat) (wd : Nat → Int) (n : Nat) (F : Nat → Fr) (sq bt fi la wo : Int) : Bool := validB s nw wd n F && @decide (FitsQ s.toNat n nw F sq bt fi la wo) (Classical.propDecidable _)
theorem incB_of {s : Int} {nw n : Nat} {wd : Nat → Int} {F : Nat → Fr} {sq bt fi la wo : Int} {b : Bool} (hv : validB s nw wd n F = true) (h : b = true ↔ FitsQ s.toNat n nw F sq bt fi la wo) : b = incB s nw wd n F sq bt fi la wo := by
  unfold incB
  rw [hv, Bool.true_and, Bool.eq_iff_iff, @decide_eq_true_iff _ (Classical.propDecidable _)]
  exact h
theorem incB_no {s : Int} {nw n : Nat} {wd : Nat → Int} {F : Nat → Fr} {sq bt fi la wo : Int} (hv : validB s nw wd n F = false) : incB s nw wd n F sq bt fi la wo = false := by
  unfold incB
  rw [hv, Bool.false_and]
theorem incB_yes {s : Int} {nw n : Nat} {wd : Nat → Int} {F : Nat → Fr} {sq bt fi la wo : Int} (h : incB s nw wd n F sq bt fi la wo = true) : ValidP s nw wd n F ∧ FitsQ s.toNat n nw F sq bt fi la wo := by
  unfold incB at h
  rw [Bool.and_eq_true] at h
  exact ⟨validB_of h.1, @of_decide_eq_true _ (Classical.propDecidable _) h.2⟩
theorem incB_mk {s : Int} {nw n : Nat} {wd : Nat → Int} {F : Nat → Fr} {sq bt fi la wo : Int} (hv : ValidP s nw wd n F) (h : FitsQ s.toNat n nw F sq bt fi la wo) : incB s nw wd n F sq bt fi la wo = true :=
  (incB_of (validB_yes hv) ⟨fun _ => h, fun _ => rfl⟩).symm
theorem valid_nat {s : Int} {nw n : Nat} {wd : Nat → Int} {F : Nat → Fr} (h : ValidP s nw wd n F) : ∃ k : Nat, s = k ∧ 3 ≤ k ∧ k ≤ 8 := by
  have := shB_yes h.1
  exact ⟨s.toNat, by omega, by omega, by omega⟩
/-- Valid of the reference of layer 9, for every raw space and every increment. -/
theorem refInc_any (s : Int) (A A' : Option Addr) (nw c n c' : Nat) (wd : Nat → Int) (F : Nat → Fr) (sq bt fi la wo : Int) (w : World) (hA : Arr w w.heap.size A nw c wd) (hT : Tab w w.heap.size A' n c' F) :
    Calls Try.prog 62 #[.agg #[.int .i64 s, .slice A nw c, .slice A' n c'], .agg #[.int .i64 sq, .int .i64 bt, .int .i64 fi, .int .i64 la, .int .i64 wo]] w fun e w' => e = .returned (.bool (incB s nw wd n F sq bt fi la wo)) ∧ Below w.heap.size w w' := by
  cases hv : validB s nw wd n F with
  | false => exact (incNot_any s A A' nw c n c' wd F sq bt fi la wo w hA hT hv).mono fun _ _ ⟨h1, h2⟩ => ⟨by rw [h1, incB_no hv], h2⟩
  | true =>
    obtain ⟨k, rfl, hk⟩ := valid_nat (validB_of hv)
    exact (incValidX_any k A A' nw c n c' wd F sq bt fi la wo w hA hT (validB_of hv)).mono fun _ _ ⟨b, h1, h2, h3⟩ => ⟨h1.trans (congrArg (fun z => Ending.returned (Value.bool z)) (incB_of (s := (k : Int)) hv (by rw [Int.toNat_natCast]; exact h2))), h3⟩

/-- What Alloc hands back. -/
def AllocOf (k nw n : Nat) (wd : Nat → Int) (d : Nat) (F0 : Nat → Fr) (sq0 bt0 fi0 wo0 : Int) (w : World) (e : Ending) (w' : World) : Prop :=
  ∃ (v0 v1 v2 : Value) (i0 i1 i2 i3 i4 a err : Int), e = .returned (.tuple #[.agg #[v0, v1, v2], .agg #[.int .i64 i0, .int .i64 i1, .int .i64 i2, .int .i64 i3, .int .i64 i4], .int .i64 a, .int .i64 err]) ∧ Below w.heap.size w w' ∧ (∃ (k1 : Int) (A1 : Option Addr) (n1 c1 : Nat) (A2 : Option Addr) (n2 c2 : Nat), v0 = .int .i64 k1 ∧ v1 = .slice A1 n1 c1 ∧ v2 = .slice A2 n2 c2) ∧
    (err = 0 → ∃ (A : Option Addr) (c g c' : Nat) (F : Nat → Fr) (first last sq st : Int) (m W : Nat), v0 = .int .i64 k ∧ v1 = .slice A nw c ∧ v2 = .slice (some ⟨g, 0, none⟩) n c' ∧ Own w' w.heap.size A nw c wd ∧ OwnT w' w.heap.size (some ⟨g, 0, none⟩) n c' F ∧
      ValidP k nw wd n F ∧ ChainP F n first last m sq st ∧ stB st sq = true ∧ a = addrP F k first W ∧ W + d ≤ m * 2 ^ k ∧ (∀ f, (F f).ow = (F0 f).ow ∨ (F f).ow = sq0) ∧ i0 = sq0 ∧
      (i1 = bt0 ∧ i2 = first ∧ i3 = last ∧ i4 = ((W + d : Nat) : Int) ∧ sq = sq0 ∧ st = bt0 * 4294967296 + sq0 ∧ m = ceilV (W + d) k ∧ wo0 = W ∧ (∀ f, (F0 f).ow ≠ -1 → (F0 f).ow ≠ sq0 → F f = F0 f) ∧ cntO F sq0 n + ceilV W k = cntO F0 sq0 n + ceilV (W + d) k ∧ (0 < W → first = fi0 ∧ ∀ i, i < ceilV W k → iter F i first = iter F0 i first)))

/-- Words stay where a table alone has turned. -/
theorem Own.beside {a w : World} {g base base' n c n' c' : Nat} {A : Option Addr} {f : Nat → Int} {F : Nat → Fr} (h : Own a base A n c f) (ht : OwnT a base' (some ⟨g, 0, none⟩) n' c' F) (hg : a.grownBy w (some g)) : Own w base A n c f := by
  obtain ⟨h1, h2, h3⟩ := h
  refine ⟨h1, h2, ?_⟩
  rcases h3 with h3 | ⟨x, cur, hA, hb, hh, hs⟩
  · exact .inl h3
  · refine .inr ⟨x, cur, hA, hb, (hg.block x (blk_lt hh) (fun e => ?_)).trans hh, hs⟩
    injection e with e
    obtain ⟨_, _, t | ⟨g', cur', hA', _, hh', _⟩⟩ := ht
    · cases t.1
    · injection hA' with hA'
      injection hA' with hA'
      subst hA'
      rw [e] at hh
      rw [hh] at hh'
      injection hh' with hh'
      injection hh' with _ ht
      exact absurd ht (by decide)

section
variable {w : World} {base x y n c : Nat} {A : Option Addr} {f : Nat → Int} {F : Nat → Fr}
theorem Own.drew (h : Own w base A n c f) : Own w.drew base A n c f := h
theorem OwnT.drew (h : OwnT w base A n c F) : OwnT w.drew base A n c F := h
theorem Own.put8 (h : Own w base A n c f) (hx : x < base) (hy : y < base) (v0 v1 v2 u0 u1 u2 u3 u4 : Value) :
    Own ((((((((w.setCell ⟨x, 0, none⟩ v0).setCell ⟨x, 1, none⟩ v1).setCell ⟨x, 2, none⟩ v2).setCell ⟨y, 0, none⟩ u0).setCell ⟨y, 1, none⟩ u1).setCell ⟨y, 2, none⟩ u2).setCell ⟨y, 3, none⟩ u3).setCell ⟨y, 4, none⟩ u4) base A n c f :=
  (((h.put3 hx v0 v1 v2).put3 hy u0 u1 u2).far (p := ⟨y, 3, none⟩) hy u3).far (p := ⟨y, 4, none⟩) hy u4
theorem OwnT.put8 (h : OwnT w base A n c F) (hx : x < base) (hy : y < base) (v0 v1 v2 u0 u1 u2 u3 u4 : Value) :
    OwnT ((((((((w.setCell ⟨x, 0, none⟩ v0).setCell ⟨x, 1, none⟩ v1).setCell ⟨x, 2, none⟩ v2).setCell ⟨y, 0, none⟩ u0).setCell ⟨y, 1, none⟩ u1).setCell ⟨y, 2, none⟩ u2).setCell ⟨y, 3, none⟩ u3).setCell ⟨y, 4, none⟩ u4) base A n c F :=
  (((h.put3 hx v0 v1 v2).put3 hy u0 u1 u2).far (p := ⟨y, 3, none⟩) hy u3).far (p := ⟨y, 4, none⟩) hy u4
end

/-- What holds in the middle of Alloc. -/
def AllocMid (k : Nat) (A A' : Option Addr) (nw c n c' : Nat) (sq bt fi la : Int) (W : Nat) (w wx : World) : Prop :=
  Blk wx w.heap.size 25 #[.int .i64 k, .slice A nw c, .slice A' n c'] ∧ Blk wx (w.heap.size + 1) 51 #[.int .i64 sq, .int .i64 bt, .int .i64 fi, .int .i64 la, .int .i64 W] ∧
    Blk wx (w.heap.size + 2) 25 #[.int .i64 0, .slice none 0 0, .slice none 0 0] ∧ Blk wx (w.heap.size + 3) 51 #[.int .i64 0, .int .i64 0, .int .i64 0, .int .i64 0, .int .i64 0] ∧ Below w.heap.size w wx

theorem below_put8 {w a : World} {B x y : Nat} (h : Below B a w) (hx : B ≤ x) (hy : B ≤ y) (v0 v1 v2 u0 u1 u2 u3 u4 : Value) :
    Below B a ((((((((w.setCell ⟨x, 0, none⟩ v0).setCell ⟨x, 1, none⟩ v1).setCell ⟨x, 2, none⟩ v2).setCell ⟨y, 0, none⟩ u0).setCell ⟨y, 1, none⟩ u1).setCell ⟨y, 2, none⟩ u2).setCell ⟨y, 3, none⟩ u3).setCell ⟨y, 4, none⟩ u4) :=
  ((below_put3 (below_put3 h hx v0 v1 v2) hy u0 u1 u2).setCell (p := ⟨y, 3, none⟩) hy u3).setCell (p := ⟨y, 4, none⟩) hy u4

/-- How many frames more an increment needs. -/
def moreK (k W d : Nat) : Nat := ceilV (W + d) k - ceilV W k
/-- The error of Alloc. -/
noncomputable def allE (s : Int) (nw : Nat) (wd : Nat → Int) (n : Nat) (F : Nat → Fr) (sq bt fi la wo d : Int) : Int :=
  if incB s nw wd n F sq bt fi la wo = false ∨ d < 1 ∨ 48 < d then 1 else if wo = 0 ∧ 0 < cntO F sq n then 5 else if freeN F n < moreK s.toNat wo.toNat d.toNat then 4 else 0
/-- The table, the first and the last frame behind Alloc. -/
noncomputable def allG (s : Int) (n : Nat) (F : Nat → Fr) (sq bt fi la wo d : Int) : GrS := growG n sq (bt * 4294967296 + sq) (moreK s.toNat wo.toNat d.toNat) ⟨F, fi, la⟩
abbrev zInc : Value := .agg #[.int .i64 0, .int .i64 0, .int .i64 0, .int .i64 0, .int .i64 0]
abbrev zSp9 : Value := .agg #[.int .i64 0, .slice none 0 0, .slice none 0 0]
/-- What Alloc answers, in every space, for every increment and every number of words. -/
def AllX (s : Int) (nw : Nat) (wd : Nat → Int) (n : Nat) (F : Nat → Fr) (sq bt fi la wo d : Int) (w : World) (e : Ending) (w' : World) : Prop :=
  (∃ x : Int, allE s nw wd n F sq bt fi la wo d = x ∧ x ≠ 0 ∧ e = .returned (.tuple #[zSp9, zInc, .int .i64 0, .int .i64 x]) ∧ Below w.heap.size w w') ∨
  (allE s nw wd n F sq bt fi la wo d = 0 ∧ ∃ (A1 : Option Addr) (c1 g c2 : Nat), e = .returned (.tuple #[.agg #[.int .i64 s, .slice A1 nw c1, .slice (some ⟨g, 0, none⟩) n c2],
      .agg #[.int .i64 sq, .int .i64 bt, .int .i64 (allG s n F sq bt fi la wo d).fi, .int .i64 (allG s n F sq bt fi la wo d).la, .int .i64 (wo + d)], .int .i64 (addrP (allG s n F sq bt fi la wo d).F s.toNat (allG s n F sq bt fi la wo d).fi wo.toNat), .int .i64 0]) ∧
    Own w' w.heap.size A1 nw c1 wd ∧ OwnT w' w.heap.size (some ⟨g, 0, none⟩) n c2 (allG s n F sq bt fi la wo d).F ∧ Below w.heap.size w w')
theorem allX_bad {s : Int} {nw n : Nat} {wd : Nat → Int} {F : Nat → Fr} {sq bt fi la wo d : Int} {w w' : World} (h : incB s nw wd n F sq bt fi la wo = false ∨ d < 1 ∨ 48 < d) (hb : Below w.heap.size w w') :
    AllX s nw wd n F sq bt fi la wo d w (.returned (.tuple #[zSp9, zInc, .int .i64 0, .int .i64 1])) w' := .inl ⟨1, by unfold allE; rw [if_pos h], by decide, rfl, hb⟩
theorem allX_state {s : Int} {nw n : Nat} {wd : Nat → Int} {F : Nat → Fr} {sq bt fi la wo d : Int} {w w' : World} (h : ¬ (incB s nw wd n F sq bt fi la wo = false ∨ d < 1 ∨ 48 < d)) (h2 : wo = 0 ∧ 0 < cntO F sq n) (hb : Below w.heap.size w w') :
    AllX s nw wd n F sq bt fi la wo d w (.returned (.tuple #[zSp9, zInc, .int .i64 0, .int .i64 5])) w' := .inl ⟨5, by unfold allE; rw [if_neg h, if_pos h2], by decide, rfl, hb⟩
theorem allX_full {s : Int} {nw n : Nat} {wd : Nat → Int} {F : Nat → Fr} {sq bt fi la wo d : Int} {w w' : World} (h : ¬ (incB s nw wd n F sq bt fi la wo = false ∨ d < 1 ∨ 48 < d)) (h2 : ¬ (wo = 0 ∧ 0 < cntO F sq n)) (h3 : freeN F n < moreK s.toNat wo.toNat d.toNat) (hb : Below w.heap.size w w') :
    AllX s nw wd n F sq bt fi la wo d w (.returned (.tuple #[zSp9, zInc, .int .i64 0, .int .i64 4])) w' := .inl ⟨4, by unfold allE; rw [if_neg h, if_neg h2, if_pos h3], by decide, rfl, hb⟩
theorem allE_ok {s : Int} {nw n : Nat} {wd : Nat → Int} {F : Nat → Fr} {sq bt fi la wo d : Int} (h : ¬ (incB s nw wd n F sq bt fi la wo = false ∨ d < 1 ∨ 48 < d)) (h2 : ¬ (wo = 0 ∧ 0 < cntO F sq n)) (h3 : ¬ freeN F n < moreK s.toNat wo.toNat d.toNat) : allE s nw wd n F sq bt fi la wo d = 0 := by
  unfold allE; rw [if_neg h, if_neg h2, if_neg h3]

set_option maxHeartbeats 4000000 in
/-- Alloc where the increment is not valid or the number of words not permitted. -/
theorem allBad_any (s : Int) (A A' : Option Addr) (nw c n c' : Nat) (wd : Nat → Int) (F : Nat → Fr) (sq bt fi la wo d : Int) (w : World) (hA : Arr w w.heap.size A nw c wd) (hT : Tab w w.heap.size A' n c' F) (hv : incB s nw wd n F sq bt fi la wo = false ∨ d < 1 ∨ 48 < d) :
    Calls Try.prog 37 #[.agg #[.int .i64 s, .slice A nw c, .slice A' n c'], .agg #[.int .i64 sq, .int .i64 bt, .int .i64 fi, .int .i64 la, .int .i64 wo], .int .i64 d] w (AllX s nw wd n F sq bt fi la wo d w) := by
  have HA := Lib.hid hA
  have HT := Lib.hid hT
  have HV := Lib.hid hv
  obtain ⟨U, hU⟩ : ∃ U, U = (((w.alloc (.cells #[.int .i64 s, .slice A nw c, .slice A' n c'] 25)).alloc (.cells #[.int .i64 sq, .int .i64 bt, .int .i64 fi, .int .i64 la, .int .i64 wo] 51)).alloc (.cells #[.int .i64 0, .slice none 0 0, .slice none 0 0] 25)).alloc (.cells #[.int .i64 0, .int .i64 0, .int .i64 0, .int .i64 0, .int .i64 0] 51) := ⟨_, rfl⟩
  have BS : Blk U w.heap.size 25 #[.int .i64 s, .slice A nw c, .slice A' n c'] := by rw [hU]; exact (((Blk.new _ _ _).alloc _).alloc _).alloc _
  have BI : Blk U (w.heap.size + 1) 51 #[.int .i64 sq, .int .i64 bt, .int .i64 fi, .int .i64 la, .int .i64 wo] := by rw [hU]; exact ((Blk.newAt _ _ _ _ (by simp)).alloc _).alloc _
  have BR : Blk U (w.heap.size + 2) 25 #[.int .i64 0, .slice none 0 0, .slice none 0 0] := by rw [hU]; exact (Blk.newAt _ _ _ _ (by simp)).alloc _
  have BQ : Blk U (w.heap.size + 3) 51 #[.int .i64 0, .int .i64 0, .int .i64 0, .int .i64 0, .int .i64 0] := by rw [hU]; exact Blk.newAt _ _ _ _ (by simp)
  have HBU : Hid (Below w.heap.size w U) := by rw [hU]; exact ((((Below.refl _ _).alloc (Nat.le_refl _) _).alloc (by simp) _).alloc (by simp; omega) _).alloc (by simp; omega) _
  have HU := Lib.hid hU
  have p0 := BS.cell 0
  have p1 := BS.cell 1
  have p2 := BS.cell 2
  have q0 := BI.cell 0
  have q1 := BI.cell 1
  have q2 := BI.cell 2
  have q3 := BI.cell 3
  have q4 := BI.cell 4
  simp at p0 p1 p2 q0 q1 q2 q3 q4
  clear hA hT hv hU
  obtain ⟨b, hb⟩ : ∃ b, b = incB s nw wd n F sq bt fi la wo := ⟨_, rfl⟩
  have hbad : b = false ∨ d < 1 ∨ 48 < d := by rw [hb]; exact HV.out
  have HBD := Lib.hid hb
  clear hb
  go_enter Try.func37, Try.ntmps37
  go_wp2_with fail
  rw [← HU.out]
  refine (refInc_any s A A' nw c n c' wd F sq bt fi la wo U (HA.out.next HBU.out) (HT.out.next HBU.out)).mono ?_
  rintro e U1 ⟨rfl, hb1⟩
  rw [← HBD.out]
  have BS1 := BS.next hb1
  have BR1 := BR.next hb1
  have BQ1 := BQ.next hb1
  have HB1 : Hid (Below w.heap.size w U1) := below_next HBU.out (Nat.le_refl _) hb1
  clear p0 p1 p2 q0 q1 q2 q3 q4 hb1
  have r0 := BR1.cell 0
  have r1 := BR1.cell 1
  have r2 := BR1.cell 2
  have rf0 := BR1.frozen 0
  have rf1 := BR1.frozen 1
  have rf2 := BR1.frozen 2
  have t0 := BQ1.cell 0
  have t1 := BQ1.cell 1
  have t2 := BQ1.cell 2
  have t3 := BQ1.cell 3
  have t4 := BQ1.cell 4
  have tf0 := BQ1.frozen 0
  have tf1 := BQ1.frozen 1
  have tf2 := BQ1.frozen 2
  have tf3 := BQ1.frozen 3
  have tf4 := BQ1.frozen 4
  simp at r0 r1 r2 t0 t1 t2 t3 t4
  clear BS BI BR BQ BS1
  have zz : w.heap.size + 3 < U1.heap.size := BQ1.lt
  have FIN := Lib.hid (fun W' (h : Below w.heap.size w W') => allX_bad (d := d) HV.out h)
  clear BR1 BQ1
  rcases b with _ | _
  · go_wp2
    refine bodyPost_ret (v := .tuple #[zSp9, zInc, .int .i64 0, .int .i64 1]) (by simp [results, Try.results37, go_sem, r0, r1, r2, t0, t1, t2, t3, t4]) rfl (FIN.out _ ?_)
    exact below_put8 HB1.out (by omega) (by omega) _ _ _ _ _ _ _ _
  · by_cases hd : d < 1
    · go_wp2
      refine bodyPost_ret (v := .tuple #[zSp9, zInc, .int .i64 0, .int .i64 1]) (by simp [results, Try.results37, go_sem, r0, r1, r2, t0, t1, t2, t3, t4]) rfl (FIN.out _ ?_)
      exact below_put8 HB1.out (by omega) (by omega) _ _ _ _ _ _ _ _
    · have hd2 : 48 < d := by rcases hbad with h | h | h; cases h; omega; omega
      go_wp2
      refine bodyPost_ret (v := .tuple #[zSp9, zInc, .int .i64 0, .int .i64 1]) (by simp [results, Try.results37, go_sem, r0, r1, r2, t0, t1, t2, t3, t4]) rfl (FIN.out _ ?_)
      exact below_put8 HB1.out (by omega) (by omega) _ _ _ _ _ _ _ _

set_option maxHeartbeats 4000000 in
theorem allOk_any (k : Nat) (A A' : Option Addr) (nw c n c' : Nat) (wd : Nat → Int) (F : Nat → Fr) (sq bt fi la wo : Int) (d : Nat) (w : World) (hA : Arr w w.heap.size A nw c wd) (hT : Tab w w.heap.size A' n c' F) (hi : incB k nw wd n F sq bt fi la wo = true) (hd : 1 ≤ d ∧ d ≤ 48) :
    Calls Try.prog 37 #[.agg #[.int .i64 k, .slice A nw c, .slice A' n c'], .agg #[.int .i64 sq, .int .i64 bt, .int .i64 fi, .int .i64 la, .int .i64 wo], .int .i64 d] w (AllX k nw wd n F sq bt fi la wo d w) := by
  obtain ⟨hv, hfq⟩ := incB_yes hi
  rw [Int.toNat_natCast] at hfq
  have HI := Lib.hid hi
  have HIN := Lib.hid (show ¬ (incB k nw wd n F sq bt fi la wo = false ∨ (d : Int) < 1 ∨ 48 < (d : Int)) from fun h => by
    rcases h with h | h | h
    · rw [hi] at h; cases h
    · omega
    · omega)
  have HFQ := Lib.hid hfq
  clear hi hfq
  have hk := shB_yes hv.1
  have hn := nfB_yes hv.2.1
  have hnw : nw = n * 2 ^ k := by have := hv.2.2.1; rw [Int.toNat_natCast] at this; exact this
  have hpl := prod_le (show n ≤ 64 by omega) (show k ≤ 8 by omega)
  rw [← hnw] at hpl
  have HA := Lib.hid hA
  have HT := Lib.hid hT
  have HV := Lib.hid hv
  have HNW := Lib.hid hnw
  obtain ⟨U, hU⟩ : ∃ U, U = (((w.alloc (.cells #[.int .i64 k, .slice A nw c, .slice A' n c'] 25)).alloc (.cells #[.int .i64 sq, .int .i64 bt, .int .i64 fi, .int .i64 la, .int .i64 wo] 51)).alloc (.cells #[.int .i64 0, .slice none 0 0, .slice none 0 0] 25)).alloc (.cells #[.int .i64 0, .int .i64 0, .int .i64 0, .int .i64 0, .int .i64 0] 51) := ⟨_, rfl⟩
  have BS : Blk U w.heap.size 25 #[.int .i64 k, .slice A nw c, .slice A' n c'] := by rw [hU]; exact (((Blk.new _ _ _).alloc _).alloc _).alloc _
  have BI : Blk U (w.heap.size + 1) 51 #[.int .i64 sq, .int .i64 bt, .int .i64 fi, .int .i64 la, .int .i64 wo] := by rw [hU]; exact ((Blk.newAt _ _ _ _ (by simp)).alloc _).alloc _
  have BR : Blk U (w.heap.size + 2) 25 #[.int .i64 0, .slice none 0 0, .slice none 0 0] := by rw [hU]; exact (Blk.newAt _ _ _ _ (by simp)).alloc _
  have BQ : Blk U (w.heap.size + 3) 51 #[.int .i64 0, .int .i64 0, .int .i64 0, .int .i64 0, .int .i64 0] := by rw [hU]; exact Blk.newAt _ _ _ _ (by simp)
  have HBU : Hid (Below w.heap.size w U) := by rw [hU]; exact ((((Below.refl _ _).alloc (Nat.le_refl _) _).alloc (by simp) _).alloc (by simp; omega) _).alloc (by simp; omega) _
  have HU := Lib.hid hU
  have p0 := BS.cell 0
  have p1 := BS.cell 1
  have p2 := BS.cell 2
  have q0 := BI.cell 0
  have q1 := BI.cell 1
  have q2 := BI.cell 2
  have q3 := BI.cell 3
  have q4 := BI.cell 4
  simp at p0 p1 p2 q0 q1 q2 q3 q4
  clear hA hT hv hU hnw
  go_enter Try.func37, Try.ntmps37
  go_wp2_with fail
  rw [← HU.out]
  refine (refInc_any k A A' nw c n c' wd F sq bt fi la wo U (HA.out.next HBU.out) (HT.out.next HBU.out)).mono ?_
  rintro e U1 ⟨rfl, hb1⟩
  rw [HI.out]
  have BS1 := BS.next hb1
  have BI1 := BI.next hb1
  have BR1 := BR.next hb1
  have BQ1 := BQ.next hb1
  have HB1 : Hid (Below w.heap.size w U1) := below_next HBU.out (Nat.le_refl _) hb1
  clear p0 p1 p2 q0 q1 q2 q3 q4 hb1
  · have hF := HFQ.out.1
    obtain ⟨f1, f2, f3, f4, W, rfl, f6, f7, f8⟩ := hF
    have HFP : Hid (FitsP k n nw F sq bt fi la W) := ⟨f1, f2, f3, f4, W, rfl, f6, f7, f8⟩
    clear f7 f8
    have HSTA := Lib.hid (show ((W : Int) = 0 ∧ 0 < cntO F sq n) ↔ (W = 0 ∧ 0 < cntO F sq n) by constructor <;> rintro ⟨h1, h2⟩ <;> exact ⟨by omega, h2⟩)
    have p0 := BS1.cell 0
    have p1 := BS1.cell 1
    have p2 := BS1.cell 2
    have q0 := BI1.cell 0
    have q1 := BI1.cell 1
    have q2 := BI1.cell 2
    have q3 := BI1.cell 3
    have q4 := BI1.cell 4
    simp at p0 p1 p2 q0 q1 q2 q3 q4
    have wz : w.heap.size + 3 < U1.heap.size := BQ1.lt
    have HAfter : ∀ wx, Below U1.heap.size U1 wx → Hid (AllocMid k A A' nw c n c' sq bt fi la W w wx) := fun wx hb => ⟨BS1.next hb, BI1.next hb, BR1.next hb, BQ1.next hb, below_next HB1.out (Nat.le_refl _) hb⟩
    have HAF := Lib.hid HAfter
    clear HAfter
    obtain ⟨fl, hfl⟩ : ∃ fl, fl = decide (W = 0 ∧ 0 < cntO F sq n) := ⟨_, rfl⟩
    have HFL := Lib.hid hfl
    clear hfl
    go_upto_region 3 with fail
    go_cut [36] (fun s wx => s = .bool fl ∧ AllocMid k A A' nw c n c' sq bt fi la W w wx)
    case first =>
      by_cases hW : W = 0
      · subst hW
        go_wp2_with fail
        refine (ownsX_any k (.slice A nw c) A' n c' F sq U1 (HT.out.next HB1.out) (by omega)).mono ?_
        rintro e U2 ⟨rfl, hb2⟩
        have HAFX := HAF.out U2 hb2
        have HDD := Lib.hid (show decide (0 < cntO F sq n) = fl by rw [HFL.out]; simp)
        rw [HDD.out]
        go_wp2
        go_meet
        exact ⟨rfl, HAFX.out⟩
      · have hWb : ((W : Int) == 0) = false := by simp; omega
        have HAFX := HAF.out U1 (Below.refl _ _)
        have HDD := Lib.hid (show false = fl by rw [HFL.out]; exact (decide_eq_false (fun h => hW h.1)).symm)
        go_wp2
        go_meet
        exact ⟨congrArg Value.bool HDD.out, HAFX.out⟩
    case rest =>
      obtain ⟨rfl, BS2, BI2, BR2, BQ2, hB2⟩ := hcut
      have HBB := HFL
      have HB2 := Lib.hid hB2
      clear hB2 p0 p1 p2 q0 q1 q2 q3 q4
      rcases fl with _ | _
      · have p0 := BS2.cell 0
        have p1 := BS2.cell 1
        have p2 := BS2.cell 2
        simp at p0 p1 p2
        go_wp2_with fail
        refine (copy_any k A A' nw c n c' wd F wc (HA.out.next HB2.out) (HT.out.next HB2.out) (by omega) (by omega) (by omega)).mono ?_
        rintro e U3 ⟨A1, c1, g, c2, rfl, ho, ht, hb3⟩
        have BI3 := BI2.next hb3
        have BR3 := BR2.next hb3
        have BQ3 := BQ2.next hb3
        have HB3 : Hid (Below w.heap.size w U3) := below_next HB2.out (Nat.le_refl _) hb3
        have HO := Lib.hid ho
        have HTB := Lib.hid ht
        have HGB : Hid (wc.heap.size ≤ g ∧ g < U3.heap.size) := ht.bounds
        have zwc : w.heap.size + 3 < wc.heap.size := BQ2.lt
        clear ho ht hb3 p0 p1 p2
        obtain ⟨X, hX⟩ : ∃ X, X = U3.alloc (.cells #[.int .i64 k, .slice A1 nw c1, .slice (some ⟨g, 0, none⟩) n c2] 25) := ⟨_, rfl⟩
        have BO : Blk X U3.heap.size 25 #[.int .i64 k, .slice A1 nw c1, .slice (some ⟨g, 0, none⟩) n c2] := by rw [hX]; exact Blk.new _ _ _
        have hbx : Below U3.heap.size U3 X := by rw [hX]; exact (Below.refl _ _).alloc (Nat.le_refl _) _
        have BI4 := BI3.next hbx
        have BR4 := BR3.next hbx
        have BQ4 := BQ3.next hbx
        have HB4 : Hid (Below w.heap.size w X) := below_next HB3.out (Nat.le_refl _) hbx
        have HO4 := Lib.hid (HO.out.below hbx)
        have HT4 := Lib.hid (HTB.out.below hbx)
        have HX := Lib.hid hX
        have o0 := BO.cell 0
        have o1 := BO.cell 1
        have o2 := BO.cell 2
        have q0 := BI3.cell 0
        have q1 := BI3.cell 1
        have q2 := BI3.cell 2
        have q3 := BI3.cell 3
        have q4 := BI3.cell 4
        have zi3 : w.heap.size + 1 < U3.heap.size := BI3.lt
        simp at o0 o1 o2 q0 q1 q2 q3 q4
        clear hX hbx
        go_wp2_with fail
        rw [← HX.out]
        refine (grow_pos k A1 nw c1 n c2 g wc.heap.size F sq bt fi la W d X HT4.out (by omega) HV.out.fv (by omega) (by omega) HNW.out HFP.out hd).mono ?_
        rintro e X5 hgx
        have HNS : Hid (¬ ((W : Int) = 0 ∧ 0 < cntO F sq n)) := Lib.hid (fun h => of_decide_eq_false HBB.out.symm (HSTA.out.1 h))
        rcases hgx with ⟨hfull, rfl, ht5, hg5⟩ | ⟨hroom, fi5, la5, F5, hgq, rfl, ht5, hg5, hgr⟩
        · obtain ⟨gb1, gb2⟩ := HGB.out
          have BR5 := BR4.turn hg5 (by omega)
          have BQ5 := BQ4.turn hg5 (by omega)
          have HB5 : Hid (Below w.heap.size w X5) := HB4.out.trans (turn_under hg5 (by omega) HB4.out.size)
          have FIN := Lib.hid (fun W' (h : Below w.heap.size w W') => allX_full (s := (k : Int)) (nw := nw) (wd := wd) HIN.out HNS.out (by rw [Int.toNat_natCast, Int.toNat_natCast, Int.toNat_natCast]; exact hfull) h)
          clear hfull ht5 hg5 o0 o1 o2 q0 q1 q2 q3 q4 BO BR4 BQ4 BR3 BQ3 BR2 BQ2
          have zX : w.heap.size + 3 < X5.heap.size := BQ5.lt
          have zX2 : w.heap.size + 2 < X5.heap.size := BR5.lt
          have zX2' : w.heap.size + 1 + 1 < X5.heap.size := BR5.lt
          have zX3' : w.heap.size + 1 + 1 + 1 < X5.heap.size := BQ5.lt
          have r0 := BR5.cell 0
          have r1 := BR5.cell 1
          have r2 := BR5.cell 2
          have rf0 := BR5.frozen 0
          have rf1 := BR5.frozen 1
          have rf2 := BR5.frozen 2
          have t0 := BQ5.cell 0
          have t1 := BQ5.cell 1
          have t2 := BQ5.cell 2
          have t3 := BQ5.cell 3
          have t4 := BQ5.cell 4
          have tf0 := BQ5.frozen 0
          have tf1 := BQ5.frozen 1
          have tf2 := BQ5.frozen 2
          have tf3 := BQ5.frozen 3
          have tf4 := BQ5.frozen 4
          simp at r0 r1 r2 t0 t1 t2 t3 t4
          go_wp2
          refine bodyPost_ret (v := .tuple #[zSp9, zInc, .int .i64 0, .int .i64 4]) (by simp [results, Try.results37, go_sem, r0, r1, r2, t0, t1, t2, t3, t4, zX2', zX3']) rfl (FIN.out _ ?_)
          exact (below_put8 HB5.out (by omega) (by omega) _ _ _ _ _ _ _ _).alloc (by simpa using HB5.out.size) _
        · obtain ⟨gb1, gb2⟩ := HGB.out
          have BO5 := BO.turn hg5 (by omega)
          have BR5 := BR4.turn hg5 (by omega)
          have BQ5 := BQ4.turn hg5 (by omega)
          have HO5 := Lib.hid (HO4.out.beside HT4.out hg5)
          have HB5 : Hid (Below w.heap.size w X5) := HB4.out.trans (turn_under hg5 (by omega) HB4.out.size)
          have HT5 := Lib.hid ht5
          have hall : allG k n F sq bt fi la W d = ⟨F5, fi5, la5⟩ := by unfold allG moreK; rw [Int.toNat_natCast, Int.toNat_natCast, Int.toNat_natCast]; exact hgq
          have hok : allE k nw wd n F sq bt fi la W d = 0 := allE_ok HIN.out HNS.out (by unfold moreK; rw [Int.toNat_natCast, Int.toNat_natCast, Int.toNat_natCast]; omega)
          have HFIN := Lib.hid (show ∀ w', Own w' wc.heap.size A1 nw c1 wd → OwnT w' wc.heap.size (some ⟨g, 0, none⟩) n c2 F5 → Below w.heap.size w w' →
              AllX k nw wd n F sq bt fi la W d w (.returned (.tuple #[.agg #[.int .i64 k, .slice A1 nw c1, .slice (some ⟨g, 0, none⟩) n c2], .agg #[.int .i64 sq, .int .i64 bt, .int .i64 fi5, .int .i64 la5, .int .i64 ((W + d : Nat) : Int)], .int .i64 (addrP F5 k fi5 W), .int .i64 0])) w' from
            fun w' x1 x2 x3 => .inr ⟨hok, A1, c1, g, c2, by rw [hall, Int.toNat_natCast, Int.toNat_natCast]; simp, x1.lower (by omega), by rw [hall]; exact x2.lower (by omega), x3⟩)
          clear hall hok hgq hgr hroom ht5 hg5 o0 o1 o2 q0 q1 q2 q3 q4 BO BR4 BQ4 BR3 BQ3 BR2 BQ2
          have zX : w.heap.size + 3 < X5.heap.size := BQ5.lt
          have zO : U3.heap.size < X5.heap.size := BO5.lt
          have zX2 : w.heap.size + 2 < X5.heap.size := BR5.lt
          have zX2' : w.heap.size + 1 + 1 < X5.heap.size := BR5.lt
          have zX3' : w.heap.size + 1 + 1 + 1 < X5.heap.size := BQ5.lt
          have r0 := BR5.cell 0
          have r1 := BR5.cell 1
          have r2 := BR5.cell 2
          have rf0 := BR5.frozen 0
          have rf1 := BR5.frozen 1
          have rf2 := BR5.frozen 2
          have t0 := BQ5.cell 0
          have t1 := BQ5.cell 1
          have t2 := BQ5.cell 2
          have t3 := BQ5.cell 3
          have t4 := BQ5.cell 4
          have tf0 := BQ5.frozen 0
          have tf1 := BQ5.frozen 1
          have tf2 := BQ5.frozen 2
          have tf3 := BQ5.frozen 3
          have tf4 := BQ5.frozen 4
          simp at r0 r1 r2 t0 t1 t2 t3 t4
          have o0 := BO5.cell 0
          have o1 := BO5.cell 1
          have o2 := BO5.cell 2
          simp at o0 o1 o2
          obtain ⟨AD, hAD⟩ : ∃ z, z = addrP F5 k fi5 W := ⟨_, rfl⟩
          obtain ⟨SU, hSU⟩ : ∃ z : Int, z = ((W + d : Nat) : Int) := ⟨_, rfl⟩
          rw [← hAD, ← hSU] at HFIN ⊢
          clear hAD hSU
          go_wp2
          go_region
          go_wp2
          refine bodyPost_ret (v := .tuple #[.agg #[.int .i64 k, .slice A1 nw c1, .slice (some ⟨g, 0, none⟩) n c2], .agg #[.int .i64 sq, .int .i64 bt, .int .i64 fi5, .int .i64 la5, .int .i64 SU], .int .i64 AD, .int .i64 0]) (by simp [results, Try.results37, go_sem, r0, r1, r2, t0, t1, t2, t3, t4, zX2', zX3']) rfl (HFIN.out _ ?_ ?_ ?_)
          · exact ((HO5.out.put8 (by omega) (by omega) _ _ _ _ _ _ _ _).below ((Below.refl _ _).alloc (Nat.le_refl _) _)).drew
          · exact ((HT5.out.put8 (by omega) (by omega) _ _ _ _ _ _ _ _).below ((Below.refl _ _).alloc (Nat.le_refl _) _)).drew
          · exact ((below_put8 HB5.out (by omega) (by omega) _ _ _ _ _ _ _ _).alloc (by simpa using HB5.out.size) _).drew
      · have tok : True := trivial
        have r0 := BR2.cell 0
        have r1 := BR2.cell 1
        have r2 := BR2.cell 2
        have rf0 := BR2.frozen 0
        have rf1 := BR2.frozen 1
        have rf2 := BR2.frozen 2
        have t0 := BQ2.cell 0
        have t1 := BQ2.cell 1
        have t2 := BQ2.cell 2
        have t3 := BQ2.cell 3
        have t4 := BQ2.cell 4
        have tf0 := BQ2.frozen 0
        have tf1 := BQ2.frozen 1
        have tf2 := BQ2.frozen 2
        have tf3 := BQ2.frozen 3
        have tf4 := BQ2.frozen 4
        simp at r0 r1 r2 t0 t1 t2 t3 t4
        go_wp2
        refine bodyPost_ret (v := .tuple #[.agg #[.int .i64 0, .slice none 0 0, .slice none 0 0], .agg #[.int .i64 0, .int .i64 0, .int .i64 0, .int .i64 0, .int .i64 0], .int .i64 0, .int .i64 5]) (by simp [results, Try.results37, go_sem, r0, r1, r2, t0, t1, t2, t3, t4]) rfl (allX_state HIN.out (HSTA.out.2 (of_decide_eq_true HBB.out.symm)) ?_)
        exact below_put8 HB2.out (by omega) (by omega) _ _ _ _ _ _ _ _

/-- Alloc of the reference of layer 9, for every raw space, every increment and every number. -/
theorem refAll9_any (s : Int) (A A' : Option Addr) (nw c n c' : Nat) (wd : Nat → Int) (F : Nat → Fr) (sq bt fi la wo d : Int) (w : World) (hA : Arr w w.heap.size A nw c wd) (hT : Tab w w.heap.size A' n c' F) :
    Calls Try.prog 37 #[.agg #[.int .i64 s, .slice A nw c, .slice A' n c'], .agg #[.int .i64 sq, .int .i64 bt, .int .i64 fi, .int .i64 la, .int .i64 wo], .int .i64 d] w (AllX s nw wd n F sq bt fi la wo d w) := by
  by_cases h : incB s nw wd n F sq bt fi la wo = false ∨ d < 1 ∨ 48 < d
  · exact allBad_any s A A' nw c n c' wd F sq bt fi la wo d w hA hT h
  · have hi : incB s nw wd n F sq bt fi la wo = true := by
      cases e : incB s nw wd n F sq bt fi la wo
      · exact absurd (.inl e) h
      · rfl
    obtain ⟨k, rfl, _⟩ := valid_nat (incB_yes hi).1
    obtain ⟨m, rfl⟩ : ∃ m : Nat, d = m := ⟨d.toNat, by omega⟩
    exact allOk_any k A A' nw c n c' wd F sq bt fi la wo m w hA hT hi (by omega)

/-- What growing leaves. -/
theorem growG_grown {F : Nat → Fr} {n k : Nat} {sq st fi la : Int} {c0 : Nat} (hv : FV F n) (hst : stB st sq = true) (hc : ChainP F n fi la c0 sq st) : ∀ t, t ≤ freeN F n → ∃ (F' : Nat → Fr) (fi' la' : Int), growG n sq st t ⟨F, fi, la⟩ = ⟨F', fi', la'⟩ ∧ Grown_ F n k sq st c0 (c0 + t) fi' la' F' ∧ freeN F' n + t = freeN F n
  | 0, _ => ⟨F, fi, la, rfl, ⟨hv, hc, fun _ h => h, fun _ => .inl rfl, fun _ _ _ => rfl, rfl⟩, rfl⟩
  | t + 1, ht => by
    obtain ⟨G, p, l, h1, h2, h3⟩ := growG_grown (k := k) hv hst hc t (by omega)
    obtain ⟨f, hf⟩ := least_free (F := G) (n := n) (by omega)
    have hso : sq ≠ -1 := by have := (stB_yes hst).1; omega
    have hnl := freeN_lift (F := G) (o := sq) (s := st) hf.2.1 hso n
    rw [if_pos hf.1] at hnl
    rcases h2.2.1 with ⟨h4, h5⟩ | ⟨hm0, p', l', h4, _, h5, _⟩
    · subst h5
      rw [h4] at h2
      exact ⟨_, _, _, growG_first h1 hf, by rw [show c0 + (t + 1) = 1 by omega]; exact grown_first h2 hf hst, by omega⟩
    · subst h4 h5
      exact ⟨_, _, _, growG_next h1 hf, grown_next h2 hm0 hf hst, by rw [freeN_link]; omega⟩
theorem fits_stB {k n nw : Nat} {F : Nat → Fr} {sq bt fi la wo : Int} (h : FitsP k n nw F sq bt fi la wo) : stB (bt * 4294967296 + sq) sq = true := by
  obtain ⟨f1, f2, f3, f4, _⟩ := h
  refine decide_eq_true ⟨f1, f2, ?_⟩
  rcases (show bt = 0 ∨ bt = 1 ∨ bt = 2 ∨ bt = 3 by omega) with h | h | h | h <;> subst h <;> omega
/-- What Alloc leaves of a valid space. -/
theorem allG_grown {k n nw d : Nat} {wd : Nat → Int} {F : Nat → Fr} {sq bt fi la wo : Int} (hi : incB k nw wd n F sq bt fi la wo = true) (hd : moreK k wo.toNat d ≤ freeN F n) :
    ∃ W : Nat, wo = W ∧ Grown_ F n k sq (bt * 4294967296 + sq) (ceilV W k) (ceilV (W + d) k) (allG k n F sq bt fi la wo d).fi (allG k n F sq bt fi la wo d).la (allG k n F sq bt fi la wo d).F := by
  obtain ⟨hv, hfq, _⟩ := incB_yes hi
  rw [Int.toNat_natCast] at hfq
  have hst := fits_stB hfq
  obtain ⟨_, _, _, _, W, rfl, _, hc, _⟩ := hfq
  rw [Int.toNat_natCast] at hd
  obtain ⟨F', fi', la', h1, h2, _⟩ := growG_grown (k := k) hv.fv hst hc (moreK k W d) hd
  have hmono := ceilV_mono k (show W ≤ W + d by omega)
  have h3 : allG k n F sq bt fi la W d = ⟨F', fi', la'⟩ := by unfold allG; rw [Int.toNat_natCast, Int.toNat_natCast, Int.toNat_natCast]; exact h1
  rw [h3]
  refine ⟨W, rfl, ?_⟩
  rw [show ceilV W k + moreK k W d = ceilV (W + d) k by unfold moreK; omega] at h2
  exact h2

section
variable {F F' : Nat → Fr} {n : Nat} {sq st : Int}
/-- A chain to which a frame more has been linked is as it was. -/
theorem iter_link {G : Nat → Fr} {m p l f : Nat} (gv : FV G n) (hst : stB st sq = true) (hm : 0 < m) (hf1 : f < n) (hf2 : (G f).ow = -1) (gc : ChainP G n p l m sq st) : ∀ i, i < m → iter (link (lift G f sq st) l f) i p = iter G i p
  | 0, _ => rfl
  | i + 1, hi => by
    rw [iter_succ, iter_succ, iter_link gv hst hm hf1 hf2 gc i (by omega)]
    obtain ⟨q, hq1, hq2, hq3, hq4⟩ := gc.at_ gv hst (show i < m by omega)
    obtain ⟨q', hq1', _⟩ := gc.at_ gv hst hi
    have hso := (stB_yes hst).1
    have hqf : q ≠ f := fun e => by rw [e, hf2] at hq3; omega
    have hql : q ≠ l := fun e => by
      rw [iter_succ, hq1, if_neg (by omega), Int.toNat_natCast] at hq1'
      rcases gc with ⟨h7, _⟩ | ⟨_, p', l', _, _, h8, _, _, h9, _⟩
      · omega
      · obtain rfl : l = l' := by omega
        rw [e, h9] at hq1'
        omega
    rw [hq1, if_neg (by omega), if_neg (by omega), Int.toNat_natCast, link_other hql, lift_other hqf]
/-- An increment that has grown begins as it did. -/
theorem growG_iter {fi la : Int} {c0 : Nat} (hv : FV F n) (hst : stB st sq = true) (hc : ChainP F n fi la c0 sq st) (h0 : 0 < c0) : ∀ t, t ≤ freeN F n → (growG n sq st t ⟨F, fi, la⟩).fi = fi ∧ ∀ i, i < c0 → iter (growG n sq st t ⟨F, fi, la⟩).F i fi = iter F i fi
  | 0, _ => ⟨rfl, fun _ _ => rfl⟩
  | t + 1, ht => by
    obtain ⟨G, p, l, h1, h2, h3⟩ := growG_grown (k := 0) hv hst hc t (by omega)
    obtain ⟨e1, e2⟩ := growG_iter hv hst hc h0 t (by omega)
    rw [h1] at e1 e2
    obtain ⟨f, hf⟩ := least_free (F := G) (n := n) (by omega)
    rcases h2.2.1 with ⟨h4, h5⟩ | ⟨hm0, p', l', h4, h6, h5, h7⟩
    · omega
    · have gc := h2.2.1
      subst h4 h5
      dsimp only at e1 e2
      rw [growG_next h1 hf]
      refine ⟨e1, fun i hi => ?_⟩
      have h8 := iter_link h2.1 hst hm0 hf.1 hf.2.1 gc i (by omega)
      rw [e1] at h8
      exact h8.trans (e2 i hi)
end
theorem alloc_any (k : Nat) (A A' : Option Addr) (nw c n c' : Nat) (wd : Nat → Int) (F : Nat → Fr) (sq bt fi la wo : Int) (d : Nat) (w : World) (hA : Arr w w.heap.size A nw c wd) (hT : Tab w w.heap.size A' n c' F) (hv : ValidP k nw wd n F) (hd : 1 ≤ d ∧ d ≤ 48) :
    Calls Try.prog 37 #[.agg #[.int .i64 k, .slice A nw c, .slice A' n c'], .agg #[.int .i64 sq, .int .i64 bt, .int .i64 fi, .int .i64 la, .int .i64 wo], .int .i64 d] w (AllocOf k nw n wd d F sq bt fi wo w) := by
  refine (refAll9_any k A A' nw c n c' wd F sq bt fi la wo d w hA hT).mono fun e w' h => ?_
  rcases h with ⟨x, h1, h2, rfl, hb⟩ | ⟨h0, A1, c1, g, c2, rfl, ho, ht, hb⟩
  · exact ⟨_, _, _, _, _, _, _, _, _, _, rfl, hb, ⟨_, _, _, _, _, _, _, rfl, rfl, rfl⟩, fun h => absurd h h2⟩
  · refine ⟨_, _, _, _, _, _, _, _, _, _, rfl, hb, ⟨_, _, _, _, _, _, _, rfl, rfl, rfl⟩, fun _ => ?_⟩
    have hi : incB k nw wd n F sq bt fi la wo = true := by
      cases e : incB k nw wd n F sq bt fi la wo
      · unfold allE at h0; rw [if_pos (.inl e)] at h0; cases h0
      · rfl
    have hfr : moreK k wo.toNat d ≤ freeN F n := by
      unfold allE at h0
      rw [Int.toNat_natCast, Int.toNat_natCast] at h0
      split at h0
      · cases h0
      · split at h0
        · cases h0
        · split at h0
          · cases h0
          · omega
    obtain ⟨W, rfl, v1, v2, v3, v4, v5, v6⟩ := allG_grown hi hfr
    have hst := fits_stB (incB_yes hi).2.1
    have hcov := ceilV_cover (W + d) k
    rw [Int.toNat_natCast, Int.toNat_natCast]
    refine ⟨A1, c1, g, c2, _, _, _, sq, _, _, W, rfl, rfl, rfl, ho, ht, ValidP.mk_ hv.1 hv.2.1 hv.2.2.1 v1 (hv.zr.mono (fun f _ h => v3 f h)), v2, hst, rfl, hcov, v4, rfl, rfl, rfl, rfl, by simp, rfl, rfl, rfl, rfl, v5, v6, fun h0 => ?_⟩
    obtain ⟨hv2, hfq, _⟩ := incB_yes hi
    rw [Int.toNat_natCast] at hfq
    obtain ⟨_, _, _, _, W', hW', _, hc, _⟩ := hfq
    obtain rfl : W = W' := by omega
    have hcp : 0 < ceilV W k := by
      have := ceilV_cover W k
      rcases Nat.eq_zero_or_pos (ceilV W k) with e | e
      · rw [e] at this; omega
      · exact e
    rw [Int.toNat_natCast] at hfr
    obtain ⟨e1, e2⟩ := growG_iter hv2.fv hst hc hcp (moreK k W d) hfr
    have e3 : allG k n F sq bt fi la W d = growG n sq (bt * 4294967296 + sq) (moreK k W d) ⟨F, fi, la⟩ := by unfold allG; rw [Int.toNat_natCast, Int.toNat_natCast, Int.toNat_natCast]
    rw [e3, e1]
    exact ⟨rfl, e2⟩
end Go.Proofs.Ytjkbjbikofindaa

namespace Go.Proofs.Ytjkbjbikofindaa
open Go.RowKit
set_option maxRecDepth 100000
set_option linter.unusedVariables false

section
variable {K nw n : Nat} {wd : Nat → Int} {F : Nat → Fr} {a lv : Int}
theorem iniW_head {T : Nat} (h : stpE K nw wd n F a T = 0) : ∀ t, t ≤ T → iniW K nw wd n F a lv t a.toNat = lv
  | 0, _ => by
    show (if a.toNat = a.toNat then lv else wd a.toNat) = lv
    rw [if_pos rfl]
  | t + 1, ht => by
    show (if a.toNat = (stpV K nw wd n F a ((t + 1 : Nat) : Int)).toNat then 0 else iniW K nw wd n F a lv t a.toNat) = lv
    rw [if_neg, iniW_head h t (by omega)]
    intro e
    have h0 := stp_less h (j := 0) (by omega) (by omega)
    have h1 := stp_less h (j := ((t + 1 : Nat) : Int)) (by omega) (by omega)
    have e0 := stp_self h0
    obtain ⟨P, hP, _⟩ := stp_nat h1
    obtain ⟨Q, hQ, _⟩ := stp_nat h0
    have := stp_inj h0 h1 (by omega)
    omega
theorem iniW_fld {T : Nat} (h : stpE K nw wd n F a T = 0) : ∀ t, t ≤ T → ∀ k : Nat, 1 ≤ k → k ≤ t → iniW K nw wd n F a lv t (stpV K nw wd n F a k).toNat = 0
  | 0, _, k, h1, h2 => by omega
  | t + 1, ht, k, h1, h2 => by
    show (if (stpV K nw wd n F a k).toNat = (stpV K nw wd n F a ((t + 1 : Nat) : Int)).toNat then 0 else iniW K nw wd n F a lv t (stpV K nw wd n F a k).toNat) = 0
    by_cases e : k = t + 1
    · subst e; rw [if_pos rfl]
    · by_cases e2 : (stpV K nw wd n F a k).toNat = (stpV K nw wd n F a ((t + 1 : Nat) : Int)).toNat
      · rw [if_pos e2]
      · rw [if_neg e2]
        exact iniW_fld h t (by omega) k h1 (by omega)
/-- What Init leaves is an object of the shape asked for. -/
theorem ini_shape {R D : Nat} (hv : ValidP K nw wd n F) (hR : R ≤ 15) (hD : D ≤ 32) (h : stpE K nw wd n F a ((R + D : Nat) : Int) = 0) :
    shpE K nw (iniW K nw wd n F a (Hd.liveV R D) (R + D)) n F a = 0 ∧ shpR K nw (iniW K nw wd n F a (Hd.liveV R D) (R + D)) n F a = R ∧ shpD K nw (iniW K nw wd n F a (Hd.liveV R D) (R + D)) n F a = D := by
  have hw := stp_words hv (iniW_valid (lv := Hd.liveV R D) hv (R + D) h) a
  have hh := iniW_head (lv := Hd.liveV R D) h (R + D) (Nat.le_refl _)
  obtain ⟨d1, d2, d3, d4, d5⟩ := Hd.dec_live (r := R) (d := D) (by omega)
  have h0 : stpE K nw (iniW K nw wd n F a (Hd.liveV R D) (R + D)) n F a 0 = 0 := by rw [(hw 0).1]; exact stp_less h (by omega) (by omega)
  have e := shp_ok (s := K) (nw := nw) (wd := iniW K nw wd n F a (Hd.liveV R D) (R + D)) (n := n) (F := F) (a := a) h0 (by rw [hh]; exact d5) (by rw [hh]; exact d1) (by rw [hh, d3, d4, (hw _).1, ← Int.natCast_add]; exact h)
  rw [hh, d3, d4] at e
  exact e
end

/-- The size of the object whose header is x; x is a live header. -/
noncomputable def szW (x : Int) : Nat := 1 + (Hd.decR x).toNat + (Hd.decD x).toNat
def hdB (x : Int) : Prop := Hd.decE x = 0 ∧ Hd.isF x = false
section
variable (K : Nat) (wd : Nat → Int) (F : Nat → Fr) (p : Int)
/-- The place in the chain of the j-th object, its address; the first j ones are objects; objects fill the first W words of the chain. -/
noncomputable def posN : Nat → Nat
  | 0 => 0
  | j + 1 => posN j + szW (wd (addrP F K p (posN j)).toNat)
noncomputable def adrN (j : Nat) : Nat := (addrP F K p (posN K wd F p j)).toNat
def Hds (j : Nat) : Prop := ∀ i, i < j → hdB (wd (adrN K wd F p i))
noncomputable def lstN (j : Nat) : List Nat := (List.range j).map (adrN K wd F p)
def FullR (W : Int) : Prop := ∃ j, Hds K wd F p j ∧ ((posN K wd F p j : Nat) : Int) = W
end
section
variable {K : Nat} {wd wd' : Nat → Int} {F F' : Nat → Fr} {p : Int}
theorem posN_succ (j : Nat) : posN K wd F p (j + 1) = posN K wd F p j + szW (wd (adrN K wd F p j)) := rfl
theorem posN_lt (j : Nat) : posN K wd F p j < posN K wd F p (j + 1) := by rw [posN_succ]; unfold szW; omega
theorem posN_mono {i j : Nat} (h : i ≤ j) : posN K wd F p i ≤ posN K wd F p j := by
  induction j with
  | zero => obtain rfl : i = 0 := by omega
            exact Nat.le_refl _
  | succ j ih =>
    rcases (show i ≤ j ∨ i = j + 1 by omega) with h1 | rfl
    · have := ih h1; have := posN_lt (K := K) (wd := wd) (F := F) (p := p) j; omega
    · exact Nat.le_refl _
theorem posN_smono {i j : Nat} (h : i < j) : posN K wd F p i < posN K wd F p j := by
  have h1 := posN_lt (K := K) (wd := wd) (F := F) (p := p) i
  have h2 := posN_mono (K := K) (wd := wd) (F := F) (p := p) (show i + 1 ≤ j from h)
  omega
theorem posN_ge (j : Nat) : j ≤ posN K wd F p j := by
  induction j with
  | zero => omega
  | succ j ih => have := posN_lt (K := K) (wd := wd) (F := F) (p := p) j; omega
theorem lstN_length (j : Nat) : (lstN K wd F p j).length = j := by simp [lstN]
theorem lstN_succ (j : Nat) : lstN K wd F p (j + 1) = lstN K wd F p j ++ [adrN K wd F p j] := by simp [lstN, List.range_succ]
theorem lstN_get {i j : Nat} (h : i < j) : (lstN K wd F p j)[i]? = some (adrN K wd F p i) := by simp [lstN, h]
theorem Hds.more {j : Nat} (h : Hds K wd F p j) (h1 : hdB (wd (adrN K wd F p j))) : Hds K wd F p (j + 1) := fun i hi => by
  rcases (show i < j ∨ i = j by omega) with h2 | rfl
  · exact h i h2
  · exact h1
theorem Hds.less {i j : Nat} (h : Hds K wd F p j) (hi : i ≤ j) : Hds K wd F p i := fun t ht => h t (by omega)
/-- The first W words of the chain and their places stay. -/
def Stay (K : Nat) (wd wd' : Nat → Int) (F F' : Nat → Fr) (p : Int) (W : Nat) : Prop := ∀ q, q < W → addrP F' K p q = addrP F K p q ∧ wd' (addrP F K p q).toNat = wd (addrP F K p q).toNat
theorem Stay.trans {wd'' : Nat → Int} {F'' : Nat → Fr} {W : Nat} (h : Stay K wd wd' F F' p W) (h' : Stay K wd' wd'' F' F'' p W) : Stay K wd wd'' F F'' p W := fun q hq => by
  obtain ⟨h1, h2⟩ := h q hq
  obtain ⟨h3, h4⟩ := h' q hq
  exact ⟨h3.trans h1, by rw [← h2, ← h1]; exact h4⟩
theorem posN_keep {W : Nat} (h : Stay K wd wd' F F' p W) : ∀ j, posN K wd F p j ≤ W → posN K wd' F' p j = posN K wd F p j
  | 0, _ => rfl
  | j + 1, hj => by
    have hl := posN_lt (K := K) (wd := wd) (F := F) (p := p) j
    have ih := posN_keep h j (by omega)
    obtain ⟨h1, h2⟩ := h (posN K wd F p j) (by omega)
    rw [posN_succ, posN_succ]
    unfold adrN
    rw [ih, h1, h2]
theorem adrN_keep {W : Nat} (h : Stay K wd wd' F F' p W) {j : Nat} (hj : posN K wd F p j < W) : adrN K wd' F' p j = adrN K wd F p j ∧ wd' (adrN K wd F p j) = wd (adrN K wd F p j) := by
  obtain ⟨h1, h2⟩ := h (posN K wd F p j) hj
  unfold adrN
  rw [posN_keep h j (by omega), h1]
  exact ⟨rfl, h2⟩
theorem lstN_keep {W : Nat} (h : Stay K wd wd' F F' p W) {j : Nat} (hj : posN K wd F p j ≤ W) : lstN K wd' F' p j = lstN K wd F p j := by
  unfold lstN
  refine List.map_congr_left fun i hi => ?_
  rw [List.mem_range] at hi
  exact (adrN_keep h (by have := posN_smono (K := K) (wd := wd) (F := F) (p := p) hi; omega)).1
theorem Hds.keep {W j : Nat} (hh : Hds K wd F p j) (h : Stay K wd wd' F F' p W) (hj : posN K wd F p j ≤ W) : Hds K wd' F' p j := fun i hi => by
  have h1 := adrN_keep h (j := i) (by have := posN_smono (K := K) (wd := wd) (F := F) (p := p) hi; omega)
  rw [h1.1, h1.2]
  exact hh i hi
theorem FullR.keep {W : Nat} (hf : FullR K wd F p W) (h : Stay K wd wd' F F' p W) : FullR K wd' F' p W := by
  obtain ⟨j, h1, h2⟩ := hf
  have hj : posN K wd F p j ≤ W := by omega
  exact ⟨j, h1.keep h hj, by rw [posN_keep h j hj]; exact h2⟩
theorem FullR.none (p : Int) : FullR K wd F p 0 := ⟨0, fun i hi => absurd hi (by omega), rfl⟩
/-- One object more. -/
theorem Hds.snoc {W j : Nat} (hh : Hds K wd F p j) (hW : posN K wd F p j = W) {r d : Int} (h0 : 0 ≤ r) (h1 : 0 ≤ d) (he : Hd.decE (wd (addrP F K p W).toNat) = 0) (hi : Hd.isF (wd (addrP F K p W).toNat) = false) (hr : Hd.decR (wd (addrP F K p W).toNat) = r) (hd : Hd.decD (wd (addrP F K p W).toNat) = d) :
    Hds K wd F p (j + 1) ∧ ((posN K wd F p (j + 1) : Nat) : Int) = W + 1 + r + d := by
  have ea : adrN K wd F p j = (addrP F K p W).toNat := by unfold adrN; rw [hW]
  refine ⟨hh.more (by rw [ea]; exact ⟨he, hi⟩), ?_⟩
  rw [posN_succ, ea, hW]
  unfold szW
  rw [hr, hd]
  omega
end

section
variable {K nw n : Nat} {wd : Nat → Int} {F : Nat → Fr} {a lv : Int}
theorem iniW_other {x : Nat} (h0 : x ≠ a.toNat) : ∀ t : Nat, (∀ u : Nat, 1 ≤ u → u ≤ t → x ≠ (stpV K nw wd n F a u).toNat) → iniW K nw wd n F a lv t x = wd x
  | 0, _ => by show (if x = a.toNat then lv else wd x) = wd x; rw [if_neg h0]
  | t + 1, h => by
    show (if x = (stpV K nw wd n F a ((t + 1 : Nat) : Int)).toNat then 0 else iniW K nw wd n F a lv t x) = wd x
    rw [if_neg (h (t + 1) (by omega) (Nat.le_refl _))]
    exact iniW_other h0 t fun u h1 h2 => h u h1 (by omega)
/-- What Init leaves at the place W of a chain: the object there, all places before it, and all words of other owners. -/
theorem ini_place {p m W R D : Nat} (hv : ValidP K nw wd n F) (hp : p < n) (ho : (F p).ow ≠ -1) (hl : LenP F p m) (hW : W + (1 + R + D) ≤ m * 2 ^ K) (hR : R ≤ 15) (hD : D ≤ 32) :
    ∃ wd' : Nat → Int, wd' = iniW K nw wd n F (addrP F K p W) (Hd.liveV R D) (R + D) ∧ (∀ q, q < W → wd' (addrP F K p q).toNat = wd (addrP F K p q).toNat) ∧
      Hd.decE (wd' (addrP F K p W).toNat) = 0 ∧ Hd.isF (wd' (addrP F K p W).toNat) = false ∧ Hd.decR (wd' (addrP F K p W).toNat) = R ∧ Hd.decD (wd' (addrP F K p W).toNat) = D ∧
      ∀ z r : Nat, r < 2 ^ K → (F z).ow ≠ (F p).ow → wd' (z * 2 ^ K + r) = wd (z * 2 ^ K + r) := by
  refine ⟨_, rfl, fun q hq => ?_, ?_⟩
  · refine iniW_other ?_ _ fun u h1 h2 => ?_
    · intro e
      obtain ⟨z, r, e1, _⟩ := addr_in hv hp ho hl (show q < m * 2 ^ K by omega)
      obtain ⟨z', r', e2, _⟩ := addr_in hv hp ho hl (show W < m * 2 ^ K by omega)
      have := addr_inj hv hp ho hl (show q < m * 2 ^ K by omega) (show W < m * 2 ^ K by omega) (by omega)
      omega
    · rw [(addr_stp hv hp ho hl (P := W) (Q := u) (by omega)).2]
      intro e
      obtain ⟨z, r, e1, _⟩ := addr_in hv hp ho hl (show q < m * 2 ^ K by omega)
      obtain ⟨z', r', e2, _⟩ := addr_in hv hp ho hl (show W + u < m * 2 ^ K by omega)
      have := addr_inj hv hp ho hl (show q < m * 2 ^ K by omega) (show W + u < m * 2 ^ K by omega) (by omega)
      omega
  · have hs := (addr_stp hv hp ho hl (P := W) (Q := R + D) (by omega)).1
    have hh := iniW_head (lv := Hd.liveV R D) hs (R + D) (Nat.le_refl _)
    obtain ⟨d1, d2, d3, d4, d5⟩ := Hd.dec_live (r := R) (d := D) (by omega)
    rw [hh]
    refine ⟨d5, d1, d3, d4, fun z r hr hz => ?_⟩
    have key : ∀ u, W + u < m * 2 ^ K → z * 2 ^ K + r ≠ (addrP F K p ((W + u : Nat))).toNat := fun u hu e => by
      obtain ⟨z', r', e2, h2, _, h3, _⟩ := addr_in hv hp ho hl hu
      have e3 : z * 2 ^ K + r = z' * 2 ^ K + r' := by omega
      obtain ⟨rfl, _⟩ := parts_uniq hr h2 e3
      exact hz h3
    refine iniW_other (by have := key 0 (by omega); exact this) _ fun u h1 h2 => ?_
    rw [(addr_stp hv hp ho hl (P := W) (Q := u) (by omega)).2]
    exact key u (by omega)
end

end Go.Proofs.Ytjkbjbikofindaa

namespace Go.Proofs.Ytjkbjbikofindaa
open Go.RowKit
set_option maxRecDepth 100000
set_option linter.unusedVariables false

/-- A deck at block dk: a list of numbers from blocks below it, and a place in it. -/
def DeckP (w : World) (dk : Nat) : Prop := ∃ (A : Option Addr) (n c p : Nat), Blk w dk 63 #[.slice A n c, .int .i64 p] ∧ p ≤ n ∧ n ≤ c ∧ c ≤ maxLen ∧
  ∀ j, j < n → ∃ b o v, A = some ⟨b, o, none⟩ ∧ b < dk ∧ w.cell? ⟨b, o + j, none⟩ = some (.int .i64 v) ∧ -9223372036854775808 ≤ v ∧ v ≤ 9223372036854775807

theorem DeckP.lt {w : World} {dk : Nat} (h : DeckP w dk) : dk < w.heap.size := by
  obtain ⟨A, n, c, p, hb, _⟩ := h
  exact hb.lt

theorem DeckP.next {w w' : World} {dk : Nat} (h : DeckP w dk) (hb : Below w.heap.size w w') : DeckP w' dk := by
  have hl := h.lt
  obtain ⟨A, n, c, p, h1, h2, h3, h4, h5⟩ := h
  refine ⟨A, n, c, p, h1.next hb, h2, h3, h4, fun j hj => ?_⟩
  obtain ⟨b, o, v, e, hlt, hc, hv⟩ := h5 j hj
  exact ⟨b, o, v, e, hlt, by rw [hb.cell (by show b < _; omega)]; exact hc, hv⟩

def NextOf (w : World) (dk : Nat) (n : Int) (e : Ending) (w' : World) : Prop := ∃ v : Int, e = .returned (.int .i64 v) ∧ 0 ≤ v ∧ v < n ∧ DeckP w' dk ∧ w.grownBy w' (some dk)

theorem next_any (dk : Nat) (n : Int) (w : World) (hn : 1 ≤ n) (hn' : n ≤ 9223372036854775807) (hd : DeckP w dk) :
    Calls Try.prog 21 #[.pointer (some ⟨dk, 0, none⟩), .int .i64 n] w (NextOf w dk n) := by
  have hd0 := hd
  obtain ⟨A, m, c, p, hb, hp0, hmc, hcm, hl⟩ := hd
  have q0 := hb.cell 0
  have q1 := hb.cell 1
  have z1 := hb.frozen 1
  have hmx : maxLen = 9223372036854775807 := by decide
  simp at q0 q1
  by_cases hp : m ≤ p
  · go_enter Try.func21, Try.ntmps21
    go_wp2_with fail
    go_quiet (fail)
    go_wp2_with fail
    go_ret
    exact ⟨0, rfl, by omega, by omega, hd0, turn_below (below_drewN (Below.refl _ w) nq)⟩
  · have hp' : p < m := by omega
    obtain ⟨b, o, v, e, hlt, hc, hv0, hv1⟩ := hl p hp'
    subst e
    have hdl := hb.lt
    go_enter Try.func21, Try.ntmps21
    go_wp2_with fail
    go_quiet (fail)
    have s1 : IntKind.i64.wrap ((p : Int) + 1) = (p : Int) + 1 := IntWalk.i64_in _ (by omega)
    go_wp2_with fail
    obtain ⟨V, hV⟩ : ∃ V, V = (w.drewN nq).setCell ⟨dk, 1, none⟩ (.int .i64 ((p : Int) + 1)) := ⟨_, rfl⟩
    have hbd : Blk (w.drewN nq) dk 63 #[.slice (some ⟨b, o, none⟩) m c, .int .i64 p] := hb
    have BX : Blk V dk 63 #[.slice (some ⟨b, o, none⟩) m c, .int .i64 ((p : Int) + 1)] := by rw [hV]; exact hbd.set_ 1 _
    have hBV : w.grownBy V (some dk) := by rw [hV]; exact turn_set (turn_below (below_drewN (Below.refl _ w) nq)) 1 _
    have HC : V.cell? ⟨b, o + p, none⟩ = some (.int .i64 v) := by rw [hV, World.cell?_setCell_other _ _ _ _ (by intro e; injection e; omega)]; exact hc
    rw [← hV]
    clear q0 q1 z1 hb hbd hc
    have HV := Lib.hid hV
    clear hV
    have q0 := BX.cell 0
    have q1 := BX.cell 1
    simp at q0 q1
    have s2 : IntKind.i64.wrap ((p : Int) + 1 - 1) = (p : Int) := by rw [IntWalk.i64_in _ (by omega)]; omega
    have md := fun W => (mod_any v n hn hn' hv0 hv1 W)
    go_quiet ((go_at_call 11; exact Calls.quiet_of_same ((md _).mono fun _ _ h => ⟨h.1, h.2.symm⟩)))
    go_wp2_with fail
    go_ret
    refine ⟨v % n, rfl, Int.emod_nonneg _ (by omega), Int.emod_lt_of_pos _ (by omega), ?_, turn_next hBV (below_drewN (Below.refl _ V) nq)⟩
    have hk : ∀ b' o', b' < dk → V.cell? ⟨b', o', none⟩ = w.cell? ⟨b', o', none⟩ := by
      intro b' o' h'
      rw [HV.out, World.cell?_setCell_other _ _ _ _ (by intro e; injection e; omega)]
      rfl
    refine ⟨some ⟨b, o, none⟩, m, c, p + 1, BX, hp', hmc, hcm, fun j hj => ?_⟩
    obtain ⟨b1, o1, v1, e1, l1, c1, r1⟩ := hl j hj
    exact ⟨b1, o1, v1, e1, l1, (hk b1 _ l1).trans c1, r1⟩

/-- A list of numbers in blocks below B. -/
def ListP (w : World) (B : Nat) (A : Option Addr) (n c : Nat) : Prop := n ≤ c ∧ c ≤ maxLen ∧ ∀ j, j < n → ∃ b o v, A = some ⟨b, o, none⟩ ∧ b < B ∧ w.cell? ⟨b, o + j, none⟩ = some (.int .i64 v) ∧ -9223372036854775808 ≤ v ∧ v ≤ 9223372036854775807

def DeckOf (w : World) (e : Ending) (w' : World) : Prop := e = .returned (.pointer (some ⟨w.heap.size, 0, none⟩)) ∧ DeckP w' w.heap.size ∧ Below w.heap.size w w' ∧ w'.heap.size = w.heap.size + 1

theorem deck_any (A : Option Addr) (n c : Nat) (w : World) (h : ListP w w.heap.size A n c) :
    Calls Try.prog 8 #[.slice A n c] w (DeckOf w) := by
  go_enter Try.func8, Try.ntmps8
  go_wp2_with fail
  go_ret
  obtain ⟨h1, h2, h3⟩ := h
  have hb : Below w.heap.size w (w.alloc (.cells #[.slice A n c, .int .i64 0] 63)) := (Below.refl _ w).alloc (Nat.le_refl _) _
  refine ⟨rfl, ⟨A, n, c, 0, Blk.new _ _ _, Nat.zero_le _, h1, h2, fun j hj => ?_⟩, hb, by simp⟩
  obtain ⟨b, o, v, e, hl, hc, hv⟩ := h3 j hj
  exact ⟨b, o, v, e, hl, by rw [hb.cell hl]; exact hc, hv⟩

end Go.Proofs.Ytjkbjbikofindaa

namespace Go.Proofs.Ytjkbjbikofindaa
open Go.RowKit
set_option maxRecDepth 100000
set_option linter.unusedVariables false

/-- A valid space whose owners are at most 50, and whose words fit into 64 bits. -/
def ValidO (k : Int) (nw : Nat) (wd : Nat → Int) (n : Nat) (F : Nat → Fr) : Prop := ValidP k nw wd n F ∧ (∀ j, (F j).ow ≤ 50) ∧ U64w nw wd
/-- An increment that is well: its frames are a chain, all frames of its owner, as many as its words need. -/
def IncP (F : Nat → Fr) (n k : Nat) (sq bt fi la wo : Int) : Prop :=
  0 ≤ sq ∧ sq ≤ 50 ∧ 0 ≤ bt ∧ bt ≤ 2 ∧ ∃ W : Nat, wo = W ∧ ChainP F n fi la (ceilV W k) sq (bt * 4294967296 + sq) ∧ cntO F sq n = ceilV W k
/-- Frames of other owners stay; no owner comes in but sq. -/
def KeepsO (F F' : Nat → Fr) (sq : Int) : Prop := (∀ j, (F j).ow ≠ -1 → (F j).ow ≠ sq → F' j = F j) ∧ ∀ j, (F' j).ow = (F j).ow ∨ (F' j).ow = sq
theorem KeepsO.refl (F : Nat → Fr) (sq : Int) : KeepsO F F sq := ⟨fun _ _ _ => rfl, fun _ => .inl rfl⟩
theorem KeepsO.iff {F F' : Nat → Fr} {sq o : Int} (h : KeepsO F F' sq) (ho : o ≠ -1) (hs : o ≠ sq) (j : Nat) : (F' j).ow = o ↔ (F j).ow = o := by
  constructor
  · intro e
    rcases h.2 j with h1 | h1
    · rw [← h1]; exact e
    · exact absurd (e.symm.trans h1) hs
  · intro e
    rw [h.1 j (by rw [e]; exact ho) (by rw [e]; exact hs)]; exact e
theorem cntO_congr {F F' : Nat → Fr} {o : Int} (h : ∀ j, (F' j).ow = o ↔ (F j).ow = o) : ∀ t, cntO F' o t = cntO F o t
  | 0 => rfl
  | t + 1 => by
    simp only [cntO, cntO_congr h t]
    by_cases e : (F t).ow = o
    · rw [if_pos e, if_pos ((h t).2 e)]
    · rw [if_neg e, if_neg (fun x => e ((h t).1 x))]
theorem iter_keeps {F F' : Nat → Fr} {n : Nat} {sq o s first last : Int} {m : Nat} (hk : KeepsO F F' sq) (hf : FV F n) (hs : stB s o = true) (ho : o ≠ -1) (hq : o ≠ sq) (h : ChainP F n first last m o s) : ∀ i, i < m → iter F' i first = iter F i first
  | 0, _ => rfl
  | i + 1, hi => by
    obtain ⟨q, h1, _, h3, _⟩ := h.at_ hf hs (show i < m by omega)
    rw [iter_succ, iter_succ, iter_keeps hk hf hs ho hq h i (by omega), h1]
    rw [if_neg (by omega), if_neg (by omega), Int.toNat_natCast, hk.1 q (by rw [h3]; exact ho) (by rw [h3]; exact hq)]
theorem IncP.other {F F' : Nat → Fr} {n k : Nat} {sq o bt fi la wo : Int} (h : IncP F n k o bt fi la wo) (hk : KeepsO F F' sq) (hf : FV F n) (hq : o ≠ sq) : IncP F' n k o bt fi la wo := by
  obtain ⟨h1, h2, h3, h4, W, rfl, hc, hn⟩ := h
  have ho : o ≠ -1 := by omega
  have hs : stB (bt * 4294967296 + o) o = true := by
    refine (stB_of ⟨h1, by omega, ?_⟩).symm
    omega
  refine ⟨h1, h2, h3, h4, W, rfl, ?_, by rw [cntO_congr (fun j => hk.iff ho hq j)]; exact hn⟩
  rcases hc with hc | ⟨hm, p, l, rfl, hp, rfl, hl, hi, hx, hpo, hps⟩
  · exact .inl hc
  · have hc' : ChainP F n p l (ceilV W k) o (bt * 4294967296 + o) := .inr ⟨hm, p, l, rfl, hp, rfl, hl, hi, hx, hpo, hps⟩
    have e1 := iter_keeps hk hf hs ho hq hc' (ceilV W k - 1) (by omega)
    obtain ⟨q, a1, _, a3, _⟩ := hc'.at_ hf hs (show ceilV W k - 1 < ceilV W k by omega)
    have hlq : l = q := by omega
    have e2 : F' l = F l := hk.1 l (by rw [hlq, a3]; exact ho) (by rw [hlq, a3]; exact hq)
    have e3 : F' p = F p := hk.1 p (by rw [hpo]; exact ho) (by rw [hpo]; exact hq)
    exact .inr ⟨hm, p, l, rfl, hp, rfl, hl, by rw [e1]; exact hi, by rw [e2]; exact hx, by rw [e3]; exact hpo, by rw [e3]; exact hps⟩
section
variable {k nw n : Nat} {wd : Nat → Int} {F F5 : Nat → Fr} {fi first last sq st : Int} {m W r d : Nat}
/-- The places of a chain stay where its frames do. -/
theorem addr_stay {p : Int} (h : ∀ i, i < m → iter F5 i p = iter F i p) (hW : W ≤ m * 2 ^ k) : ∀ q, q < W → addrP F5 k p q = addrP F k p q := fun q hq => by
  unfold addrP
  rw [h (q / 2 ^ k) (Nat.div_lt_of_lt_mul (by rw [Nat.mul_comm]; omega))]
/-- The objects of an increment in which Alloc and Init have made one more. -/
theorem run_own (hv : ValidP k nw wd n F5) (hc : ChainP F5 n first last m sq st) (hs : stB st sq = true) (hr : r ≤ 15) (hd : d ≤ 32) (hW : W + (1 + r + d) ≤ m * 2 ^ k) (hit : 0 < W → first = fi ∧ ∀ i, i < ceilV W k → iter F5 i first = iter F i first) {j : Nat} (hh : Hds k wd F fi j) (hp : posN k wd F fi j = W) :
    Hds k (iniW k nw wd n F5 (addrP F5 k first W) (Hd.liveV r d) (r + d)) F5 first (j + 1) ∧ posN k (iniW k nw wd n F5 (addrP F5 k first W) (Hd.liveV r d) (r + d)) F5 first (j + 1) = W + (1 + r + d) ∧
      lstN k (iniW k nw wd n F5 (addrP F5 k first W) (Hd.liveV r d) (r + d)) F5 first (j + 1) = lstN k wd F fi j ++ [(addrP F5 k first W).toNat] := by
  have hm0 : 0 < m := by
    rcases Nat.eq_zero_or_pos m with e | e
    · subst e; omega
    · exact e
  have hso := (stB_yes hs).1
  obtain ⟨p, rfl, hpn, hpo, hl⟩ := hc.len hv.fv hs hm0
  obtain ⟨wd', hwd, h1, h2, h3, h4, h5, _⟩ := ini_place hv hpn (by omega) hl hW hr hd
  rw [← hwd]
  have hst : Hds k wd' F5 p j ∧ posN k wd' F5 p j = W ∧ lstN k wd' F5 p j = lstN k wd F fi j := by
    rcases Nat.eq_zero_or_pos W with e | hW0
    · obtain rfl : j = 0 := by have := posN_ge (K := k) (wd := wd) (F := F) (p := fi) j; omega
      exact ⟨fun i hi => absurd hi (by omega), e.symm, rfl⟩
    · obtain ⟨e1, e2⟩ := hit hW0
      subst e1
      have hS : Stay k wd wd' F F5 p W := fun q hq => ⟨addr_stay e2 (ceilV_cover W k) q hq, by rw [← addr_stay e2 (ceilV_cover W k) q hq]; exact h1 q hq⟩
      exact ⟨hh.keep hS (by omega), (posN_keep hS j (by omega)).trans hp, lstN_keep hS (by omega)⟩
  obtain ⟨a1, a2⟩ := hst.1.snoc hst.2.1 (r := r) (d := d) (by omega) (by omega) h2 h3 h4 h5
  refine ⟨a1, by omega, ?_⟩
  rw [lstN_succ, hst.2.2]
  unfold adrN
  rw [hst.2.1]
/-- The words of the other increments. -/
theorem run_other {o bt la wo : Int} (hvF : ValidP k nw wd n F) (hv : ValidP k nw wd n F5) (hc : ChainP F5 n first last m sq st) (hs : stB st sq = true) (hr : r ≤ 15) (hd : d ≤ 32) (hW : W + (1 + r + d) ≤ m * 2 ^ k) (hk : KeepsO F F5 sq) (hi : IncP F n k o bt fi la wo) (ho : o ≠ sq) {W2 : Nat} (hw : wo = W2) :
    Stay k wd (iniW k nw wd n F5 (addrP F5 k first W) (Hd.liveV r d) (r + d)) F F5 fi W2 := by
  have hm0 : 0 < m := by
    rcases Nat.eq_zero_or_pos m with e | e
    · subst e; omega
    · exact e
  have hso := (stB_yes hs).1
  obtain ⟨p, rfl, hpn, hpo, hl⟩ := hc.len hv.fv hs hm0
  obtain ⟨wd', hwd, _, _, _, _, _, h6⟩ := ini_place hv hpn (by omega) hl hW hr hd
  rw [← hwd]
  obtain ⟨i1, i2, i3, i4, W3, e, hc2, _⟩ := hi
  obtain rfl : W3 = W2 := by omega
  intro q hq
  have hcv := ceilV_cover W3 k
  have hm2 : 0 < ceilV W3 k := by
    rcases Nat.eq_zero_or_pos (ceilV W3 k) with e | e
    · rw [e] at hcv; omega
    · exact e
  have hs2 : stB (bt * 4294967296 + o) o = true := (stB_of ⟨i1, by omega, by omega⟩).symm
  have e1 := addr_stay (iter_keeps hk hvF.fv hs2 (by omega) ho hc2) hcv q hq
  obtain ⟨p2, rfl, hp2, ho2, hl2⟩ := hc2.len hvF.fv hs2 hm2
  refine ⟨e1, ?_⟩
  obtain ⟨z, rr, e2, hrr, hz, hoz, _⟩ := addr_in hvF hp2 (by omega) hl2 (show q < ceilV W3 k * 2 ^ k by omega)
  rw [e2, Int.toNat_natCast]
  refine h6 z rr hrr ?_
  rw [hk.1 z (by rw [hoz, ho2]; omega) (by rw [hoz, ho2]; exact ho), hoz, ho2, hpo]
  exact ho
end
def GrownOf (dk B k nw n : Nat) (wd0 : Nat → Int) (F0 : Nat → Fr) (s0 b0 f0 o0 : Int) (w : World) (e : Ending) (w' : World) : Prop :=
  ∃ (A : Option Addr) (c g c' : Nat) (wd : Nat → Int) (F : Nat → Fr) (i0 i1 i2 i3 i4 : Int), e = .returned (.tuple #[.agg #[.int .i64 k, .slice A nw c, .slice (some ⟨g, 0, none⟩) n c'], .agg #[.int .i64 i0, .int .i64 i1, .int .i64 i2, .int .i64 i3, .int .i64 i4]]) ∧
    Own w' B A nw c wd ∧ OwnT w' B (some ⟨g, 0, none⟩) n c' F ∧ ValidO k nw wd n F ∧ DeckP w' dk ∧ w.grownBy w' (some dk) ∧ i0 = s0 ∧ i1 = b0 ∧ IncP F n k i0 i1 i2 i3 i4 ∧ KeepsO F0 F s0 ∧ (FullR k wd0 F0 f0 o0 → FullR k wd F i2 i4) ∧ ∀ o bt fi la wo : Int, o ≠ s0 → IncP F0 n k o bt fi la wo → FullR k wd0 F0 fi wo → FullR k wd F fi wo

theorem Own.turnB {a w : World} {g base n c : Nat} {A : Option Addr} {f : Nat → Int} (h : Own a base A n c f) (hg : a.grownBy w (some g)) (hb : g < base) : Own w base A n c f :=
  h.keep fun x hx hl => hg.block x hl (by intro e; injection e; omega)
theorem OwnT.turnB {a w : World} {g base n c : Nat} {A : Option Addr} {F : Nat → Fr} (h : OwnT a base A n c F) (hg : a.grownBy w (some g)) (hb : g < base) : OwnT w base A n c F :=
  h.keep fun x hx hl => hg.block x hl (by intro e; injection e; omega)

theorem DeckP.far {w : World} {dk : Nat} (h : DeckP w dk) {p : Addr} (hp : dk < p.block) (u : Value) : DeckP (w.setCell p u) dk := by
  obtain ⟨A, n, c, q, h1, h2, h3, h4, h5⟩ := h
  refine ⟨A, n, c, q, h1.far (by omega) u, h2, h3, h4, fun j hj => ?_⟩
  obtain ⟨b, o, v, e, hlt, hc, hv⟩ := h5 j hj
  refine ⟨b, o, v, e, hlt, ?_, hv⟩
  rw [World.cell?_setCell_other _ _ _ _ (by rintro rfl; simp at hp; omega)]
  exact hc

theorem DeckP.put8 {w : World} {dk x y : Nat} (h : DeckP w dk) (hx : dk < x) (hy : dk < y) (v0 v1 v2 u0 u1 u2 u3 u4 : Value) :
    DeckP ((((((((w.setCell ⟨x, 0, none⟩ v0).setCell ⟨x, 1, none⟩ v1).setCell ⟨x, 2, none⟩ v2).setCell ⟨y, 0, none⟩ u0).setCell ⟨y, 1, none⟩ u1).setCell ⟨y, 2, none⟩ u2).setCell ⟨y, 3, none⟩ u3).setCell ⟨y, 4, none⟩ u4) dk :=
  (((((((h.far hx v0).far hx v1).far hx v2).far hy u0).far hy u1).far hy u2).far hy u3).far hy u4

theorem turn_put8 {a w : World} {g x y : Nat} (h : a.grownBy w (some g)) (hx : a.heap.size ≤ x) (hy : a.heap.size ≤ y) (v0 v1 v2 u0 u1 u2 u3 u4 : Value) :
    a.grownBy ((((((((w.setCell ⟨x, 0, none⟩ v0).setCell ⟨x, 1, none⟩ v1).setCell ⟨x, 2, none⟩ v2).setCell ⟨y, 0, none⟩ u0).setCell ⟨y, 1, none⟩ u1).setCell ⟨y, 2, none⟩ u2).setCell ⟨y, 3, none⟩ u3).setCell ⟨y, 4, none⟩ u4) (some g) :=
  turn_new (turn_new (turn_new (turn_new (turn_new (turn_new (turn_new (turn_new h _ hx v0) _ hx v1) _ hx v2) _ hy u0) _ hy u1) _ hy u2) _ hy u3) _ hy u4

theorem turn_drew {a w : World} {r : Option Nat} (h : a.grownBy w r) : a.grownBy w.drew r := turn_next h (Below.refl _ w).drew
theorem DeckP.drew {w : World} {dk : Nat} (h : DeckP w dk) : DeckP w.drew dk := h

/-- What stays while the deck alone turns. -/
structure GS (w V : World) (dk B b k nw n c g c' : Nat) (A : Option Addr) (wd : Nat → Int) (F : Nat → Fr) (i0 i1 i2 i3 i4 : Int) : Prop where
  x0 : Blk V b 25 #[.int .i64 k, .slice A nw c, .slice (some ⟨g, 0, none⟩) n c']
  x1 : Blk V (b + 1) 51 #[.int .i64 i0, .int .i64 i1, .int .i64 i2, .int .i64 i3, .int .i64 i4]
  x2 : Blk V (b + 1 + 1) 25 #[.int .i64 0, .slice none 0 0, .slice none 0 0]
  x3 : Blk V (b + 1 + 1 + 1) 51 #[.int .i64 0, .int .i64 0, .int .i64 0, .int .i64 0, .int .i64 0]
  own : Own V B A nw c wd
  ownT : OwnT V B (some ⟨g, 0, none⟩) n c' F
  deck : DeckP V dk
  lt : dk < B
  le : B ≤ b
  turned : w.grownBy V (some dk)
  size : b ≤ w.heap.size

theorem GS.turn {w V V' : World} {dk B b k nw n c g c' : Nat} {A : Option Addr} {wd : Nat → Int} {F : Nat → Fr} {i0 i1 i2 i3 i4 : Int} (h : GS w V dk B b k nw n c g c' A wd F i0 i1 i2 i3 i4) (hD : DeckP V' dk) (hG : V.grownBy V' (some dk)) :
    GS w V' dk B b k nw n c g c' A wd F i0 i1 i2 i3 i4 := by
  obtain ⟨x0, x1, x2, x3, o, t, d, l, le, g0, sz⟩ := h
  exact ⟨x0.turn hG (by omega), x1.turn hG (by omega), x2.turn hG (by omega), x3.turn hG (by omega), o.turnB hG l, t.turnB hG l, hD, l, le, turn_trans g0 hG, sz⟩

set_option maxHeartbeats 1000000 in
theorem grown_any (dk B k nw n c g c' : Nat) (A : Option Addr) (wd : Nat → Int) (F : Nat → Fr) (i0 i1 i2 i3 i4 : Int) (w : World) (hB : dk < B) (hBw : B ≤ w.heap.size) (hd : DeckP w dk)
    (hA : Own w B A nw c wd) (hT : OwnT w B (some ⟨g, 0, none⟩) n c' F) (hv : ValidO k nw wd n F) (hin : IncP F n k i0 i1 i2 i3 i4) :
    Calls Try.prog 22 #[.pointer (some ⟨dk, 0, none⟩), .agg #[.int .i64 k, .slice A nw c, .slice (some ⟨g, 0, none⟩) n c'], .agg #[.int .i64 i0, .int .i64 i1, .int .i64 i2, .int .i64 i3, .int .i64 i4]] w (GrownOf dk B k nw n wd F i0 i1 i2 i4 w) := by
  have HD := Lib.hid hd
  have HA := Lib.hid hA
  have HT := Lib.hid hT
  have HV := Lib.hid hv
  have HINC := Lib.hid hin
  clear hd hA hT hv
  go_enter Try.func22, Try.ntmps22
  go_wp2_with fail
  obtain ⟨V, hV⟩ : ∃ V, V = ((((w.alloc (.cells #[.int .i64 k, .slice A nw c, .slice (some ⟨g, 0, none⟩) n c'] 25)).alloc (.cells #[.int .i64 i0, .int .i64 i1, .int .i64 i2, .int .i64 i3, .int .i64 i4] 51)).alloc
    (.cells #[.int .i64 0, .slice none 0 0, .slice none 0 0] 25)).alloc (.cells #[.int .i64 0, .int .i64 0, .int .i64 0, .int .i64 0, .int .i64 0] 51)) := ⟨_, rfl⟩
  rw [← hV]
  have hBel : Below w.heap.size w V := by rw [hV]; exact ((((Below.refl _ w).alloc (Nat.le_refl _) _).alloc (by simp) _).alloc (by simp; omega) _).alloc (by simp; omega) _
  have S : GS w V dk B w.heap.size k nw n c g c' A wd F i0 i1 i2 i3 i4 := by
    refine ⟨?_, ?_, ?_, ?_, HA.out.below hBel, HT.out.below hBel, HD.out.next hBel, hB, hBw, turn_below hBel, Nat.le_refl _⟩
    · rw [hV]; exact (((Blk.newAt _ _ _ _ rfl).alloc _).alloc _).alloc _
    · rw [hV]; exact ((Blk.newAt _ _ _ _ (by simp)).alloc _).alloc _
    · rw [hV]; exact (Blk.newAt _ _ _ _ (by simp)).alloc _
    · rw [hV]; exact Blk.newAt _ _ _ _ (by simp)
  have HS := Lib.hid S
  clear S hV hBel HD
  refine (next_any dk 4 V (by omega) (by omega) HS.out.deck).mono ?_
  rintro e V1 ⟨v1, rfl, hv0, hv1, hD, hG⟩
  have HS1 := Lib.hid (HS.out.turn hD hG)
  clear HS hD hG
  go_wp2_with fail
  obtain ⟨V2, hV2⟩ : ∃ V2, V2 = V1.alloc (.cells #[.int .i64 3, .int .i64 3, .int .i64 9, .int .i64 33] 3) := ⟨_, rfl⟩
  obtain ⟨q, hq⟩ : ∃ q, q = V1.heap.size := ⟨_, rfl⟩
  have hb2 : Below V1.heap.size V1 V2 := by rw [hV2]; exact (Below.refl _ V1).alloc (Nat.le_refl _) _
  have HQ := Lib.hid (show Blk V2 q 3 #[.int .i64 3, .int .i64 3, .int .i64 9, .int .i64 33] by rw [hV2, hq]; exact Blk.new _ _ _)
  have HS2 := Lib.hid (HS1.out.turn (HS1.out.deck.next hb2) (turn_below hb2))
  have HN := Lib.hid (show q ≠ dk by have := HS1.out.deck.lt; omega)
  rw [← hV2]
  refine (next_any dk 4 V2 (by omega) (by omega) HS2.out.deck).mono ?_
  rintro e V3 ⟨v2, rfl, hx0, hx1, hD, hG⟩
  have HS3 := Lib.hid (HS2.out.turn hD hG)
  have HQ3 := Lib.hid (HQ.out.turn hG HN.out)
  clear HS1 HS2 HQ hD hG hb2 hV2
  have HQE := Lib.hid hq
  clear hq
  obtain ⟨x, e, hx⟩ : ∃ x : Nat, v2 = x ∧ x < 4 := ⟨v2.toNat, by omega, by omega⟩
  subst e
  obtain ⟨y, hy, y0, y1⟩ : ∃ y : Int, V3.cell? ⟨q, 0 + x, none⟩ = some (.int .i64 y) ∧ 1 ≤ y ∧ y ≤ 33 := by
    rw [Nat.zero_add]
    rcases (by omega : x = 0 ∨ x = 1 ∨ x = 2 ∨ x = 3) with r | r | r | r <;> subst r
    · exact ⟨3, HQ3.out.cell 0, by omega, by omega⟩
    · exact ⟨3, HQ3.out.cell 1, by omega, by omega⟩
    · exact ⟨9, HQ3.out.cell 2, by omega, by omega⟩
    · exact ⟨33, HQ3.out.cell 3, by omega, by omega⟩
  rw [Nat.zero_add, HQE.out] at hy
  go_wp2_with fail
  refine (next_any dk y V3 (by omega) (by omega) HS3.out.deck).mono ?_
  rintro e V4 ⟨v4, rfl, hz0, hz1, hD, hG⟩
  have HS4 := Lib.hid (HS3.out.turn hD hG)
  clear HS3 HQ3 hD hG hy HQE HN
  obtain ⟨r, e, hr⟩ : ∃ r : Nat, v1 = r ∧ r ≤ 3 := ⟨v1.toNat, by omega, by omega⟩
  subst e
  obtain ⟨d, e, hd⟩ : ∃ d : Nat, v4 = d ∧ d ≤ 32 := ⟨v4.toNat, by omega, by omega⟩
  subst e
  clear hv0 hv1 hx0 hx1 hz0 hz1 hx
  have q0 := HS4.out.x0.cell 0
  have q1 := HS4.out.x0.cell 1
  have q2 := HS4.out.x0.cell 2
  have r0 := HS4.out.x1.cell 0
  have r1 := HS4.out.x1.cell 1
  have r2 := HS4.out.x1.cell 2
  have r3 := HS4.out.x1.cell 3
  have r4 := HS4.out.x1.cell 4
  simp at q0 q1 q2 r0 r1 r2 r3 r4
  have s1 : IntKind.i64.wrap (1 + (r : Int)) = 1 + r := IntWalk.i64_in _ (by omega)
  have s2 : IntKind.i64.wrap (1 + (r : Int) + d) = 1 + r + d := IntWalk.i64_in _ (by omega)
  go_wp2_with fail
  clear q0 q1 q2 r0 r1 r2 r3 r4 s1 s2
  rw [show (1 + (r : Int) + d) = ((1 + r + d : Nat) : Int) by omega]
  refine (alloc_any k A (some ⟨g, 0, none⟩) nw c n c' wd F i0 i1 i2 i3 i4 (1 + r + d) V4 HS4.out.own.arr HS4.out.ownT.tab HV.out.1 (by omega)).mono ?_
  rintro e V5 ⟨v0, v1, v2, j0, j1, j2, j3, j4, a, err, rfl, hB5, ⟨k1, A1, n1, c1, A2, n2, c2, rfl, rfl, rfl⟩, hok⟩
  have HOK := Lib.hid hok
  have HB5 := Lib.hid hB5
  clear hok hB5
  have HS5 := Lib.hid (HS4.out.turn (HS4.out.deck.next HB5.out) (turn_below HB5.out))
  have hz4 : B ≤ V4.heap.size := by have := HS4.out.turned.size; omega
  have hz5 : V4.heap.size ≤ V5.heap.size := HB5.out.size
  have hz6 : w.heap.size + 1 + 1 + 1 < V5.heap.size := HS5.out.x3.lt
  have hz7 : w.heap.size + 1 + 1 < V5.heap.size := by omega
  by_cases he : err = 0
  · subst he
    obtain ⟨A5, c5, g5, c5', F5, first, last, sq, st, m, W, e0, e1, e2, hO, hT5, hval, hch, hst, ha, hW, hown, hj0, hj1, hj2, hj3, hj4, hsq, hst', hm', hwo, hkeep, hcnt, hit⟩ := HOK.out rfl
    injection e0 with _ e0
    injection e1 with e1 e1' e1''
    injection e2 with e2 e2' e2''
    subst k1 A5 n1 c5 A2 n2 c5'
    obtain ⟨X, hX⟩ : ∃ X, X = V5.heap.size := ⟨_, rfl⟩
    obtain ⟨V6, hV6⟩ : ∃ V6, V6 = ((V5.alloc (.cells #[.int .i64 k, .slice A1 nw c1, .slice (some ⟨g5, 0, none⟩) n c2] 25)).alloc (.cells #[.int .i64 j0, .int .i64 j1, .int .i64 j2, .int .i64 j3, .int .i64 j4] 51)) := ⟨_, rfl⟩
    have hb6 : Below V5.heap.size V5 V6 := by rw [hV6]; exact ((Below.refl _ _).alloc (Nat.le_refl _) _).alloc (by simp) _
    have HS6 := Lib.hid (HS5.out.turn (HS5.out.deck.next hb6) (turn_below hb6))
    have hz8 : V5.heap.size + 1 < V6.heap.size := by rw [hV6]; simp
    have hz9 : V5.heap.size < V6.heap.size := by omega
    have HX0 := Lib.hid (show Blk V6 V5.heap.size 25 #[.int .i64 k, .slice A1 nw c1, .slice (some ⟨g5, 0, none⟩) n c2] by rw [hV6]; exact (Blk.new _ _ _).alloc _)
    have HX1 := Lib.hid (show Blk V6 (V5.heap.size + 1) 51 #[.int .i64 j0, .int .i64 j1, .int .i64 j2, .int .i64 j3, .int .i64 j4] by rw [hV6]; exact Blk.newAt _ _ _ _ (by simp))
    have HO := Lib.hid (hO.below hb6)
    have HT5 := Lib.hid (hT5.below hb6)
    have HVAL := Lib.hid hval
    have HOWN := Lib.hid (show ∀ j, (F5 j).ow ≤ 50 from fun j => by rcases hown j with h | h <;> rw [h]; exact HV.out.2.1 j; exact hin.2.1)
    have HJ0 := Lib.hid hj0
    have HJ1 := Lib.hid hj1
    have HK5 := Lib.hid (show KeepsO F F5 i0 from ⟨hkeep, hown⟩)
    have HRUN := Lib.hid (show ∀ wd7, wd7 = iniW k nw wd n F5 (addrP F5 k first W) (Hd.liveV r d) (r + d) → (FullR k wd F i2 i4 → FullR k wd7 F5 j2 j4) ∧ ∀ o bt fi la wo : Int, o ≠ i0 → IncP F n k o bt fi la wo → FullR k wd F fi wo → FullR k wd7 F5 fi wo from fun wd7 e7 => by
      rw [e7]
      refine ⟨fun ⟨j, hh, hp⟩ => ?_, fun o bt fi la wo ho hi hf => ?_⟩
      · obtain ⟨b1, b2, _⟩ := run_own (fi := i2) hval hch hst (by omega) hd hW hit hh (by omega)
        rw [hj2, hj4]
        exact ⟨j + 1, b1, by omega⟩
      · have hi' := hi
        obtain ⟨_, _, _, _, W2, hw2, _⟩ := hi'
        have hs := run_other (fi := fi) HV.out.1 hval hch hst (show r ≤ 15 by omega) hd hW (by rw [hsq]; exact ⟨hkeep, hown⟩) hi (by rw [hsq]; exact ho) hw2
        rw [hw2] at hf ⊢
        exact hf.keep hs)
    have HIN := Lib.hid (show IncP F5 n k j0 j1 j2 j3 j4 by
      obtain ⟨x1, x2, x3, x4, W', x5, _, x7⟩ := hin
      obtain rfl : W' = W := by omega
      subst hsq hst' hm' hj0 hj1 hj2 hj3
      exact ⟨x1, x2, x3, x4, _, hj4, hch, by omega⟩)
    have HCH := Lib.hid hch
    have HST := Lib.hid hst
    have HA5 := Lib.hid ha
    have HW := Lib.hid hW
    have HV6 := Lib.hid hV6
    have HXX := Lib.hid hX
    clear hX hb6 HS5 HS4 HB5 HOK hO hT5 hval hch hst ha hW hown hj0 hj1 hj2 hj3 hj4 hsq hst' hm' hwo hkeep hcnt hit
    go_wp2_with fail
    rw [← hV6]
    clear hV6
    have q0 := HX0.out.cell 0
    have q1 := HX0.out.cell 1
    have q2 := HX0.out.cell 2
    simp at q0 q1 q2
    go_wp2_with fail
    rw [HA5.out]
    refine (init_pos k nw n c1 c2 A1 _ wd F5 first last sq st m W r d V6 HO.out.arr HT5.out.tab HVAL.out HCH.out HST.out (by omega) hd HW.out).mono ?_
    rintro e V7 ⟨A7, c7, g7, c7', wd7, rfl, hO7, hT7, hv7, hB7, hW7⟩
    have HU7 := Lib.hid (show U64w nw wd7 by
      rw [hW7]
      have hl := (Hd.live_in (r := r) (d := d) (by omega)).1
      exact iniW_u64 HV.out.2.2 (by rw [hl]; omega) (by rw [hl]; omega) _)
    have HRUN7 := Lib.hid (HRUN.out wd7 hW7)
    clear hW7 HRUN
    have HS7 := Lib.hid (HS6.out.turn (HS6.out.deck.next hB7) (turn_below hB7))
    have hz10 : V6.heap.size ≤ V7.heap.size := hB7.size
    have HY0 := Lib.hid (HX0.out.next hB7)
    have HY1 := Lib.hid (HX1.out.next hB7)
    have HO7 := Lib.hid hO7
    have HT7 := Lib.hid hT7
    have HV7 := Lib.hid hv7
    clear q0 q1 q2 HX0 HX1 HS6 hB7 hO7 hT7 hv7 HO HT5
    have f0 := HY0.out.frozen 0
    have f1 := HY0.out.frozen 1
    have f2 := HY0.out.frozen 2
    have q0 := HY0.out.cell 0
    have q1 := HY0.out.cell 1
    have q2 := HY0.out.cell 2
    simp at q0 q1 q2
    have za : V5.heap.size < V7.heap.size := by omega
    have hTN : w.grownBy V7 (some dk) := HS7.out.turned
    go_wp2_with fail
    obtain ⟨V8, hV8⟩ : ∃ V8, V8 = (((V7.setCell ⟨V5.heap.size, 0, none⟩ (.int .i64 k)).setCell ⟨V5.heap.size, 1, none⟩ (.slice A7 nw c7)).setCell ⟨V5.heap.size, 2, none⟩ (.slice (some ⟨g7, 0, none⟩) n c7')) := ⟨_, rfl⟩
    rw [← hV8]
    have Z0 : Blk V8 V5.heap.size 25 #[.int .i64 k, .slice A7 nw c7, .slice (some ⟨g7, 0, none⟩) n c7'] := by rw [hV8]; exact ((HY0.out.set_ 0 _).set_ 1 _).set_ 2 _
    have Z1 : Blk V8 (V5.heap.size + 1) 51 #[.int .i64 j0, .int .i64 j1, .int .i64 j2, .int .i64 j3, .int .i64 j4] := by rw [hV8]; exact HY1.out.far3 (by omega) _ _ _
    have Z2 : Blk V8 (w.heap.size + 1 + 1) 25 #[.int .i64 0, .slice none 0 0, .slice none 0 0] := by rw [hV8]; exact HS7.out.x2.far3 (by omega) _ _ _
    have Z3 : Blk V8 (w.heap.size + 1 + 1 + 1) 51 #[.int .i64 0, .int .i64 0, .int .i64 0, .int .i64 0, .int .i64 0] := by rw [hV8]; exact HS7.out.x3.far3 (by omega) _ _ _
    have ZD := Lib.hid (show DeckP V8 dk by rw [hV8]; exact ((HS7.out.deck.far (by show dk < V5.heap.size; omega) _).far (by show dk < V5.heap.size; omega) _).far (by show dk < V5.heap.size; omega) _)
    have ZT := Lib.hid (show w.grownBy V8 (some dk) by rw [hV8]; exact turn_new (turn_new (turn_new hTN _ (by show _ ≤ V5.heap.size; omega) _) _ (by show _ ≤ V5.heap.size; omega) _) _ (by show _ ≤ V5.heap.size; omega) _)
    have ZO := Lib.hid (show Own V8 V6.heap.size A7 nw c7 wd7 by rw [hV8]; exact HO7.out.put3 (by omega) _ _ _)
    have ZT7 := Lib.hid (show OwnT V8 V6.heap.size (some ⟨g7, 0, none⟩) n c7' F5 by rw [hV8]; exact HT7.out.put3 (by omega) _ _ _)
    have z8 : V7.heap.size ≤ V8.heap.size := by rw [hV8]; simp
    clear hV8 hTN f0 f1 f2 q0 q1 q2 HY0 HY1 HO7 HT7 HS7
    have zX0 : V5.heap.size < V8.heap.size := Z0.lt
    have zX1 : V5.heap.size + 1 < V8.heap.size := Z1.lt
    have zX2' : w.heap.size + 1 + 1 < V8.heap.size := Z2.lt
    have zX3' : w.heap.size + 1 + 1 + 1 < V8.heap.size := Z3.lt
    have q0 := Z0.cell 0
    have q1 := Z0.cell 1
    have q2 := Z0.cell 2
    have t0 := Z1.cell 0
    have t1 := Z1.cell 1
    have t2 := Z1.cell 2
    have t3 := Z1.cell 3
    have t4 := Z1.cell 4
    have u0 := Z2.cell 0
    have u1 := Z2.cell 1
    have u2 := Z2.cell 2
    have y0 := Z3.cell 0
    have y1 := Z3.cell 1
    have y2 := Z3.cell 2
    have y3 := Z3.cell 3
    have y4 := Z3.cell 4
    have rf0 := Z2.frozen 0
    have rf1 := Z2.frozen 1
    have rf2 := Z2.frozen 2
    have tf0 := Z3.frozen 0
    have tf1 := Z3.frozen 1
    have tf2 := Z3.frozen 2
    have tf3 := Z3.frozen 3
    have tf4 := Z3.frozen 4
    simp at q0 q1 q2 t0 t1 t2 t3 t4 u0 u1 u2 y0 y1 y2 y3 y4
    clear Z0 Z1 Z2 Z3
    have FIN : ∀ w', Own w' B A7 nw c7 wd7 → OwnT w' B (some ⟨g7, 0, none⟩) n c7' F5 → DeckP w' dk → w.grownBy w' (some dk) →
        GrownOf dk B k nw n wd F i0 i1 i2 i4 w (.returned (.tuple #[.agg #[.int .i64 k, .slice A7 nw c7, .slice (some ⟨g7, 0, none⟩) n c7'], .agg #[.int .i64 j0, .int .i64 j1, .int .i64 j2, .int .i64 j3, .int .i64 j4]])) w' :=
      fun w' a1 a2 a3 a4 => ⟨A7, c7, g7, c7', wd7, F5, _, _, _, _, _, rfl, a1, a2, ⟨HV7.out, HOWN.out, HU7.out⟩, a3, a4, HJ0.out, HJ1.out, HIN.out, HK5.out, HRUN7.out⟩
    have HFIN := Lib.hid FIN
    clear FIN HV HVAL HCH HST HW HA5
    go_wp2
    go_region
    go_wp2
    refine bodyPost_ret (v := .tuple #[.agg #[.int .i64 k, .slice A7 nw c7, .slice (some ⟨g7, 0, none⟩) n c7'], .agg #[.int .i64 j0, .int .i64 j1, .int .i64 j2, .int .i64 j3, .int .i64 j4]]) (by simp [results, Try.results22, go_sem, u0, u1, u2, y0, y1, y2, y3, y4]) rfl ?_
    have G := turn_drew (turn_put8 ZT.out (show w.heap.size ≤ w.heap.size + 1 + 1 by omega) (show w.heap.size ≤ w.heap.size + 1 + 1 + 1 by omega) (.int .i64 k) (.slice A7 nw c7) (.slice (some ⟨g7, 0, none⟩) n c7') (.int .i64 j0) (.int .i64 j1) (.int .i64 j2) (.int .i64 j3) (.int .i64 j4))
    refine HFIN.out _ ?_ ?_ (ZD.out.put8 (by omega) (by omega) _ _ _ _ _ _ _ _).drew G
    · exact ((ZO.out.put8 (by omega) (by omega) _ _ _ _ _ _ _ _).lower (by omega)).drew
    · exact ((ZT7.out.put8 (by omega) (by omega) _ _ _ _ _ _ _ _).lower (by omega)).drew
  · have hb0 : (err == 0) = false := by simpa using he
    have hb1 : (err != 0) = true := by simpa using he
    clear he HOK
    go_wp2_with fail
    obtain ⟨V6, hV6⟩ : ∃ V6, V6 = ((V5.alloc (.cells #[.int .i64 k1, .slice A1 n1 c1, .slice A2 n2 c2] 25)).alloc (.cells #[.int .i64 j0, .int .i64 j1, .int .i64 j2, .int .i64 j3, .int .i64 j4] 51)) := ⟨_, rfl⟩
    have hb6 : Below V5.heap.size V5 V6 := by rw [hV6]; exact ((Below.refl _ _).alloc (Nat.le_refl _) _).alloc (by simp) _
    rw [← hV6]
    have HS6 := Lib.hid (HS5.out.turn (HS5.out.deck.next hb6) (turn_below hb6))
    have hz8 : V5.heap.size ≤ V6.heap.size := hb6.size
    clear hV6 hb6 HS5 HS4 HB5
    have zX2 : w.heap.size + 2 < V6.heap.size := by omega
    have zX2' : w.heap.size + 1 + 1 < V6.heap.size := by omega
    have zX3' : w.heap.size + 1 + 1 + 1 < V6.heap.size := by omega
    have q0 := HS6.out.x0.cell 0
    have q1 := HS6.out.x0.cell 1
    have q2 := HS6.out.x0.cell 2
    have t0 := HS6.out.x1.cell 0
    have t1 := HS6.out.x1.cell 1
    have t2 := HS6.out.x1.cell 2
    have t3 := HS6.out.x1.cell 3
    have t4 := HS6.out.x1.cell 4
    have u0 := HS6.out.x2.cell 0
    have u1 := HS6.out.x2.cell 1
    have u2 := HS6.out.x2.cell 2
    have y0 := HS6.out.x3.cell 0
    have y1 := HS6.out.x3.cell 1
    have y2 := HS6.out.x3.cell 2
    have y3 := HS6.out.x3.cell 3
    have y4 := HS6.out.x3.cell 4
    have rf0 := HS6.out.x2.frozen 0
    have rf1 := HS6.out.x2.frozen 1
    have rf2 := HS6.out.x2.frozen 2
    have tf0 := HS6.out.x3.frozen 0
    have tf1 := HS6.out.x3.frozen 1
    have tf2 := HS6.out.x3.frozen 2
    have tf3 := HS6.out.x3.frozen 3
    have tf4 := HS6.out.x3.frozen 4
    simp at q0 q1 q2 t0 t1 t2 t3 t4 u0 u1 u2 y0 y1 y2 y3 y4
    have FIN : ∀ w', Own w' B A nw c wd → OwnT w' B (some ⟨g, 0, none⟩) n c' F → DeckP w' dk → w.grownBy w' (some dk) →
        GrownOf dk B k nw n wd F i0 i1 i2 i4 w (.returned (.tuple #[.agg #[.int .i64 k, .slice A nw c, .slice (some ⟨g, 0, none⟩) n c'], .agg #[.int .i64 i0, .int .i64 i1, .int .i64 i2, .int .i64 i3, .int .i64 i4]])) w' :=
      fun w' a1 a2 a3 a4 => ⟨A, c, g, c', wd, F, _, _, _, _, _, rfl, a1, a2, HV.out, a3, a4, rfl, rfl, HINC.out, KeepsO.refl _ _, fun h => h, fun _ _ _ _ _ _ _ h => h⟩
    have HFIN := Lib.hid FIN
    clear FIN HV
    go_wp2
    go_region
    go_wp2
    refine bodyPost_ret (v := .tuple #[.agg #[.int .i64 k, .slice A nw c, .slice (some ⟨g, 0, none⟩) n c'], .agg #[.int .i64 i0, .int .i64 i1, .int .i64 i2, .int .i64 i3, .int .i64 i4]]) (by simp [results, Try.results22, go_sem, u0, u1, u2, y0, y1, y2, y3, y4]) rfl ?_
    have G := turn_drew (turn_put8 HS6.out.turned (show w.heap.size ≤ w.heap.size + 1 + 1 by omega) (show w.heap.size ≤ w.heap.size + 1 + 1 + 1 by omega) (.int .i64 k) (.slice A nw c) (.slice (some ⟨g, 0, none⟩) n c') (.int .i64 i0) (.int .i64 i1) (.int .i64 i2) (.int .i64 i3) (.int .i64 i4))
    exact HFIN.out _ (HA.out.turnB G hB) (HT.out.turnB G hB) (HS6.out.deck.put8 (by omega) (by omega) _ _ _ _ _ _ _ _).drew G

end Go.Proofs.Ytjkbjbikofindaa

namespace Go.Proofs.Ytjkbjbikofindaa
open Go.RowKit
set_option maxRecDepth 100000
set_option linter.unusedVariables false

/-- A row stays where a box of another type is written. -/
theorem Own.box {w : World} {base n c b : Nat} {A : Option Addr} {f : Nat → Int} {t : TypeId} {cs : Array Value} (h : Own w base A n c f) (hb : Blk w b t cs) (ht : t ≠ 28) (i : Nat) (u : Value) : Own (w.setCell ⟨b, i, none⟩ u) base A n c f := by
  obtain ⟨h1, h2, h3⟩ := h
  refine ⟨h1, h2, ?_⟩
  rcases h3 with h3 | ⟨g, cur, hA, hg, hh, hs⟩
  · exact .inl h3
  · refine .inr ⟨g, cur, hA, hg, ?_, hs⟩
    have hne : g ≠ b := by
      rintro rfl
      unfold Blk at hb
      rw [hh] at hb
      injection hb with hb
      injection hb with _ hb
      exact ht hb.symm
    exact (Below.heap_setCell w ⟨b, i, none⟩ u g hne).trans hh

theorem OwnT.box {w : World} {base n c b : Nat} {A : Option Addr} {F : Nat → Fr} {t : TypeId} {cs : Array Value} (h : OwnT w base A n c F) (hb : Blk w b t cs) (ht : t ≠ 61) (i : Nat) (u : Value) : OwnT (w.setCell ⟨b, i, none⟩ u) base A n c F := by
  obtain ⟨h1, h2, h3⟩ := h
  refine ⟨h1, h2, ?_⟩
  rcases h3 with h3 | ⟨g, cur, hA, hg, hh, hs⟩
  · exact .inl h3
  · refine .inr ⟨g, cur, hA, hg, ?_, hs⟩
    have hne : g ≠ b := by
      rintro rfl
      unfold Blk at hb
      rw [hh] at hb
      injection hb with hb
      injection hb with _ hb
      exact ht hb.symm
    exact (Below.heap_setCell w ⟨b, i, none⟩ u g hne).trans hh

theorem ownsRow_keep {w w' : World} {B s n : Nat} {e : TypeId} {v : Value} {xs : List Value} (h : w.ownsRow B e s v n xs) (hk : ∀ g, v.ownBlock = some g → B ≤ g → g < w.heap.size → w'.heap[g]? = w.heap[g]?) : w'.ownsRow B e s v n xs := by
  obtain ⟨hl, h⟩ := h
  refine ⟨hl, ?_⟩
  rcases h with h | ⟨g, cap, cur, rfl, hb, hg, h⟩
  · exact .inl h
  · exact .inr ⟨g, cap, cur, rfl, hb, (hk g rfl hb (blk_lt hg)).trans hg, h⟩

/-- An increment, and a list of them as cells. -/
structure IncR where
  sq : Int
  bt : Int
  fi : Int
  la : Int
  wo : Int
def incCells (I : List IncR) : List Value := I.flatMap fun i => [.int .i64 i.sq, .int .i64 i.bt, .int .i64 i.fi, .int .i64 i.la, .int .i64 i.wo]
theorem incCells_snoc (I : List IncR) (i : IncR) : incCells (I ++ [i]) = incCells I ++ [.int .i64 i.sq, .int .i64 i.bt, .int .i64 i.fi, .int .i64 i.la, .int .i64 i.wo] := by simp [incCells]
/-- Each increment of the list is well, and not empty; the t-th one's number lies from 3 t to 3 t + 2. -/
def AllP (F : Nat → Fr) (n k : Nat) (I : List IncR) : Prop := ∀ (t : Nat) (i : IncR), I[t]? = some i → IncP F n k i.sq i.bt i.fi i.la i.wo ∧ 0 < i.wo ∧ 3 * (t : Int) ≤ i.sq ∧ i.sq ≤ 3 * (t : Int) + 2
theorem AllP.keeps {F F' : Nat → Fr} {n k : Nat} {I : List IncR} {sq : Int} (h : AllP F n k I) (hk : KeepsO F F' sq) (hf : FV F n) (hs : 3 * (I.length : Int) ≤ sq) : AllP F' n k I := fun t i hi => by
  obtain ⟨h1, h2, h3, h4⟩ := h t i hi
  have ht : t < I.length := by
    rcases Nat.lt_or_ge t I.length with x | x
    · exact x
    · rw [List.getElem?_eq_none x] at hi; cases hi
  exact ⟨h1.other hk hf (by omega), h2, h3, h4⟩
theorem AllP.snoc {F : Nat → Fr} {n k : Nat} {I : List IncR} {i : IncR} (h : AllP F n k I) (h1 : IncP F n k i.sq i.bt i.fi i.la i.wo) (h2 : 0 < i.wo) (h3 : 3 * (I.length : Int) ≤ i.sq) (h4 : i.sq ≤ 3 * (I.length : Int) + 2) : AllP F n k (I ++ [i]) := fun t x hx => by
  rcases Nat.lt_trichotomy t I.length with e | e | e
  · rw [List.getElem?_append_left e] at hx; exact h t x hx
  · subst e
    rw [List.getElem?_append_right (Nat.le_refl _), Nat.sub_self] at hx
    simp at hx
    subst hx
    exact ⟨h1, h2, h3, h4⟩
  · rw [List.getElem?_eq_none (by simp; omega)] at hx; cases hx
/-- Objects fill each increment of the list. -/
def AllR (k : Nat) (wd : Nat → Int) (F : Nat → Fr) (I : List IncR) : Prop := ∀ (t : Nat) (i : IncR), I[t]? = some i → FullR k wd F i.fi i.wo
theorem AllR.keeps {F F' : Nat → Fr} {n k : Nat} {wd wd' : Nat → Int} {I : List IncR} {sq : Int} (h : AllR k wd F I) (hP : AllP F n k I) (hk : ∀ o bt fi la wo : Int, o ≠ sq → IncP F n k o bt fi la wo → FullR k wd F fi wo → FullR k wd' F' fi wo) (hs : 3 * (I.length : Int) ≤ sq) : AllR k wd' F' I := fun t i hi => by
  obtain ⟨h1, h2, h3, h4⟩ := hP t i hi
  have ht : t < I.length := by
    rcases Nat.lt_or_ge t I.length with x | x
    · exact x
    · rw [List.getElem?_eq_none x] at hi; cases hi
  exact hk _ _ _ _ _ (by omega) h1 (h t i hi)
theorem AllR.snoc {F : Nat → Fr} {k : Nat} {wd : Nat → Int} {I : List IncR} {i : IncR} (h : AllR k wd F I) (h1 : FullR k wd F i.fi i.wo) : AllR k wd F (I ++ [i]) := fun t x hx => by
  rcases Nat.lt_trichotomy t I.length with e | e | e
  · rw [List.getElem?_append_left e] at hx; exact h t x hx
  · subst e
    rw [List.getElem?_append_right (Nat.le_refl _), Nat.sub_self] at hx
    simp at hx
    subst hx
    exact h1
  · rw [List.getElem?_eq_none (by simp; omega)] at hx; cases hx
theorem cntO_none {F : Nat → Fr} {o : Int} : ∀ {t : Nat}, (∀ f, f < t → (F f).ow ≠ o) → cntO F o t = 0
  | 0, _ => rfl
  | t + 1, h => by simp only [cntO]; rw [cntO_none (fun f hf => h f (by omega)), if_neg (h t (by omega))]
theorem cntO_zero {F : Nat → Fr} {o : Int} : ∀ {t : Nat}, cntO F o t = 0 → ∀ f, f < t → (F f).ow ≠ o
  | 0, _, f, hf => absurd hf (by omega)
  | t + 1, h, f, hf => by
    simp only [cntO] at h
    by_cases e : (F t).ow = o
    · rw [if_pos e] at h; omega
    · rcases (show f < t ∨ f = t by omega) with x | rfl
      · exact cntO_zero (by omega) f x
      · exact e
theorem inc_new {F : Nat → Fr} {n k : Nat} {sq bt : Int} (h1 : 0 ≤ sq) (h2 : sq ≤ 50) (h3 : 0 ≤ bt) (h4 : bt ≤ 2) (h : ∀ f, f < n → (F f).ow ≠ sq) : IncP F n k sq bt (-1) (-1) 0 :=
  ⟨h1, h2, h3, h4, 0, rfl, .inl ⟨ceilV_zero k, rfl⟩, by rw [cntO_none h, ceilV_zero]⟩

/-- The list of increments: a row of the call's own, in a block below ib. -/
def LRow (W : World) (B ib j : Nat) (l : Value) (xs : List Value) : Prop := W.ownsRow B 51 5 l j xs ∧ ∀ b, l.ownBlock = some b → b < ib

theorem LRow.turn {W W' : World} {B ib j g : Nat} {l : Value} {xs : List Value} (h : LRow W B ib j l xs) (hG : W.grownBy W' (some g)) (hg : g < B) : LRow W' B ib j l xs := by
  obtain ⟨h1, h2⟩ := h
  exact ⟨ownsRow_keep h1 fun x _ hx hl => hG.block x hl (by intro e; injection e; omega), h2⟩
theorem LRow.below {W W' : World} {B ib j : Nat} {l : Value} {xs : List Value} (h : LRow W B ib j l xs) (hb : Below W.heap.size W W') : LRow W' B ib j l xs := by
  obtain ⟨h1, h2⟩ := h
  exact ⟨ownsRow_keep h1 fun x _ _ hl => hb.block x hl, h2⟩
theorem LRow.far {W : World} {B ib j : Nat} {l : Value} {xs : List Value} (h : LRow W B ib j l xs) {p : Addr} (hp : p.block < B ∨ ib ≤ p.block) (u : Value) : LRow (W.setCell p u) B ib j l xs := by
  obtain ⟨h1, h2⟩ := h
  refine ⟨ownsRow_keep h1 fun x hx hB hl => Below.heap_setCell W p u x ?_, h2⟩
  have := h2 x hx
  omega
theorem LRow.more {W : World} {B ib ib' j : Nat} {l : Value} {xs : List Value} (h : LRow W B ib j l xs) (hi : ib ≤ ib') : LRow W B ib' j l xs :=
  ⟨h.1, fun b hb => Nat.lt_of_lt_of_le (h.2 b hb) hi⟩

/-- The box sb holds a valid space of rows of the call's own. -/
def SpAt (w : World) (dk B k n sb : Nat) (wd : Nat → Int) (F : Nat → Fr) (W : World) : Prop :=
  ∃ (A : Option Addr) (c g c' : Nat), Blk W sb 25 #[.int .i64 k, .slice A (n * 2 ^ k) c, .slice (some ⟨g, 0, none⟩) n c'] ∧ Own W B A (n * 2 ^ k) c wd ∧ OwnT W B (some ⟨g, 0, none⟩) n c' F ∧
    ValidO k (n * 2 ^ k) wd n F ∧ DeckP W dk ∧ w.grownBy W (some dk)

def SpaceOf (dk : Nat) (w : World) (e : Ending) (w' : World) : Prop :=
  ∃ (k n : Nat) (A : Option Addr) (c g c' : Nat) (wd : Nat → Int) (F : Nat → Fr) (L : Value), e = .returned (.tuple #[.agg #[.int .i64 k, .slice A (n * 2 ^ k) c, .slice (some ⟨g, 0, none⟩) n c'], L]) ∧ 3 ≤ k ∧ k ≤ 4 ∧ 2 ≤ n ∧ n ≤ 10 ∧
    Own w' w.heap.size A (n * 2 ^ k) c wd ∧ OwnT w' w.heap.size (some ⟨g, 0, none⟩) n c' F ∧ ValidO k (n * 2 ^ k) wd n F ∧ (DeckP w' dk ∧ ∃ (I : List IncR) (B : Nat), w.heap.size ≤ B ∧ LRow w' B w'.heap.size I.length L (incCells I) ∧ AllP F n k I) ∧ w.grownBy w' (some dk)
/-- Whether an increment of the list has this number. -/
def OwnI (I : List IncR) (o : Int) : Prop := ∃ i ∈ I, i.sq = o
theorem OwnI.more {I : List IncR} {o : Int} (h : OwnI I o) (i : IncR) : OwnI (I ++ [i]) o := by
  obtain ⟨x, hx, e⟩ := h
  exact ⟨x, List.mem_append_left _ hx, e⟩
theorem OwnI.last {I : List IncR} {o : Int} {i : IncR} (h : i.sq = o) : OwnI (I ++ [i]) o := ⟨i, by simp, h⟩
/-- The same, and every frame that is not free belongs to one of the increments. -/
def SpaceY (dk : Nat) (w : World) (e : Ending) (w' : World) : Prop :=
  ∃ (k n : Nat) (A : Option Addr) (c g c' : Nat) (wd : Nat → Int) (F : Nat → Fr) (L : Value), e = .returned (.tuple #[.agg #[.int .i64 k, .slice A (n * 2 ^ k) c, .slice (some ⟨g, 0, none⟩) n c'], L]) ∧ 3 ≤ k ∧ k ≤ 4 ∧ 2 ≤ n ∧ n ≤ 10 ∧
    Own w' w.heap.size A (n * 2 ^ k) c wd ∧ OwnT w' w.heap.size (some ⟨g, 0, none⟩) n c' F ∧ ValidO k (n * 2 ^ k) wd n F ∧ (DeckP w' dk ∧ ∃ (I : List IncR) (B : Nat), w.heap.size ≤ B ∧ LRow w' B w'.heap.size I.length L (incCells I) ∧ AllP F n k I ∧ AllR k wd F I ∧ ∀ f, f < n → (F f).ow = -1 ∨ OwnI I (F f).ow) ∧ w.grownBy w' (some dk)
/-- The same, and objects fill the increments. -/
def SpaceX (dk : Nat) (w : World) (e : Ending) (w' : World) : Prop :=
  ∃ (k n : Nat) (A : Option Addr) (c g c' : Nat) (wd : Nat → Int) (F : Nat → Fr) (L : Value), e = .returned (.tuple #[.agg #[.int .i64 k, .slice A (n * 2 ^ k) c, .slice (some ⟨g, 0, none⟩) n c'], L]) ∧ 3 ≤ k ∧ k ≤ 4 ∧ 2 ≤ n ∧ n ≤ 10 ∧
    Own w' w.heap.size A (n * 2 ^ k) c wd ∧ OwnT w' w.heap.size (some ⟨g, 0, none⟩) n c' F ∧ ValidO k (n * 2 ^ k) wd n F ∧ (DeckP w' dk ∧ ∃ (I : List IncR) (B : Nat), w.heap.size ≤ B ∧ LRow w' B w'.heap.size I.length L (incCells I) ∧ AllP F n k I ∧ AllR k wd F I) ∧ w.grownBy w' (some dk)

theorem SpAt.turn {w W W' : World} {dk B k n sb : Nat} {wd : Nat → Int} {F : Nat → Fr} (h : SpAt w dk B k n sb wd F W) (hB : dk < B) (hs : sb ≠ dk) (hD : DeckP W' dk) (hG : W.grownBy W' (some dk)) : SpAt w dk B k n sb wd F W' := by
  obtain ⟨A, c, g, c', h1, h2, h3, h4, h5, h6⟩ := h
  exact ⟨A, c, g, c', h1.turn hG hs, h2.turnB hG hB, h3.turnB hG hB, h4, hD, turn_trans h6 hG⟩
theorem SpAt.deck {w W : World} {dk B k n sb : Nat} {wd : Nat → Int} {F : Nat → Fr} (h : SpAt w dk B k n sb wd F W) : DeckP W dk := by
  obtain ⟨A, c, g, c', h1, h2, h3, h4, h5, h6⟩ := h
  exact h5
theorem SpAt.next {w W W' : World} {dk B k n sb : Nat} {wd : Nat → Int} {F : Nat → Fr} (h : SpAt w dk B k n sb wd F W) (hB : dk < B) (hs : sb ≠ dk) (hb : Below W.heap.size W W') : SpAt w dk B k n sb wd F W' :=
  h.turn hB hs (h.deck.next hb) (turn_below hb)

/-- The boxes behind eight stores: three into x, five into y. -/
theorem Blk.first8 {w : World} {x y : Nat} {t : TypeId} {a0 a1 a2 : Value} (h : Blk w x t #[a0, a1, a2]) (hxy : x ≠ y) (v0 v1 v2 u0 u1 u2 u3 u4 : Value) : Blk ((((((((w.setCell ⟨x, 0, none⟩ v0).setCell ⟨x, 1, none⟩ v1).setCell ⟨x, 2, none⟩ v2).setCell ⟨y, 0, none⟩ u0).setCell ⟨y, 1, none⟩ u1).setCell ⟨y, 2, none⟩ u2).setCell ⟨y, 3, none⟩ u3).setCell ⟨y, 4, none⟩ u4) x t #[v0, v1, v2] :=
  (((((((h.set_ 0 v0).set_ 1 v1).set_ 2 v2).far hxy u0).far hxy u1).far hxy u2).far hxy u3).far hxy u4
theorem Blk.second8 {w : World} {x y : Nat} {t : TypeId} {a0 a1 a2 a3 a4 : Value} (h : Blk w y t #[a0, a1, a2, a3, a4]) (hxy : x ≠ y) (v0 v1 v2 u0 u1 u2 u3 u4 : Value) : Blk ((((((((w.setCell ⟨x, 0, none⟩ v0).setCell ⟨x, 1, none⟩ v1).setCell ⟨x, 2, none⟩ v2).setCell ⟨y, 0, none⟩ u0).setCell ⟨y, 1, none⟩ u1).setCell ⟨y, 2, none⟩ u2).setCell ⟨y, 3, none⟩ u3).setCell ⟨y, 4, none⟩ u4) y t #[u0, u1, u2, u3, u4] :=
  (((((((h.far (p := ⟨x, 0, none⟩) (Ne.symm hxy) v0).far (p := ⟨x, 1, none⟩) (Ne.symm hxy) v1).far (p := ⟨x, 2, none⟩) (Ne.symm hxy) v2).set_ 0 u0).set_ 1 u1).set_ 2 u2).set_ 3 u3).set_ 4 u4
theorem Blk.far8 {w : World} {x y z : Nat} {t : TypeId} {cs : Array Value} (h : Blk w z t cs) (hx : z ≠ x) (hy : z ≠ y) (v0 v1 v2 u0 u1 u2 u3 u4 : Value) : Blk ((((((((w.setCell ⟨x, 0, none⟩ v0).setCell ⟨x, 1, none⟩ v1).setCell ⟨x, 2, none⟩ v2).setCell ⟨y, 0, none⟩ u0).setCell ⟨y, 1, none⟩ u1).setCell ⟨y, 2, none⟩ u2).setCell ⟨y, 3, none⟩ u3).setCell ⟨y, 4, none⟩ u4) z t cs :=
  (((((((h.far hx v0).far hx v1).far hx v2).far hy u0).far hy u1).far hy u2).far hy u3).far hy u4
theorem LRow.put8 {w : World} {B ib j x y : Nat} {l : Value} {xs : List Value} (h : LRow w B ib j l xs) (hx : x < B ∨ ib ≤ x) (hy : y < B ∨ ib ≤ y) (v0 v1 v2 u0 u1 u2 u3 u4 : Value) : LRow ((((((((w.setCell ⟨x, 0, none⟩ v0).setCell ⟨x, 1, none⟩ v1).setCell ⟨x, 2, none⟩ v2).setCell ⟨y, 0, none⟩ u0).setCell ⟨y, 1, none⟩ u1).setCell ⟨y, 2, none⟩ u2).setCell ⟨y, 3, none⟩ u3).setCell ⟨y, 4, none⟩ u4) B ib j l xs :=
  (((((((h.far hx v0).far hx v1).far hx v2).far hy u0).far hy u1).far hy u2).far hy u3).far hy u4
theorem Own.box8 {w : World} {base n c x y : Nat} {A : Option Addr} {f : Nat → Int} {t1 t2 : TypeId} {a0 a1 a2 : Value} {cs : Array Value} (h : Own w base A n c f) (hx : Blk w x t1 #[a0, a1, a2]) (hy : Blk w y t2 cs) (h1 : t1 ≠ 28) (h2 : t2 ≠ 28) (hxy : x ≠ y) (v0 v1 v2 u0 u1 u2 u3 u4 : Value) : Own ((((((((w.setCell ⟨x, 0, none⟩ v0).setCell ⟨x, 1, none⟩ v1).setCell ⟨x, 2, none⟩ v2).setCell ⟨y, 0, none⟩ u0).setCell ⟨y, 1, none⟩ u1).setCell ⟨y, 2, none⟩ u2).setCell ⟨y, 3, none⟩ u3).setCell ⟨y, 4, none⟩ u4) base A n c f := by
  have y1 := hy.far (p := ⟨x, 0, none⟩) (Ne.symm hxy) v0
  have y2 := y1.far (p := ⟨x, 1, none⟩) (Ne.symm hxy) v1
  have y3 := y2.far (p := ⟨x, 2, none⟩) (Ne.symm hxy) v2
  exact (((((((h.box hx h1 0 v0).box (hx.set_ 0 v0) h1 1 v1).box ((hx.set_ 0 v0).set_ 1 v1) h1 2 v2).box y3 h2 0 u0).box (y3.set_ 0 u0) h2 1 u1).box ((y3.set_ 0 u0).set_ 1 u1) h2 2 u2).box (((y3.set_ 0 u0).set_ 1 u1).set_ 2 u2) h2 3 u3).box ((((y3.set_ 0 u0).set_ 1 u1).set_ 2 u2).set_ 3 u3) h2 4 u4
theorem OwnT.box8 {w : World} {base n c x y : Nat} {A : Option Addr} {F : Nat → Fr} {t1 t2 : TypeId} {a0 a1 a2 : Value} {cs : Array Value} (h : OwnT w base A n c F) (hx : Blk w x t1 #[a0, a1, a2]) (hy : Blk w y t2 cs) (h1 : t1 ≠ 61) (h2 : t2 ≠ 61) (hxy : x ≠ y) (v0 v1 v2 u0 u1 u2 u3 u4 : Value) : OwnT ((((((((w.setCell ⟨x, 0, none⟩ v0).setCell ⟨x, 1, none⟩ v1).setCell ⟨x, 2, none⟩ v2).setCell ⟨y, 0, none⟩ u0).setCell ⟨y, 1, none⟩ u1).setCell ⟨y, 2, none⟩ u2).setCell ⟨y, 3, none⟩ u3).setCell ⟨y, 4, none⟩ u4) base A n c F := by
  have y1 := hy.far (p := ⟨x, 0, none⟩) (Ne.symm hxy) v0
  have y2 := y1.far (p := ⟨x, 1, none⟩) (Ne.symm hxy) v1
  have y3 := y2.far (p := ⟨x, 2, none⟩) (Ne.symm hxy) v2
  exact (((((((h.box hx h1 0 v0).box (hx.set_ 0 v0) h1 1 v1).box ((hx.set_ 0 v0).set_ 1 v1) h1 2 v2).box y3 h2 0 u0).box (y3.set_ 0 u0) h2 1 u1).box ((y3.set_ 0 u0).set_ 1 u1) h2 2 u2).box (((y3.set_ 0 u0).set_ 1 u1).set_ 2 u2) h2 3 u3).box ((((y3.set_ 0 u0).set_ 1 u1).set_ 2 u2).set_ 3 u3) h2 4 u4

theorem inc_info : (Try.prog.info? 51).map (fun i => (i.zero, i.size, i.bytes)) = some (some (.agg #[.int .i64 0, .int .i64 0, .int .i64 0, .int .i64 0, .int .i64 0]), 5, 40) := by kernel_rfl

theorem turn_row {a w w1 : World} {g : Nat} {row : Option Nat} (h : a.grownBy w (some g)) (hr : w.grownBy w1 row) (hb : ∀ k, row = some k → a.heap.size ≤ k) : a.grownBy w1 (some g) :=
  ⟨hr.os.trans h.os, hr.tape.trans h.tape, hr.output.trans h.output, Nat.le_trans h.size hr.size, fun i hi hn => (hr.block i (Nat.lt_of_lt_of_le hi h.size) (fun e => by have := hb i e.symm; omega)).trans (h.block i hi hn)⟩

theorem row_type {w : World} {base : Nat} {t : TypeId} {size n : Nat} {v : Value} {xs : List Value} (h : w.ownsRow base t size v n xs) : ∀ k, v.ownBlock = some k → ∃ cur, Blk w k t cur := by
  intro k hk
  obtain ⟨hl, h⟩ := h
  rcases h with ⟨rfl, rfl⟩ | ⟨g, cap, cur, rfl, hb, hg, _⟩
  · simp [Value.ownBlock] at hk
  · simp [Value.ownBlock] at hk
    subst hk
    exact ⟨cur, hg⟩

theorem Blk.row {w w' : World} {b : Nat} {t : TypeId} {cs : Array Value} {row : Option Nat} (h : Blk w b t cs) (hG : w.grownBy w' row) (hn : row ≠ some b) : Blk w' b t cs := (hG.block b h.lt (fun e => hn e.symm)).trans h

theorem Own.row {w w' : World} {base n c : Nat} {A : Option Addr} {f : Nat → Int} {t : TypeId} {row : Option Nat} (h : Own w base A n c f) (hG : w.grownBy w' row) (hr : ∀ b, row = some b → ∃ cs, Blk w b t cs) (ht : t ≠ 28) : Own w' base A n c f := by
  obtain ⟨h1, h2, h3⟩ := h
  refine ⟨h1, h2, ?_⟩
  rcases h3 with h3 | ⟨g, cur, hA, hg, hh, hs⟩
  · exact .inl h3
  · refine .inr ⟨g, cur, hA, hg, (hG.block g (blk_lt hh) ?_).trans hh, hs⟩
    intro e
    obtain ⟨cs, hb⟩ := hr g e.symm
    unfold Blk at hb
    rw [hh] at hb
    injection hb with hb
    injection hb with _ hb
    exact ht hb.symm
theorem OwnT.row {w w' : World} {base n c : Nat} {A : Option Addr} {F : Nat → Fr} {t : TypeId} {row : Option Nat} (h : OwnT w base A n c F) (hG : w.grownBy w' row) (hr : ∀ b, row = some b → ∃ cs, Blk w b t cs) (ht : t ≠ 61) : OwnT w' base A n c F := by
  obtain ⟨h1, h2, h3⟩ := h
  refine ⟨h1, h2, ?_⟩
  rcases h3 with h3 | ⟨g, cur, hA, hg, hh, hs⟩
  · exact .inl h3
  · refine .inr ⟨g, cur, hA, hg, (hG.block g (blk_lt hh) ?_).trans hh, hs⟩
    intro e
    obtain ⟨cs, hb⟩ := hr g e.symm
    unfold Blk at hb
    rw [hh] at hb
    injection hb with hb
    injection hb with _ hb
    exact ht hb.symm
theorem DeckP.row {w w' : World} {dk : Nat} {row : Option Nat} (h : DeckP w dk) (hG : w.grownBy w' row) (hr : ∀ b, row = some b → dk < b) : DeckP w' dk := by
  have hB : Below (dk + 1) w w' := ⟨hG.os, hG.tape, hG.output, hG.size, fun i hi => hG.block i (by have := h.lt; omega) (fun e => by have := hr i e.symm; omega)⟩
  obtain ⟨A, n, c, q, h1, h2, h3, h4, h5⟩ := h
  refine ⟨A, n, c, q, (hB.block dk (by omega)).trans h1, h2, h3, h4, fun j hj => ?_⟩
  obtain ⟨b, o, v, e, hlt, hc, hv⟩ := h5 j hj
  exact ⟨b, o, v, e, hlt, by rw [hB.cell (by show b < _; omega)]; exact hc, hv⟩

theorem SpAt.row {w W W' : World} {dk k n sb : Nat} {wd : Nat → Int} {F : Nat → Fr} {row : Option Nat} (h : SpAt w dk w.heap.size k n sb wd F W) (hd : dk < w.heap.size) (hs : w.heap.size < sb) (hG : W.grownBy W' row) (hr : ∀ b, row = some b → sb < b) (ht : ∀ b, row = some b → ∃ cs, Blk W b 51 cs) : SpAt w dk w.heap.size k n sb wd F W' := by
  obtain ⟨A, c, g, c', h1, h2, h3, h4, h5, h6⟩ := h
  exact ⟨A, c, g, c', h1.row hG (fun e => by have := hr _ e; omega), h2.row hG ht (by decide), h3.row hG ht (by decide), h4, h5.row hG (fun b e => by have := hr b e; omega), turn_row h6 hG (fun b e => by have := hr b e; omega)⟩

theorem row_of {w : World} {B s n : Nat} {v : Value} {xs : List Value} (h : w.ownsRow B 51 s v n xs) (hs : s = 5) : LRow w B w.heap.size n v xs := by
  subst hs
  exact ⟨h, fun b hb => by obtain ⟨cs, hh⟩ := row_type h b hb; exact hh.lt⟩

theorem five_news {w : World} {g : Nat} {v0 v1 v2 v3 v4 : Value} (h0 : w.cell? ⟨g, 0, none⟩ = some v0) (h1 : w.cell? ⟨g, 1, none⟩ = some v1) (h2 : w.cell? ⟨g, 2, none⟩ = some v2) (h3 : w.cell? ⟨g, 3, none⟩ = some v3) (h4 : w.cell? ⟨g, 4, none⟩ = some v4) :
    ∀ (j : Nat) (u : Value), [v0, v1, v2, v3, v4][j]? = some u → w.cell? ((⟨g, 0, none⟩ : Addr).add j) = some u := by
  intro j u hu
  rw [add_at]
  rcases j with _ | _ | _ | _ | _ | j <;> simp at hu <;> subst hu <;> simp <;> assumption

/-- At the outer loop's head. -/
def OutAt (w : World) (dk k n sb : Nat) (l kk : Value) (wr : World) : Prop := ∃ (t j : Nat) (I : List IncR) (wd : Nat → Int) (F : Nat → Fr), kk = .int .i64 t ∧ t + j ≤ 4 ∧ LRow wr (sb + 1) wr.heap.size j l (incCells I) ∧ SpAt w dk w.heap.size k n sb wd F wr ∧ Blk wr w.heap.size 25 #[.int .i64 0, .slice none 0 0, .slice none 0 0] ∧ sb < wr.heap.size ∧
  I.length = j ∧ AllP F n k I ∧ AllR k wd F I ∧ ∀ f, f < n → (F f).ow = -1 ∨ ((F f).ow < 3 * (j : Int) ∧ OwnI I (F f).ow)

/-- At the inner loop's head. -/
def InAt (w : World) (dk k n sb ib j : Nat) (I : List IncR) (l mm : Value) (wr : World) : Prop := ∃ (t : Nat) (i0 i1 i2 i3 i4 : Int) (wd : Nat → Int) (F : Nat → Fr), mm = .int .i64 t ∧ t ≤ 5 ∧ LRow wr (sb + 1) ib j l (incCells I) ∧ SpAt w dk w.heap.size k n sb wd F wr ∧ Blk wr w.heap.size 25 #[.int .i64 0, .slice none 0 0, .slice none 0 0] ∧
  Blk wr ib 51 #[.int .i64 i0, .int .i64 i1, .int .i64 i2, .int .i64 i3, .int .i64 i4] ∧ 3 * (j : Int) ≤ i0 ∧ i0 ≤ 3 * (j : Int) + 2 ∧ IncP F n k i0 i1 i2 i3 i4 ∧ AllP F n k I ∧ AllR k wd F I ∧ FullR k wd F i2 i4 ∧ ∀ f, f < n → (F f).ow = -1 ∨ ((F f).ow < 3 * (j : Int) ∧ OwnI I (F f).ow) ∨ (F f).ow = i0

set_option maxHeartbeats 2000000 in
theorem spaceY_any (dk : Nat) (w : World) (hd : DeckP w dk) : Calls Try.prog 9 #[.pointer (some ⟨dk, 0, none⟩)] w (SpaceY dk w) := by
  have hlt := hd.lt
  go_enter Try.func9, Try.ntmps9
  go_wp2_with fail
  obtain ⟨V, hV⟩ : ∃ V, V = w.alloc (.cells #[.int .i64 0, .slice none 0 0, .slice none 0 0] 25) := ⟨_, rfl⟩
  have hb : Below w.heap.size w V := by rw [hV]; exact (Below.refl _ w).alloc (Nat.le_refl _) _
  have X0 := Lib.hid (show Blk V w.heap.size 25 #[.int .i64 0, .slice none 0 0, .slice none 0 0] by rw [hV]; exact Blk.new _ _ _)
  have D0 := Lib.hid (hd.next hb)
  have T0 := Lib.hid (show w.grownBy V (some dk) from turn_below hb)
  rw [← hV]
  clear hV hb hd
  refine (next_any dk 2 V (by omega) (by omega) D0.out).mono ?_
  rintro e V1 ⟨v1, rfl, a0, a1, hD, hG⟩
  have D1 := Lib.hid hD
  have T1 := Lib.hid (turn_trans T0.out hG)
  have X1 := Lib.hid (X0.out.turn hG (by omega))
  clear D0 T0 X0 hD hG
  have s1 : IntKind.i64.wrap (3 + v1) = 3 + v1 := IntWalk.i64_in _ (by omega)
  go_wp2_with fail
  refine (next_any dk 9 V1 (by omega) (by omega) D1.out).mono ?_
  rintro e V2 ⟨v2, rfl, b0, b1, hD, hG⟩
  have D2 := Lib.hid hD
  have T2 := Lib.hid (turn_trans T1.out hG)
  have X2 := Lib.hid (X1.out.turn hG (by omega))
  clear D1 T1 X1 hD hG s1
  have s1 : IntKind.i64.wrap (2 + v2) = 2 + v2 := IntWalk.i64_in _ (by omega)
  go_wp2_with fail
  obtain ⟨j1, e, hj1⟩ : ∃ j : Nat, v1 = j ∧ j ≤ 1 := ⟨v1.toNat, by omega, by omega⟩
  subst e
  obtain ⟨j2, e, hj2⟩ : ∃ j : Nat, v2 = j ∧ j ≤ 8 := ⟨v2.toNat, by omega, by omega⟩
  subst e
  clear a0 a1 b0 b1 s1
  rw [show (3 + (j1 : Int)) = ((3 + j1 : Nat) : Int) by omega, show (2 + (j2 : Int)) = ((2 + j2 : Nat) : Int) by omega]
  obtain ⟨k, hk, k0, k1⟩ : ∃ k, 3 + j1 = k ∧ 3 ≤ k ∧ k ≤ 4 := ⟨_, rfl, by omega, by omega⟩
  obtain ⟨n, hn, n0, n1⟩ : ∃ n, 2 + j2 = n ∧ 2 ≤ n ∧ n ≤ 10 := ⟨_, rfl, by omega, by omega⟩
  rw [hk, hn]
  clear hk hn
  refine (refNew_yes k n V2 k0 (by omega) n0 (by omega)).mono ?_
  rintro e V3 ⟨A, A', rfl, ho, ht, hb⟩
  obtain ⟨g, rfl⟩ : ∃ g, A' = some ⟨g, 0, none⟩ := by
    obtain ⟨_, _, h | ⟨g', cur, hA, _⟩⟩ := ht
    · omega
    · exact ⟨g', hA⟩
  have hsz2 : w.heap.size ≤ V2.heap.size := T2.out.size
  have O3 := Lib.hid (ho.lower hsz2)
  have OT3 := Lib.hid (ht.lower hsz2)
  have D3 := Lib.hid (D2.out.next hb)
  have T3 := Lib.hid (turn_next T2.out hb)
  have X3 := Lib.hid (X2.out.next hb)
  have HV3 := Lib.hid (show ValidO k (n * 2 ^ k) (fun _ => 0) n (fun _ => frFree) from ⟨valid_fresh (k := k) (n := n) (by omega) (by omega) (by omega) (by omega), fun _ => by show (-1 : Int) ≤ 50; decide, fun _ _ => ⟨by show (0 : Int) ≤ 0; decide, by show (0 : Int) < 18446744073709551616; decide⟩⟩)
  clear ho ht hb D2 T2 X2
  go_wp2_with fail
  obtain ⟨V4, hV4⟩ : ∃ V4, V4 = V3.alloc (.cells #[.int .i64 k, .slice A (n * 2 ^ k) (n * 2 ^ k), .slice (some ⟨g, 0, none⟩) n n] 25) := ⟨_, rfl⟩
  have hsb : w.heap.size < V3.heap.size := X3.out.lt
  have hb : Below V3.heap.size V3 V4 := by rw [hV4]; exact (Below.refl _ _).alloc (Nat.le_refl _) _
  have SP4 := Lib.hid (show SpAt w dk w.heap.size k n V3.heap.size (fun _ => 0) (fun _ => frFree) V4 from ⟨A, _, g, _, by rw [hV4]; exact Blk.new _ _ _, O3.out.below hb, OT3.out.below hb, HV3.out, D3.out.next hb, turn_next T3.out hb⟩)
  have X4 := Lib.hid (X3.out.next hb)
  have hsz4 : V3.heap.size < V4.heap.size := by rw [hV4]; simp
  rw [← hV4]
  clear hV4 hb O3 OT3 D3 T3 X3 HV3
  refine (next_any dk 5 V4 (by omega) (by omega) SP4.out.deck).mono ?_
  rintro e V5 ⟨v5, rfl, a0, a1, hD, hG⟩
  have SP5 := Lib.hid (SP4.out.turn hlt (by omega) hD hG)
  have X5 := Lib.hid (X4.out.turn hG (by omega))
  have hsz5 : V4.heap.size ≤ V5.heap.size := hG.size
  clear SP4 X4 hD hG
  obtain ⟨t5, e, ht5⟩ : ∃ j : Nat, v5 = j ∧ j ≤ 4 := ⟨v5.toNat, by omega, by omega⟩
  subst e
  clear a0 a1
  go_wp2_with fail
  go_loopw [6, 7, 8, 9] (fun l kk _ _ wr => OutAt w dk k n V3.heap.size l kk wr) (fun _ kk _ _ _ => (intOf kk).toNat)
  case atStart => exact ⟨t5, 0, [], _, _, rfl, by omega, ⟨World.ownsRow_nil _ _ _ _, fun b hb => by simp [Value.ownBlock] at hb⟩, SP5.out, X5.out, by omega, rfl, fun t i hi => by simp at hi, fun t i hi => by simp at hi, fun f _ => .inl rfl⟩
  case round =>
    obtain ⟨t, j, I, wd, F, rfl, htj, hL, hSP, hX, hsr, hIl, hAll, hAr, hFr⟩ := hrel
    obtain ⟨A0, c0, rfl, hjc⟩ : ∃ A c, u6 = .slice A j c ∧ j ≤ c := row_slice hL.1
    have HIL := Lib.hid hIl
    have HALL := Lib.hid hAll
    have HAR := Lib.hid hAr
    have HFR := Lib.hid hFr
    clear hIl hAll hAr hFr
    have HL := Lib.hid hL
    have HSP := Lib.hid hSP
    have HX := Lib.hid hX
    clear hL hSP hX
    by_cases ht : 0 < t
    · have ht' : 0 < (t : Int) := by omega
      have s1 : IntKind.i64.wrap (3 * (j : Int)) = 3 * j := IntWalk.i64_in _ (by omega)
      go_wp2_with fail
      refine (next_any dk 3 wr (by omega) (by omega) HSP.out.deck).mono ?_
      rintro e W1 ⟨v1, rfl, a0, a1, hD, hG⟩
      have L1 := Lib.hid (HL.out.turn hG (by omega))
      have SP1 := Lib.hid (HSP.out.turn hlt (by omega) hD hG)
      have X1 := Lib.hid (HX.out.turn hG (by omega))
      have hs1 : wr.heap.size ≤ W1.heap.size := hG.size
      clear HL HSP HX hD hG s1
      have s1 : IntKind.i64.wrap (3 * (j : Int) + v1) = 3 * j + v1 := IntWalk.i64_in _ (by omega)
      go_wp2_with fail
      refine (next_any dk 3 W1 (by omega) (by omega) SP1.out.deck).mono ?_
      rintro e W2 ⟨v2, rfl, b0, b1, hD, hG⟩
      have L2 := Lib.hid (L1.out.turn hG (by omega))
      have SP2 := Lib.hid (SP1.out.turn hlt (by omega) hD hG)
      have X2 := Lib.hid (X1.out.turn hG (by omega))
      have hs2 : W1.heap.size ≤ W2.heap.size := hG.size
      clear L1 SP1 X1 hD hG s1
      go_wp2_with fail
      obtain ⟨W3, hW3⟩ : ∃ W3, W3 = W2.alloc (.cells #[.int .i64 (3 * (j : Int) + v1), .int .i64 v2, .int .i64 (-1), .int .i64 (-1), .int .i64 0] 51) := ⟨_, rfl⟩
      have hb : Below W2.heap.size W2 W3 := by rw [hW3]; exact (Below.refl _ _).alloc (Nat.le_refl _) _
      have I3 := Lib.hid (show Blk W3 W2.heap.size 51 #[.int .i64 (3 * (j : Int) + v1), .int .i64 v2, .int .i64 (-1), .int .i64 (-1), .int .i64 0] by rw [hW3]; exact Blk.new _ _ _)
      have L3 := Lib.hid ((L2.out.below hb).more (show wr.heap.size ≤ W2.heap.size by omega))
      have SP3 := Lib.hid (SP2.out.next hlt (by omega) hb)
      have X3 := Lib.hid (X2.out.next hb)
      rw [← hW3]
      clear L2 SP2 X2 hb hW3
      refine (next_any dk 5 W3 (by omega) (by omega) SP3.out.deck).mono ?_
      rintro e W4 ⟨v4, rfl, d0, d1, hD, hG⟩
      have L4 := Lib.hid (L3.out.turn hG (by omega))
      have SP4 := Lib.hid (SP3.out.turn hlt (by omega) hD hG)
      have X4 := Lib.hid (X3.out.turn hG (by omega))
      have I4 := Lib.hid (I3.out.turn hG (by omega))
      clear L3 SP3 X3 I3 hD hG
      obtain ⟨m4, e, hm4⟩ : ∃ m : Nat, v4 = m ∧ m ≤ 4 := ⟨v4.toNat, by omega, by omega⟩
      subst e
      have s1 : IntKind.i64.wrap (1 + (m4 : Int)) = ((1 + m4 : Nat) : Int) := by rw [IntWalk.i64_in _ (by omega)]; omega
      have hib : w.heap.size < W2.heap.size := by omega
      have hib' : V3.heap.size < W2.heap.size := by omega
      go_wp2_with fail
      go_loopw [9] (fun mm wr => InAt w dk k n V3.heap.size W2.heap.size j I (.slice A0 j c0) mm wr) (fun mm _ => (intOf mm).toNat)
      case atStart => exact ⟨1 + m4, _, _, _, _, _, wd, F, by first | rfl | go_num | simp, by omega, L4.out, SP4.out, X4.out, I4.out, by omega, by omega, inc_new (by omega) (by omega) (by omega) (by omega) (fun f hf => by rcases HFR.out f hf with h | ⟨h, _⟩ <;> omega), HALL.out, HAR.out, FullR.none _, fun f hf => by
        rcases HFR.out f hf with h | h
        · exact .inl h
        · exact .inr (.inl h)⟩
      case round =>
        obtain ⟨mt, i0, i1, i2, i3, i4, wd5, F5, rfl, hmt, hL, hSP, hX, hI, hlo, hhi, hinc, hall, har, hful, hfr⟩ := hrel
        have HINC := Lib.hid hinc
        have HALL5 := Lib.hid hall
        have HAR5 := Lib.hid har
        have HFUL5 := Lib.hid hful
        have HFR5 := Lib.hid hfr
        clear hinc hall har hful hfr
        clear L4 SP4 X4 I4
        obtain ⟨A5, c5, g5, c5', hS, hO, hT, hV, hD, hG⟩ := hSP
        have q0 := hS.cell 0
        have q1 := hS.cell 1
        have q2 := hS.cell 2
        have i0' := hI.cell 0
        have i1' := hI.cell 1
        have i2' := hI.cell 2
        have i3' := hI.cell 3
        have i4' := hI.cell 4
        simp at q0 q1 q2 i0' i1' i2' i3' i4'
        by_cases hm : 0 < mt
        · have hm' : 0 < (mt : Int) := by omega
          have HL := Lib.hid hL
          have HX := Lib.hid hX
          have HI := Lib.hid hI
          have HS := Lib.hid hS
          have HO := Lib.hid hO
          have HT := Lib.hid hT
          have HV := Lib.hid hV
          have HD := Lib.hid hD
          have HG := Lib.hid hG
          go_wp2_with fail
          clear hL hX hI hS hO hT hV hD hG q0 q1 q2 i0' i1' i2' i3' i4'
          refine (grown_any dk w.heap.size k (n * 2 ^ k) n c5 g5 c5' A5 wd5 F5 i0 i1 i2 i3 i4 wr hlt HG.out.size HD.out HO.out HT.out HV.out HINC.out).mono ?_
          rintro e W5 ⟨A6, c6, g6, c6', wd6, F6, n0', n1', n2', n3', n4', rfl, hO, hT, hV, hD, hG, hn0, hn1, hinc', hkp, hown', hoth'⟩
          have HINC' := Lib.hid hinc'
          have HALL6 := Lib.hid (HALL5.out.keeps hkp HV.out.1.fv (by rw [HIL.out]; exact hlo))
          have HAR6 := Lib.hid (HAR5.out.keeps HALL5.out hoth' (by rw [HIL.out]; exact hlo))
          have HFUL6 := Lib.hid (hown' HFUL5.out)
          have HFR6 := Lib.hid (show ∀ f, f < n → (F6 f).ow = -1 ∨ ((F6 f).ow < 3 * (j : Int) ∧ OwnI I (F6 f).ow) ∨ (F6 f).ow = n0' from fun f hf => by
            have h1 := HFR5.out f hf
            rcases hkp.2 f with h | h
            · rw [h, hn0]; exact h1
            · exact .inr (.inr (by rw [h, hn0])))
          have HN0 := Lib.hid hn0
          clear hn0 hn1 hinc' hkp hown' hoth'
          have HL5 := Lib.hid (HL.out.turn hG (by omega))
          have HX5 := Lib.hid (HX.out.turn hG (by omega))
          have HI5 := Lib.hid (HI.out.turn hG (by omega))
          have HS5 := Lib.hid (HS.out.turn hG (by omega))
          have HG5 := Lib.hid (turn_trans HG.out hG)
          have HO5 := Lib.hid hO
          have HT5 := Lib.hid hT
          have HV5 := Lib.hid hV
          have HD5 := Lib.hid hD
          clear HL HX HI HS HO HT HV HD HG hO hT hV hD hG
          have q0 := HS5.out.cell 0
          have q1 := HS5.out.cell 1
          have q2 := HS5.out.cell 2
          have i0' := HI5.out.cell 0
          have i1' := HI5.out.cell 1
          have i2' := HI5.out.cell 2
          have i3' := HI5.out.cell 3
          have i4' := HI5.out.cell 4
          have f0 := HS5.out.frozen 0
          have f1 := HS5.out.frozen 1
          have f2 := HS5.out.frozen 2
          have e0 := HI5.out.frozen 0
          have e1 := HI5.out.frozen 1
          have e2 := HI5.out.frozen 2
          have e3 := HI5.out.frozen 3
          have e4 := HI5.out.frozen 4
          simp at q0 q1 q2 i0' i1' i2' i3' i4'
          have zs : V3.heap.size < W5.heap.size := HS5.out.lt
          have zi : W2.heap.size < W5.heap.size := HI5.out.lt
          have s1 : IntKind.i64.wrap ((mt : Int) - 1) = ((mt - 1 : Nat) : Int) := by rw [IntWalk.i64_in _ (by omega)]; omega
          go_wp2_with fail
          have hne : V3.heap.size ≠ W2.heap.size := by omega
          refine ⟨⟨mt - 1, n0', n1', n2', n3', n4', wd6, F6, rfl, by omega, HL5.out.put8 (by omega) (by omega) _ _ _ _ _ _ _ _,
            ⟨A6, c6, g6, c6', HS5.out.first8 hne _ _ _ _ _ _ _ _, HO5.out.box8 HS5.out HI5.out (by decide) (by decide) hne _ _ _ _ _ _ _ _, HT5.out.box8 HS5.out HI5.out (by decide) (by decide) hne _ _ _ _ _ _ _ _, HV5.out,
              HD5.out.put8 (by omega) (by omega) _ _ _ _ _ _ _ _, turn_put8 HG5.out (by omega) (by omega) _ _ _ _ _ _ _ _⟩,
            HX5.out.far8 (by omega) (by omega) _ _ _ _ _ _ _ _, HI5.out.second8 hne _ _ _ _ _ _ _ _, by rw [HN0.out]; exact hlo, by rw [HN0.out]; exact hhi, HINC'.out, HALL6.out, HAR6.out, HFUL6.out, HFR6.out⟩, by simp [intOf]; omega⟩
        · obtain rfl : mt = 0 := by omega
          have hSP : SpAt w dk w.heap.size k n V3.heap.size wd5 F5 wr := ⟨A5, c5, g5, c5', hS, hO, hT, hV, hD, hG⟩
          have HL := Lib.hid hL
          have HX := Lib.hid hX
          have HI := Lib.hid hI
          have HSP := Lib.hid hSP
          have zi : W2.heap.size < wr.heap.size := hI.lt
          have s1 : IntKind.i64.wrap ((t : Int) - 1) = ((t - 1 : Nat) : Int) := by rw [IntWalk.i64_in _ (by omega)]; omega
          clear hL hSP hX hI hS hO hT hV hD hG q0 q1 q2
          by_cases hi4 : 0 < i4
          · obtain ⟨i0', hi0', hz0, hz1, hz2⟩ := info_parts inc_info
            obtain ⟨hxs, hbx⟩ := HL.out
            have HXS := Lib.hid hxs
            have HBX := Lib.hid hbx
            clear hxs hbx
            go_wp2_with (at_builtin; refine wpList_append_own _ rfl _ _ 34 rfl (V3.heap.size + 1) 51 i0' (.agg #[.int .i64 0, .int .i64 0, .int .i64 0, .int .i64 0, .int .i64 0]) 5 40 Try.underlying34 hi0' hz0 hz1 hz2 rfl (by decide) _ j (incCells I) rfl (HXS.out.alloc _) ⟨wr.heap.size, 0, none⟩ 1 1 [.int .i64 i0, .int .i64 i1, .int .i64 i2, .int .i64 i3, .int .i64 i4] rfl rfl ?c1 (by simp [Value.oneCell']) (by simp only [maxLen]; omega) (by omega) ?c5 ?_)
            case c1 => exact five_news (by go_simp) (by go_simp) (by go_simp) (by go_simp) (by go_simp)
            case c5 => simp; omega
            intro v' w1 hown' hgrow _
            obtain ⟨U, hU⟩ : ∃ U, U = wr.alloc (.cells #[.int .i64 i0, .int .i64 i1, .int .i64 i2, .int .i64 i3, .int .i64 i4] 51) := ⟨_, rfl⟩
            rw [← hU] at hgrow
            have hbu : Below wr.heap.size wr U := by rw [hU]; exact (Below.refl _ _).alloc (Nat.le_refl _) _
            have hr : ∀ b, (Value.slice A0 j c0).ownBlock = some b → V3.heap.size < b := row_block HXS.out
            have ht : ∀ b, (Value.slice A0 j c0).ownBlock = some b → ∃ cs, Blk U b 51 cs := fun b hb => by
              obtain ⟨cs, hh⟩ := row_type HXS.out b hb
              exact ⟨cs, hh.next hbu⟩
            have HL1 := Lib.hid (row_of hown' rfl)
            have HSP1 := Lib.hid ((HSP.out.next hlt (by omega) hbu).row hlt hsb hgrow hr ht)
            have HX1 := Lib.hid ((HX.out.next hbu).row hgrow (fun e => by have := hr _ e; omega))
            have hs1 : wr.heap.size ≤ w1.heap.size := Nat.le_trans hbu.size hgrow.size
            clear hU hbu hr ht hown' hgrow HL HSP HX HI HXS HBX hi0' hz0 hz1 hz2
            go_wp2
            exact ⟨⟨t - 1, j + 1, I ++ [⟨i0, i1, i2, i3, i4⟩], wd5, F5, rfl, by omega, by rw [incCells_snoc]; exact HL1.out, HSP1.out, HX1.out, by omega, by rw [List.length_append, HIL.out]; rfl, HALL5.out.snoc HINC.out hi4 (by rw [HIL.out]; exact hlo) (by rw [HIL.out]; exact hhi), HAR5.out.snoc HFUL5.out, fun f hf => by
              rcases HFR5.out f hf with h | ⟨h, h'⟩ | h
              · exact .inl h
              · exact .inr ⟨by omega, h'.more _⟩
              · exact .inr ⟨by omega, OwnI.last h.symm⟩⟩, by simp [intOf]; omega⟩
          · have HNO := Lib.hid (show ∀ f, f < n → (F5 f).ow = -1 ∨ ((F5 f).ow < 3 * (j : Int) ∧ OwnI I (F5 f).ow) from fun f hf => by
              obtain ⟨_, _, _, _, W', hw', _, hc'⟩ := HINC.out
              have hW0 : W' = 0 := by omega
              rw [hW0, ceilV_zero] at hc'
              have h1 := cntO_zero hc' f hf
              rcases HFR5.out f hf with h2 | h2 | h2
              · exact .inl h2
              · exact .inr h2
              · exact absurd h2 h1)
            go_wp2_with fail
            exact ⟨⟨t - 1, j, I, wd5, F5, rfl, by omega, HL.out.more (by omega), HSP.out, HX.out, by omega, HIL.out, HALL5.out, HAR5.out, HNO.out⟩, by simp [intOf]; omega⟩
    · obtain rfl : t = 0 := by omega
      obtain ⟨A9, c9, g9, c9', bs, o9, t9, v9, d9, r9⟩ := HSP.out
      have q0 := bs.cell 0
      have q1 := bs.cell 1
      have q2 := bs.cell 2
      have x0 := HX.out.cell 0
      have x1 := HX.out.cell 1
      have x2 := HX.out.cell 2
      have f0 := HX.out.frozen 0
      have f1 := HX.out.frozen 1
      have f2 := HX.out.frozen 2
      simp at q0 q1 q2 x0 x1 x2
      have zx : w.heap.size < wr.heap.size := HX.out.lt
      go_wp2
      refine bodyPost_ret (v := .tuple #[.agg #[.int .i64 k, .slice A9 (n * 2 ^ k) c9, .slice (some ⟨g9, 0, none⟩) n c9'], .slice A0 j c0]) (by simp [results, Try.results9, go_sem, x0, x1, x2]) rfl ⟨k, n, A9, c9, g9, c9', wd, F, _, rfl, k0, k1, n0, n1, ?_, ?_, v9, ⟨?_, I, V3.heap.size + 1, by omega, ?_, HALL.out, HAR.out, fun f hf => (HFR.out f hf).imp id And.right⟩, ?_⟩
      · exact ((o9.box HX.out (by decide) 0 _).box (HX.out.set_ 0 _) (by decide) 1 _).box ((HX.out.set_ 0 _).set_ 1 _) (by decide) 2 _
      · exact ((t9.box HX.out (by decide) 0 _).box (HX.out.set_ 0 _) (by decide) 1 _).box ((HX.out.set_ 0 _).set_ 1 _) (by decide) 2 _
      · exact ((d9.far hlt _).far hlt _).far hlt _
      · rw [HIL.out]
        exact (((HL.out.far (p := ⟨w.heap.size, 0, none⟩) (.inl (by show w.heap.size < _; omega)) _).far (p := ⟨w.heap.size, 1, none⟩) (.inl (by show w.heap.size < _; omega)) _).far (p := ⟨w.heap.size, 2, none⟩) (.inl (by show w.heap.size < _; omega)) _).more (by simp)
      · exact turn_new (turn_new (turn_new r9 _ (Nat.le_refl _) _) _ (Nat.le_refl _) _) _ (Nat.le_refl _) _
theorem spaceX_any (dk : Nat) (w : World) (hd : DeckP w dk) : Calls Try.prog 9 #[.pointer (some ⟨dk, 0, none⟩)] w (SpaceX dk w) :=
  (spaceY_any dk w hd).mono fun e w' ⟨k, n, A, c, g, c', wd, F, L, h1, h2, h3, h4, h5, h6, h7, h8, ⟨h9, I, B, h10, h11, h12, h14, _⟩, h13⟩ => ⟨k, n, A, c, g, c', wd, F, L, h1, h2, h3, h4, h5, h6, h7, h8, ⟨h9, I, B, h10, h11, h12, h14⟩, h13⟩
theorem space_any (dk : Nat) (w : World) (hd : DeckP w dk) : Calls Try.prog 9 #[.pointer (some ⟨dk, 0, none⟩)] w (SpaceOf dk w) :=
  (spaceX_any dk w hd).mono fun e w' ⟨k, n, A, c, g, c', wd, F, L, h1, h2, h3, h4, h5, h6, h7, h8, ⟨h9, I, B, h10, h11, h12, _⟩, h13⟩ => ⟨k, n, A, c, g, c', wd, F, L, h1, h2, h3, h4, h5, h6, h7, h8, ⟨h9, I, B, h10, h11, h12⟩, h13⟩

end Go.Proofs.Ytjkbjbikofindaa

namespace Go.Proofs.Ytjkbjbikofindaa
open Go.RowKit
set_option maxRecDepth 100000
set_option linter.unusedVariables false

/-- The cells of an increment in a list of them. -/
theorem incCells_get : ∀ (I : List IncR) (t : Nat) (i : IncR), I[t]? = some i →
    (incCells I)[t * 5]? = some (.int .i64 i.sq) ∧ (incCells I)[t * 5 + 1]? = some (.int .i64 i.bt) ∧ (incCells I)[t * 5 + 2]? = some (.int .i64 i.fi) ∧ (incCells I)[t * 5 + 3]? = some (.int .i64 i.la) ∧ (incCells I)[t * 5 + 4]? = some (.int .i64 i.wo)
  | [], t, i, h => by simp at h
  | x :: I, 0, i, h => by
    simp at h
    subst h
    exact ⟨rfl, rfl, rfl, rfl, rfl⟩
  | x :: I, t + 1, i, h => by
    have ih := incCells_get I t i (by simpa using h)
    have e : incCells (x :: I) = [.int .i64 x.sq, .int .i64 x.bt, .int .i64 x.fi, .int .i64 x.la, .int .i64 x.wo] ++ incCells I := rfl
    have key : ∀ d, (incCells (x :: I))[(t + 1) * 5 + d]? = (incCells I)[t * 5 + d]? := fun d => by
      rw [e, List.getElem?_append_right (by simp; omega)]
      congr 1
      simp
      omega
    exact ⟨(key 0).trans ih.1, (key 1).trans ih.2.1, (key 2).trans ih.2.2.1, (key 3).trans ih.2.2.2.1, (key 4).trans ih.2.2.2.2⟩
theorem lrow_cells {w : World} {B ib : Nat} {L : Value} {I : List IncR} (h : LRow w B ib I.length L (incCells I)) {t : Nat} {i : IncR} (ht : I[t]? = some i) :
    ∃ g cap, L = .slice (some ⟨g, 0, none⟩) I.length cap ∧ B ≤ g ∧ g < ib ∧ g < w.heap.size ∧ w.cell? ⟨g, t * 5, none⟩ = some (.int .i64 i.sq) ∧ w.cell? ⟨g, t * 5 + 1, none⟩ = some (.int .i64 i.bt) ∧ w.cell? ⟨g, t * 5 + 2, none⟩ = some (.int .i64 i.fi) ∧
      w.cell? ⟨g, t * 5 + 3, none⟩ = some (.int .i64 i.la) ∧ w.cell? ⟨g, t * 5 + 4, none⟩ = some (.int .i64 i.wo) := by
  obtain ⟨⟨hl, h⟩, hib⟩ := h
  have htl : t < I.length := by
    rcases Nat.lt_or_ge t I.length with h1 | h1
    · exact h1
    · rw [List.getElem?_eq_none h1] at ht; cases ht
  rcases h with ⟨_, h0⟩ | ⟨g, cap, cur, rfl, hb, hg, hc, hm, hs, htk⟩
  · omega
  · obtain ⟨c0, c1, c2, c3, c4⟩ := incCells_get I t i ht
    have key : ∀ (d : Nat) (v : Value), d < 5 → (incCells I)[t * 5 + d]? = some v → w.cell? ⟨g, t * 5 + d, none⟩ = some v := by
      intro d v hd hv
      rw [← htk, List.getElem?_take, if_pos (by omega)] at hv
      rw [cell_row hg]
      simpa using hv
    exact ⟨g, cap, rfl, hb, hib g rfl, blk_lt hg, key 0 _ (by omega) c0, key 1 _ (by omega) c1, key 2 _ (by omega) c2, key 3 _ (by omega) c3, key 4 _ (by omega) c4⟩
theorem allP_len {F : Nat → Fr} {n k : Nat} {I : List IncR} (h : AllP F n k I) : I.length ≤ 17 := by
  rcases Nat.lt_or_ge 17 I.length with h1 | h1
  · obtain ⟨h2, _, h3, _⟩ := h 17 I[17] (by rw [List.getElem?_eq_getElem h1])
    have := h2.2.1
    omega
  · exact h1
/-- The chain of an increment that is well. -/
theorem inc_chain {F : Nat → Fr} {n k : Nat} {i : IncR} (h : IncP F n k i.sq i.bt i.fi i.la i.wo) (hw : 0 < i.wo) (hv : FV F n) : ∃ p : Nat, i.fi = p ∧ p < n ∧ (F p).ow ≠ -1 ∧ ∃ m, LenP F p m ∧ 0 < m ∧ m ≤ n + 1 := by
  obtain ⟨h1, h2, h3, h4, W, hW, hc, _⟩ := h
  have hpos : 0 < ceilV W k := by
    have h5 := ceilV_cover W k
    rcases Nat.eq_zero_or_pos (ceilV W k) with e | e
    · rw [e] at h5; omega
    · exact e
  rcases hc with ⟨h5, _⟩ | ⟨_, p, l, hf, hp, hla, hl, hi, hx, hpo, hps⟩
  · omega
  · refine ⟨p, hf, hp, by omega, ?_⟩
    obtain ⟨m, hm, hlen⟩ := hv.len hp
    exact ⟨m, hlen, hlen.pos, hm⟩

end Go.Proofs.Ytjkbjbikofindaa
