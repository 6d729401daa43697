/-
  What growing needs: stamps and links; contracts of package bump: clone, appendFrames. (Made by mkapp-s9.py.)
-/
import Derived.Test.YthcfcciemjkilaaDoorBmp
import Derived.Test.YthcfcciemjkilaaDoorMPoolw
import Derived.Test.YthcfcciemjkilaaDoorMLink
import Derived.Deep.RegionHeld3
import Derived.Deep.DeepCutAuto
namespace Go.Proofs.YthcfcciemjkilaaDoor
open Go.RowKit
set_option maxRecDepth 100000
set_option linter.unusedVariables false

theorem nodup_len : ∀ (a b : List Nat), a.Nodup → (∀ x ∈ a, x ∈ b) → a.length ≤ b.length
  | [], b, _, _ => by simp
  | x :: a, b, h, hs => by
    rw [List.nodup_cons] at h
    have hx : x ∈ b := hs x (by simp)
    have ih := nodup_len a (b.erase x) h.2 (fun y hy => (List.mem_erase_of_ne (fun e => by subst e; exact h.1 hy)).2 (hs y (by simp [hy])))
    rw [List.length_erase_of_mem hx] at ih
    have := List.length_pos_of_mem hx
    simp
    omega
theorem nodup_all {a b : List Nat} (h : a.Nodup) (hs : ∀ x ∈ a, x ∈ b) (hl : b.length ≤ a.length) : ∀ x ∈ b, x ∈ a := by
  intro x hx
  rcases Classical.em (x ∈ a) with h1 | h1
  · exact h1
  · have := nodup_len (x :: a) b (List.nodup_cons.2 ⟨h1, h⟩) (fun y hy => by
      rcases List.mem_cons.1 hy with rfl | h2
      · exact hx
      · exact hs y h2)
    simp at this
    omega
theorem cntO_cntP (F : Nat → Fr) (o : Int) : ∀ t, cntO F o t = cntP (owB F o) t
  | 0 => rfl
  | t + 1 => by
    simp only [cntO, cntP, cntO_cntP F o t]
    by_cases h : (F t).ow = o
    · rw [if_pos h, owB_yes h]; rfl
    · rw [if_neg h, owB_no h]; rfl
theorem freeN_cntP (F : Nat → Fr) : ∀ t, freeN F t = cntP (owB F (-1)) t
  | 0 => rfl
  | t + 1 => by
    simp only [freeN, cntP, freeN_cntP F t]
    by_cases h : (F t).ow = -1
    · rw [if_pos h, owB_yes h]; rfl
    · rw [if_neg h, owB_no h]; rfl
/-- All frames of an owner have one stamp. -/
def StampP (F : Nat → Fr) (n : Nat) (sq st : Int) : Prop := ∀ f, f < n → (F f).ow = sq → (F f).st = st
theorem StampP.lift {F : Nat → Fr} {n f : Nat} {sq st : Int} (h : StampP F n sq st) : StampP (lift F f sq st) n sq st := by
  intro j hj ho
  by_cases e : j = f
  · subst e; rw [lift_same]
  · rw [lift_other e] at ho ⊢; exact h j hj ho
theorem StampP.link {F : Nat → Fr} {n l : Nat} {sq st f : Int} (h : StampP F n sq st) : StampP (link F l f) n sq st := by
  intro j hj ho
  by_cases e : j = l
  · subst e; rw [link_same] at ho ⊢; exact h _ hj ho
  · rw [link_other e] at ho ⊢; exact h j hj ho
/-- The frames of a chain are all frames of its owner where they are as many. -/
theorem chain_all {F : Nat → Fr} {n m : Nat} {fi la sq st : Int} (hv : FV F n) (hst : stB st sq = true) (hc : ChainP F n fi la m sq st) (hm : cntO F sq n = m) {f : Nat} (hf : f < n) (ho : (F f).ow = sq) : ∃ i, i < m ∧ iter F i fi = f := by
  have hpos : 0 < m := by
    rw [← hm, cntO_cntP, ← lstP_length]
    have : f ∈ lstP (owB F sq) n := (mem_lstP _ _ _).2 ⟨hf, owB_yes ho⟩
    exact List.length_pos_of_mem this
  rcases hc with ⟨h0, _⟩ | ⟨_, p, l, rfl, hp, hla, hl, h6, h7, h8, h9⟩
  · omega
  · have hc : ChainP F n p la m sq st := .inr ⟨hpos, p, l, rfl, hp, hla, hl, h6, h7, h8, h9⟩
    have hlen : LenP F p m := ⟨hc.end_ hpos, fun i hi he => by obtain ⟨q, hq1, _⟩ := hc.at_ hv hst hi; omega⟩
    have hbnd := hlen.bound hv rfl hp
    have hnd : (chL F n p).Nodup := by
      refine List.pairwise_iff_getElem.2 fun i j hi hj hij e => ?_
      have gi := List.getElem?_eq_getElem hi
      have gj := List.getElem?_eq_getElem hj
      rw [chL_length hlen hbnd] at hj
      rw [chL_get hv hp hlen (show i < m by omega)] at gi
      rw [chL_get hv hp hlen hj] at gj
      have e2 : (iter F i p).toNat = (iter F j p).toNat := (Option.some.inj gi).trans (e.trans (Option.some.inj gj).symm)
      have h1 := (hv.nonneg hp (hlen.2 i (by omega))).1
      have h2 := (hv.nonneg hp (hlen.2 j hj)).1
      exact lenP_inj hlen hij hj (by omega)
    have hsub : ∀ x ∈ chL F n p, x ∈ lstP (owB F sq) n := by
      intro x hx
      obtain ⟨i, hi, e⟩ := (mem_chL' hv hp hlen x).1 hx
      obtain ⟨q, hq1, hq2, hq3, _⟩ := hc.at_ hv hst hi
      obtain rfl : q = x := by omega
      exact (mem_lstP _ _ _).2 ⟨hq2, owB_yes hq3⟩
    have hlen2 : (lstP (owB F sq) n).length ≤ (chL F n p).length := by
      rw [lstP_length, ← cntO_cntP, hm, chL_length hlen hbnd]
      exact Nat.le_refl _
    have h3 := nodup_all hnd hsub hlen2 f ((mem_lstP _ _ _).2 ⟨hf, owB_yes ho⟩)
    exact (mem_chL' hv hp hlen f).1 h3
theorem cntO_not {F : Nat → Fr} {o : Int} {n : Nat} (h : cntO F o n = 0) {f : Nat} (hf : f < n) : (F f).ow ≠ o := by
  intro e
  rw [cntO_cntP, ← lstP_length] at h
  have : f ∈ lstP (owB F o) n := (mem_lstP _ _ _).2 ⟨hf, owB_yes e⟩
  have := List.length_pos_of_mem this
  omega
/-- The stamps of an increment that fits. -/
theorem fits_stamp {k n nw : Nat} {F : Nat → Fr} {sq bt fi la wo : Int} (hv : FV F n) (h : FitsQ k n nw F sq bt fi la wo) (h0 : wo = 0 → cntO F sq n = 0) : StampP F n sq (bt * 4294967296 + sq) := by
  intro f hf ho
  have hst := fits_stB h.1
  obtain ⟨⟨_, _, _, _, W, hW, _, hc, _⟩, h2⟩ := h
  by_cases hw : wo = 0
  · exact absurd ho (cntO_not (h0 hw) hf)
  · have h3 := h2 (by omega)
    subst hW
    rw [Int.toNat_natCast] at h3
    obtain ⟨i, hi, e⟩ := chain_all hv hst hc (by omega) hf ho
    obtain ⟨q, hq1, _, _, hq4⟩ := hc.at_ hv hst hi
    obtain rfl : q = f := by omega
    exact hq4
/-- What a link needs when a frame has just been taken. -/
theorem link_free_ok {F : Nat → Fr} {n m p l f : Nat} {sq st : Int} (hv : FV F n) (hst : stB st sq = true) (hm : 0 < m) (hc : ChainP F n p l m sq st) (hf : Least F n f) : l < n ∧ lnkB (lift F f sq st) n l f = false := by
  have hff := hv.free hf.1 hf.2.1
  have hso : sq ≠ -1 := by have := (stB_yes hst).1; omega
  obtain ⟨q, hq1, hq2, hq3, hq4⟩ := hc.at_ hv hst (show m - 1 < m by omega)
  rcases hc with ⟨h0, _⟩ | ⟨_, p', l', h7, hp, h8, hl, h9, h10, _⟩
  · omega
  · obtain rfl : p = p' := by omega
    obtain rfl : l = l' := by omega
    obtain rfl : l = q := by omega
    have hlf : l ≠ f := fun e => by subst e; rw [hff] at hq3; exact hso hq3.symm
    have hv2 := lift_fv hv hff hst
    refine ⟨hl, ?_⟩
    have h1 : (lift F f sq st l).ow = sq := by rw [lift_other hlf]; exact hq3
    have h2 : (lift F f sq st l).st = (lift F f sq st f).st := by rw [lift_other hlf, lift_same]; exact hq4
    have h3 : (lift F f sq st l).nx = -1 := by rw [lift_other hlf]; exact h10
    have h4 : fol (lift F f sq st) n f = false := by
      cases e : fol (lift F f sq st) n f with
      | false => rfl
      | true =>
        exfalso
        obtain ⟨j, hj, e2⟩ := (fol_iff _ n f).1 e
        rw [lift_nx hff] at e2
        rcases hv.1 j hj with h5 | h5
        · rw [h5] at e2; exact absurd e2 (by show ¬ (-1 : Int) = f; omega)
        · rcases (ownB_yes h5).2 with h6 | ⟨g, h6, h7, _, h8, _⟩
          · omega
          · obtain rfl : g = f := by omega
            rw [hff] at h8
            have := ownB_pos h5
            rw [← h8] at this
            exact absurd this (by decide)
    rw [lnkB_rest (by rw [h1]; exact hso) h2 h3 h4]
    refine decide_eq_false fun hin => ?_
    obtain ⟨i, hi, e⟩ := (mem_chL hv2 hf.1 l).1 hin
    rcases i with _ | i
    · simp only [iter] at e; omega
    · simp only [iter] at e
      rw [if_neg (by omega), Int.toNat_natCast, lift_same, iter_none] at e
      omega

set_option maxHeartbeats 1000000 in
theorem clone9_any (k : Int) (A A' : Option Addr) (nw c n c' : Nat) (wd : Nat → Int) (F : Nat → Fr) (w : World) (hA : Arr w w.heap.size A nw c wd) (hT : Tab w w.heap.size A' n c' F) (hn : n ≤ 4096) (hn0 : 0 < n) (hw : nw ≤ 1048576) (hw0 : 0 < nw) :
    Calls Tryd.prog 29 #[.agg #[.int .i64 k, .slice A nw c, .slice A' n c']] w (CopyOf k nw n wd F w) := by
  obtain ⟨b, o, rfl, hbb⟩ := hT.base_ hn0
  obtain ⟨b', o', rfl, hbb', _⟩ := hA.at_ 0 hw0
  have HA := Lib.hid hA
  have HT := Lib.hid hT
  obtain ⟨U, hU⟩ : ∃ U, U = (w.alloc (.cells #[.int .i64 k, .slice (some ⟨b', o', none⟩) nw c, .slice (some ⟨b, o, none⟩) n c'] 30)).alloc (.cells #[.int .i64 0, .slice none 0 0, .slice none 0 0] 30) := ⟨_, rfl⟩
  have BU : Blk U w.heap.size 30 #[.int .i64 k, .slice (some ⟨b', o', none⟩) nw c, .slice (some ⟨b, o, none⟩) n c'] := by rw [hU]; exact (Blk.new _ _ _).alloc _
  have BR : Blk U (w.heap.size + 1) 30 #[.int .i64 0, .slice none 0 0, .slice none 0 0] := by rw [hU]; exact Blk.newAt _ _ _ _ (by simp)
  have HBU : Hid (Below w.heap.size w U) := by rw [hU]; exact ((Below.refl _ _).alloc (Nat.le_refl _) _).alloc (by simp) _
  have HU := Lib.hid hU
  have p0 := BU.cell 0
  have p1 := BU.cell 1
  have p2 := BU.cell 2
  simp at p0 p1 p2
  have z1 : w.heap.size < U.heap.size := BU.lt
  have z2 : w.heap.size + 1 < U.heap.size := BR.lt
  have hau : Arr U U.heap.size (some ⟨b', o', none⟩) nw c wd := HA.out.next HBU.out
  have HAD : Hid (Arr U.drew U.drew.heap.size (some ⟨b', o', none⟩) nw c wd) := hau
  clear hau
  have htu : Tab U U.heap.size (some ⟨b, o, none⟩) n c' F := HT.out.next HBU.out
  have HTD : Hid (Tab U.drew U.drew.heap.size (some ⟨b, o, none⟩) n c' F) := htu
  clear htu
  have BRD : Blk U.drew (w.heap.size + 1) 30 #[.int .i64 0, .slice none 0 0, .slice none 0 0] := BR
  clear hA hT hU
  go_enter Tryd.func29, Tryd.ntmps29
  go_wp2
  rw [← HU.out]
  go_region_held3 (fun w' => w'.cell? ⟨w.heap.size, 0, none⟩ = some (.int .i64 k) ∧ w'.cell? ⟨w.heap.size, 1, none⟩ = some (.slice (some ⟨b', o', none⟩) nw c) ∧ w'.cell? ⟨w.heap.size, 2, none⟩ = some (.slice (some ⟨b, o, none⟩) n c'))
    (first | exact ⟨p0, p1, p2⟩ | exact ⟨a0, a1, a2⟩ | exact ⟨b0, b1, b2⟩ | go_keep)
    (first
      | (go_at_call 44; refine (clonew_any b' o' nw c wd _ HAD.out hw hw0).mono ?_; rintro e wa ⟨A1, c1, rfl, ho, hba⟩; have a0 := (hba.cell (p := ⟨w.heap.size, 0, none⟩) z1).trans p0; have a1 := (hba.cell (p := ⟨w.heap.size, 1, none⟩) z1).trans p1; have a2 := (hba.cell (p := ⟨w.heap.size, 2, none⟩) z1).trans p2; have za : w.heap.size < wa.heap.size := Nat.lt_of_lt_of_le z1 hba.size; have Ba := BRD.next hba; have zRa := Ba.lt; have ra0 := Ba.cell 0; have ra1 := Ba.cell 1; have ra2 := Ba.cell 2; simp at ra0 ra1 ra2; have fa0 := Ba.frozen 0; have fa1 := Ba.frozen 1; have fa2 := Ba.frozen 2)
      | (go_at_call 44; refine (clonew_any b' o' nw c wd _ (HAD.out.next hbb2) hw hw0).mono ?_; rintro e wa ⟨A1, c1, rfl, ho, hba⟩; have a0 := (hba.cell (p := ⟨w.heap.size, 0, none⟩) zb).trans b0; have a1 := (hba.cell (p := ⟨w.heap.size, 1, none⟩) zb).trans b1; have a2 := (hba.cell (p := ⟨w.heap.size, 2, none⟩) zb).trans b2; have za : w.heap.size < wa.heap.size := Nat.lt_of_lt_of_le zb hba.size; have Ba := Bb.next hba; have zRa := Ba.lt; have ra0 := Ba.cell 0; have ra1 := Ba.cell 1; have ra2 := Ba.cell 2; simp at ra0 ra1 ra2; have fa0 := Ba.frozen 0; have fa1 := Ba.frozen 1; have fa2 := Ba.frozen 2)
      | (go_at_call 45; refine (clonef_any b o n c' F _ HTD.out hn hn0).mono ?_; rintro e wb ⟨gt, ct, rfl, htab, hbb2⟩; have b0 := (hbb2.cell (p := ⟨w.heap.size, 0, none⟩) z1).trans p0; have b1 := (hbb2.cell (p := ⟨w.heap.size, 1, none⟩) z1).trans p1; have b2 := (hbb2.cell (p := ⟨w.heap.size, 2, none⟩) z1).trans p2; have zb : w.heap.size < wb.heap.size := Nat.lt_of_lt_of_le z1 hbb2.size; have Bb := BRD.next hbb2; have zRb := Bb.lt; have rb0 := Bb.cell 0; have rb1 := Bb.cell 1; have rb2 := Bb.cell 2; simp at rb0 rb1 rb2; have fb0 := Bb.frozen 0; have fb1 := Bb.frozen 1; have fb2 := Bb.frozen 2)
      | (go_at_call 45; refine (clonef_any b o n c' F _ (HTD.out.next hba) hn hn0).mono ?_; rintro e wb ⟨gt, ct, rfl, htab, hbb2⟩; have b0 := (hbb2.cell (p := ⟨w.heap.size, 0, none⟩) za).trans a0; have b1 := (hbb2.cell (p := ⟨w.heap.size, 1, none⟩) za).trans a1; have b2 := (hbb2.cell (p := ⟨w.heap.size, 2, none⟩) za).trans a2; have zb : w.heap.size < wb.heap.size := Nat.lt_of_lt_of_le za hbb2.size; have Bb := Ba.next hbb2; have zRb := Bb.lt; have rb0 := Bb.cell 0; have rb1 := Bb.cell 1; have rb2 := Bb.cell 2; simp at rb0 rb1 rb2; have fb0 := Bb.frozen 0; have fb1 := Bb.frozen 1; have fb2 := Bb.frozen 2))
  have hud : Below w.heap.size w U.drew := HBU.out.drew
  have HBB := Lib.hid (below_next (below_next hud (Nat.le_refl _) hba) (Nat.le_refl _) hbb2)
  have hur : U.drew.heap.size ≤ wa.heap.size := hba.size
  have z3 : w.heap.size + 1 < wa.heap.size := Nat.lt_of_lt_of_le z2 hur
  have HO2 := Lib.hid (ho.below hbb2)
  have HTA := Lib.hid htab
  clear ho htab hba hbb2 hud
  go_wp2
  refine bodyPost_ret (v := .agg #[.int .i64 k, .slice A1 nw c1, .slice (some ⟨gt, 0, none⟩) n ct]) (by simp [results, Tryd.results29, go_sem, rb0, rb1, rb2]) rfl ⟨_, _, _, _, rfl, ?_, ?_, ?_⟩
  · exact (HO2.out.put3 z2 _ _ _).lower (show w.heap.size ≤ U.drew.heap.size from Nat.le_of_lt z1)
  · exact (HTA.out.put3 z3 _ _ _).lower (Nat.le_of_lt za)
  · exact below_put3 HBB.out (by omega) _ _ _

theorem below_alloc9 {w w' : World} (h : Below w.heap.size w w') (o : Obj) : Below w.heap.size w (w'.alloc o) := h.alloc h.size o
theorem below_set9 {w w' : World} (h : Below w.heap.size w w') {p : Addr} (hp : w.heap.size ≤ p.block) (u : Value) : Below w.heap.size w (w'.setCell p u) := h.setCell hp u
theorem absorb9 {P Q : Prop} (h : P) (k : P → Q) : Q := k h
theorem Blk.drew9 {W : World} {b : Nat} {t : TypeId} {cs : Array Value} (h : Blk W b t cs) : Blk W.drew b t cs := h
/-- What appendFrames hands back. -/
def AppX (k nw n : Nat) (wd : Nat → Int) (sq bt : Int) (W : Nat) (x : GrS) (w : World) (e : Ending) (w' : World) : Prop :=
  ∃ (A1 : Option Addr) (c1 g c2 : Nat), e = .returned (.tuple #[.agg #[.int .i64 k, .slice A1 nw c1, .slice (some ⟨g, 0, none⟩) n c2], .agg #[.int .i64 sq, .int .i64 bt, .int .i64 x.fi, .int .i64 x.la, .int .i64 W]]) ∧
    Own w' w.heap.size A1 nw c1 wd ∧ OwnT w' w.heap.size (some ⟨g, 0, none⟩) n c2 x.F ∧ Below w.heap.size w w'
/-- What holds behind the first region: the copies in their boxes. -/
def AppCut (k nw n : Nat) (wd : Nat → Int) (F : Nat → Fr) (sq bt fi la : Int) (W : Nat) (U : World) (a b : Value) (wx : World) : Prop :=
  ∃ (bo bg : Nat) (A1 : Option Addr) (c1 g c2 : Nat), a = .pointer (some ⟨bo, 0, none⟩) ∧ b = .pointer (some ⟨bg, 0, none⟩) ∧ U.heap.size ≤ bo ∧ U.heap.size ≤ bg ∧ bo ≠ bg ∧ Blk wx bo 30 #[.int .i64 k, .slice A1 nw c1, .slice (some ⟨g, 0, none⟩) n c2] ∧
    Blk wx bg 35 #[.int .i64 sq, .int .i64 bt, .int .i64 fi, .int .i64 la, .int .i64 W] ∧ Own wx U.heap.size A1 nw c1 wd ∧ OwnT wx U.heap.size (some ⟨g, 0, none⟩) n c2 F ∧ Below U.heap.size U wx
/-- What holds while appendFrames takes frames; B: the heap's size ahead of the copies. -/
def AppAt (k nw n : Nat) (wd : Nat → Int) (F : Nat → Fr) (sq bt fi0 la0 : Int) (W K c0 : Nat) (U : World) (bo bg : Nat) (kk : Value) (wr : World) : Prop :=
  ∃ (t : Nat) (fi la : Int) (G : Nat → Fr) (A1 : Option Addr) (c1 g c2 : Nat), t ≤ K ∧ growG n sq (bt * 4294967296 + sq) t ⟨F, fi0, la0⟩ = ⟨G, fi, la⟩ ∧ kk = .int .i64 ((K - t : Nat) : Int) ∧ Grown_ F n k sq (bt * 4294967296 + sq) c0 (c0 + t) fi la G ∧ freeN G n + t = freeN F n ∧ StampP G n sq (bt * 4294967296 + sq) ∧
    Blk wr bo 30 #[.int .i64 k, .slice A1 nw c1, .slice (some ⟨g, 0, none⟩) n c2] ∧ Blk wr bg 35 #[.int .i64 sq, .int .i64 bt, .int .i64 fi, .int .i64 la, .int .i64 W] ∧
    Own wr U.heap.size A1 nw c1 wd ∧ OwnT wr U.heap.size (some ⟨g, 0, none⟩) n c2 G ∧ Below U.heap.size U wr
theorem Blk.set5 {w : World} {b : Nat} {t : TypeId} {a0 a1 a2 a3 a4 : Value} (h : Blk w b t #[a0, a1, a2, a3, a4]) (v0 v1 v2 v3 v4 : Value) : Blk (((((w.setCell ⟨b, 0, none⟩ v0).setCell ⟨b, 1, none⟩ v1).setCell ⟨b, 2, none⟩ v2).setCell ⟨b, 3, none⟩ v3).setCell ⟨b, 4, none⟩ v4) b t #[v0, v1, v2, v3, v4] :=
  ((((h.set_ 0 v0).set_ 1 v1).set_ 2 v2).set_ 3 v3).set_ 4 v4

section
variable {k nw n c1 g c2 W B : Nat} {wd : Nat → Int} {F : Nat → Fr} {sq bt fi la : Int} {U wn : World} {A1 : Option Addr} {a0 a1 a2 b0 b1 b2 b3 b4 : Value}
abbrev apS (k : Nat) (A1 : Option Addr) (nw c1 g n c2 : Nat) : Array Value := #[.int .i64 k, .slice A1 nw c1, .slice (some ⟨g, 0, none⟩) n c2]
abbrev apI (sq bt fi la : Int) (W : Nat) : Array Value := #[.int .i64 sq, .int .i64 bt, .int .i64 fi, .int .i64 la, .int .i64 W]
theorem Own.alloc9 {base : Nat} (h : Own wn base A1 nw c1 wd) (o : Obj) : Own (wn.alloc o) base A1 nw c1 wd := h.below ((Below.refl _ _).alloc (Nat.le_refl _) _)
theorem OwnT.alloc9 {base : Nat} (h : OwnT wn base A1 nw c1 F) (o : Obj) : OwnT (wn.alloc o) base A1 nw c1 F := h.below ((Below.refl _ _).alloc (Nat.le_refl _) _)
theorem Own.put5 {base b : Nat} (h : Own wn base A1 nw c1 wd) (hb : b < base) (v0 v1 v2 v3 v4 : Value) : Own (((((wn.setCell ⟨b, 0, none⟩ v0).setCell ⟨b, 1, none⟩ v1).setCell ⟨b, 2, none⟩ v2).setCell ⟨b, 3, none⟩ v3).setCell ⟨b, 4, none⟩ v4) base A1 nw c1 wd :=
  ((h.put3 hb _ _ _).far (p := ⟨b, 3, none⟩) hb _).far (p := ⟨b, 4, none⟩) hb _
theorem OwnT.put5 {base b : Nat} (h : OwnT wn base A1 nw c1 F) (hb : b < base) (v0 v1 v2 v3 v4 : Value) : OwnT (((((wn.setCell ⟨b, 0, none⟩ v0).setCell ⟨b, 1, none⟩ v1).setCell ⟨b, 2, none⟩ v2).setCell ⟨b, 3, none⟩ v3).setCell ⟨b, 4, none⟩ v4) base A1 nw c1 F :=
  ((h.put3 hb _ _ _).far (p := ⟨b, 3, none⟩) hb _).far (p := ⟨b, 4, none⟩) hb _
theorem below_put5 {a : World} {B b : Nat} (h : Below B a wn) (hb : B ≤ b) (v0 v1 v2 v3 v4 : Value) : Below B a (((((wn.setCell ⟨b, 0, none⟩ v0).setCell ⟨b, 1, none⟩ v1).setCell ⟨b, 2, none⟩ v2).setCell ⟨b, 3, none⟩ v3).setCell ⟨b, 4, none⟩ v4) :=
  ((below_put3 h hb _ _ _).setCell (p := ⟨b, 3, none⟩) hb _).setCell (p := ⟨b, 4, none⟩) hb _
theorem app_cut1 (hub : Below U.heap.size U wn) (ho : Own wn B A1 nw c1 wd) (ht : OwnT wn B (some ⟨g, 0, none⟩) n c2 F) (hB : U.heap.size ≤ B) :
    AppCut k nw n wd F sq bt fi la W U (.pointer (some ⟨wn.heap.size, 0, none⟩)) (.pointer (some ⟨wn.heap.size + 1, 0, none⟩)) ((wn.alloc (.cells (apS k A1 nw c1 g n c2) 30)).alloc (.cells (apI sq bt fi la W) 35)) :=
  ⟨_, _, A1, c1, g, c2, rfl, rfl, hub.size, by have := hub.size; omega, by omega, (Blk.new _ _ _).alloc _, Blk.newAt _ _ _ _ (by simp), ((ho.alloc9 _).alloc9 _).lower hB, ((ht.alloc9 _).alloc9 _).lower hB, below_alloc9 (below_alloc9 hub _) _⟩
theorem app_cut2 (hub : Below U.heap.size U wn) (ho : Own wn B A1 nw c1 wd) (ht : OwnT wn B (some ⟨g, 0, none⟩) n c2 F) (hB : U.heap.size ≤ B) :
    AppCut k nw n wd F sq bt fi la W U (.pointer (some ⟨wn.heap.size + 1, 0, none⟩)) (.pointer (some ⟨wn.heap.size, 0, none⟩)) ((wn.alloc (.cells (apI sq bt fi la W) 35)).alloc (.cells (apS k A1 nw c1 g n c2) 30)) :=
  ⟨_, _, A1, c1, g, c2, rfl, rfl, by have := hub.size; omega, hub.size, by omega, Blk.newAt _ _ _ _ (by simp), (Blk.new _ _ _).alloc _, ((ho.alloc9 _).alloc9 _).lower hB, ((ht.alloc9 _).alloc9 _).lower hB, below_alloc9 (below_alloc9 hub _) _⟩
theorem app_cut3 (hub : Below U.heap.size U wn) (bb : Blk wn U.heap.size 30 #[a0, a1, a2]) (ho : Own wn B A1 nw c1 wd) (ht : OwnT wn B (some ⟨g, 0, none⟩) n c2 F) (hB : U.heap.size < B) :
    AppCut k nw n wd F sq bt fi la W U (.pointer (some ⟨U.heap.size, 0, none⟩)) (.pointer (some ⟨wn.heap.size, 0, none⟩)) ((((wn.setCell ⟨U.heap.size, 0, none⟩ (.int .i64 k)).setCell ⟨U.heap.size, 1, none⟩ (.slice A1 nw c1)).setCell ⟨U.heap.size, 2, none⟩ (.slice (some ⟨g, 0, none⟩) n c2)).alloc (.cells (apI sq bt fi la W) 35)) :=
  have h := bb.lt
  ⟨_, _, A1, c1, g, c2, rfl, rfl, Nat.le_refl _, by omega, by omega, (bb.set3 _ _ _).alloc _, Blk.newAt _ _ _ _ (by simp), ((ho.put3 hB _ _ _).alloc9 _).lower (by omega), ((ht.put3 hB _ _ _).alloc9 _).lower (by omega), below_alloc9 (below_put3 hub (Nat.le_refl _) _ _ _) _⟩
theorem app_cut4 (hub : Below U.heap.size U wn) (bb : Blk wn U.heap.size 30 #[a0, a1, a2]) (be : Blk wn (U.heap.size + 1) 35 #[b0, b1, b2, b3, b4]) (ho : Own wn B A1 nw c1 wd) (ht : OwnT wn B (some ⟨g, 0, none⟩) n c2 F) (hB : U.heap.size + 1 < B) :
    AppCut k nw n wd F sq bt fi la W U (.pointer (some ⟨U.heap.size, 0, none⟩)) (.pointer (some ⟨U.heap.size + 1, 0, none⟩)) ((((((((wn.setCell ⟨U.heap.size, 0, none⟩ (.int .i64 k)).setCell ⟨U.heap.size, 1, none⟩ (.slice A1 nw c1)).setCell ⟨U.heap.size, 2, none⟩ (.slice (some ⟨g, 0, none⟩) n c2)).setCell ⟨U.heap.size + 1, 0, none⟩ (.int .i64 sq)).setCell ⟨U.heap.size + 1, 1, none⟩ (.int .i64 bt)).setCell ⟨U.heap.size + 1, 2, none⟩ (.int .i64 fi)).setCell ⟨U.heap.size + 1, 3, none⟩ (.int .i64 la)).setCell ⟨U.heap.size + 1, 4, none⟩ (.int .i64 W)) :=
  ⟨_, _, A1, c1, g, c2, rfl, rfl, Nat.le_refl _, by omega, by omega, (bb.set3 _ _ _).turn5 (by omega) _ _ _ _ _, (be.far3 (by omega) _ _ _).set5 _ _ _ _ _, ((ho.put3 (by omega) _ _ _).put5 hB _ _ _ _ _).lower (by omega), ((ht.put3 (by omega) _ _ _).put5 hB _ _ _ _ _).lower (by omega), below_put5 (below_put3 hub (Nat.le_refl _) _ _ _) (by omega) _ _ _ _ _⟩
theorem app_cut5 (hub : Below U.heap.size U wn) (bd : Blk wn U.heap.size 35 #[b0, b1, b2, b3, b4]) (ho : Own wn B A1 nw c1 wd) (ht : OwnT wn B (some ⟨g, 0, none⟩) n c2 F) (hB : U.heap.size < B) :
    AppCut k nw n wd F sq bt fi la W U (.pointer (some ⟨wn.heap.size, 0, none⟩)) (.pointer (some ⟨U.heap.size, 0, none⟩)) ((((((wn.setCell ⟨U.heap.size, 0, none⟩ (.int .i64 sq)).setCell ⟨U.heap.size, 1, none⟩ (.int .i64 bt)).setCell ⟨U.heap.size, 2, none⟩ (.int .i64 fi)).setCell ⟨U.heap.size, 3, none⟩ (.int .i64 la)).setCell ⟨U.heap.size, 4, none⟩ (.int .i64 W)).alloc (.cells (apS k A1 nw c1 g n c2) 30)) :=
  have h := bd.lt
  ⟨_, _, A1, c1, g, c2, rfl, rfl, by omega, Nat.le_refl _, by omega, Blk.newAt _ _ _ _ (by simp), (bd.set5 _ _ _ _ _).alloc _, ((ho.put5 hB _ _ _ _ _).alloc9 _).lower (by omega), ((ht.put5 hB _ _ _ _ _).alloc9 _).lower (by omega), below_alloc9 (below_put5 hub (Nat.le_refl _) _ _ _ _ _) _⟩
theorem app_cut6 (hub : Below U.heap.size U wn) (bc : Blk wn (U.heap.size + 1) 30 #[a0, a1, a2]) (bd : Blk wn U.heap.size 35 #[b0, b1, b2, b3, b4]) (ho : Own wn B A1 nw c1 wd) (ht : OwnT wn B (some ⟨g, 0, none⟩) n c2 F) (hB : U.heap.size + 1 < B) :
    AppCut k nw n wd F sq bt fi la W U (.pointer (some ⟨U.heap.size + 1, 0, none⟩)) (.pointer (some ⟨U.heap.size, 0, none⟩)) ((((((((wn.setCell ⟨U.heap.size + 1, 0, none⟩ (.int .i64 k)).setCell ⟨U.heap.size + 1, 1, none⟩ (.slice A1 nw c1)).setCell ⟨U.heap.size + 1, 2, none⟩ (.slice (some ⟨g, 0, none⟩) n c2)).setCell ⟨U.heap.size, 0, none⟩ (.int .i64 sq)).setCell ⟨U.heap.size, 1, none⟩ (.int .i64 bt)).setCell ⟨U.heap.size, 2, none⟩ (.int .i64 fi)).setCell ⟨U.heap.size, 3, none⟩ (.int .i64 la)).setCell ⟨U.heap.size, 4, none⟩ (.int .i64 W)) :=
  ⟨_, _, A1, c1, g, c2, rfl, rfl, by omega, Nat.le_refl _, by omega, (bc.set3 _ _ _).turn5 (by omega) _ _ _ _ _, (bd.far3 (by omega) _ _ _).set5 _ _ _ _ _, ((ho.put3 (by omega) _ _ _).put5 (by omega) _ _ _ _ _).lower (by omega), ((ht.put3 (by omega) _ _ _).put5 (by omega) _ _ _ _ _).lower (by omega), below_put5 (below_put3 hub (by omega) _ _ _) (by omega) _ _ _ _ _⟩
end

set_option maxHeartbeats 40000000 in
theorem append9_any (k : Nat) (A A' : Option Addr) (nw c n c' : Nat) (wd : Nat → Int) (F : Nat → Fr) (sq bt fi la : Int) (W K c0 : Nat) (w : World) (hA : Arr w w.heap.size A nw c wd) (hT : Tab w w.heap.size A' n c' F) (hD : Db w) (hv : ValidP k nw wd n F)
    (hst : stB (bt * 4294967296 + sq) sq = true) (hc0 : ChainP F n fi la c0 sq (bt * 4294967296 + sq)) (hK : K ≤ freeN F n) (hsp : StampP F n sq (bt * 4294967296 + sq)) (ho : okO sq = true) (hb : okB bt = true) :
    Calls Tryd.prog 18 #[.agg #[.int .i64 k, .slice A nw c, .slice A' n c'], .agg #[.int .i64 sq, .int .i64 bt, .int .i64 fi, .int .i64 la, .int .i64 W], .int .i64 K] w (AppX k nw n wd sq bt W (growG n sq (bt * 4294967296 + sq) K ⟨F, fi, la⟩) w) := by
  have hk := shB_yes hv.1
  have hn := nfB_yes hv.2.1
  have hnw : nw = n * 2 ^ k := by have := hv.2.2.1; rw [Int.toNat_natCast] at this; exact this
  have hpl := prod_le (show n ≤ 64 by omega) (show k ≤ 8 by omega)
  have hnw0 : 0 < nw := by rw [hnw]; exact Nat.mul_pos (by omega) (Nat.two_pow_pos k)
  rw [← hnw] at hpl
  have HV := Lib.hid hv
  obtain ⟨U, hU⟩ : ∃ U, U = (((w.alloc (.cells #[.int .i64 k, .slice A nw c, .slice A' n c'] 30)).alloc (.cells #[.int .i64 sq, .int .i64 bt, .int .i64 fi, .int .i64 la, .int .i64 W] 35)).alloc (.cells #[.int .i64 0, .slice none 0 0, .slice none 0 0] 30)).alloc (.cells #[.int .i64 0, .int .i64 0, .int .i64 0, .int .i64 0, .int .i64 0] 35) := ⟨_, rfl⟩
  have BS := Lib.hid (show Blk U w.heap.size 30 #[.int .i64 k, .slice A nw c, .slice A' n c'] by rw [hU]; exact (((Blk.new _ _ _).alloc _).alloc _).alloc _)
  have BI := Lib.hid (show Blk U (w.heap.size + 1) 35 #[.int .i64 sq, .int .i64 bt, .int .i64 fi, .int .i64 la, .int .i64 W] by rw [hU]; exact ((Blk.newAt _ _ _ _ (by simp)).alloc _).alloc _)
  have BR := Lib.hid (show Blk U (w.heap.size + 2) 30 #[.int .i64 0, .slice none 0 0, .slice none 0 0] by rw [hU]; exact (Blk.newAt _ _ _ _ (by simp)).alloc _)
  have BQ := Lib.hid (show Blk U (w.heap.size + 3) 35 #[.int .i64 0, .int .i64 0, .int .i64 0, .int .i64 0, .int .i64 0] by rw [hU]; exact Blk.newAt _ _ _ _ (by simp))
  have HBU : Hid (Below w.heap.size w U) := by rw [hU]; exact ((((Below.refl _ _).alloc (Nat.le_refl _) _).alloc (by simp) _).alloc (by simp; omega) _).alloc (by simp; omega) _
  have HU := Lib.hid hU
  have HA := Lib.hid (hA.next HBU.out)
  have HT := Lib.hid (hT.next HBU.out)
  have p0 := BS.out.cell 0
  have p1 := BS.out.cell 1
  have p2 := BS.out.cell 2
  have q0 := BI.out.cell 0
  have q1 := BI.out.cell 1
  have q2 := BI.out.cell 2
  have q3 := BI.out.cell 3
  have q4 := BI.out.cell 4
  simp at p0 p1 p2 q0 q1 q2 q3 q4
  have zs : w.heap.size < U.heap.size := BS.out.lt
  have zi : w.heap.size + 1 < U.heap.size := BI.out.lt
  have zq : w.heap.size + 3 < U.heap.size := BQ.out.lt
  have HD := Lib.hid (hD.next HBU.out)
  have HST := Lib.hid hst
  have HSP := Lib.hid hsp
  have HOO := Lib.hid ho
  have HOB := Lib.hid hb
  have HC0 := Lib.hid hc0
  have HKF := Lib.hid hK
  have hK64 : K ≤ 64 := by have := freeN_le (F := F) n; omega
  clear hA hT hU hv hnw hD hst hsp ho hb hc0 hK
  have N := Lib.hid (show ∀ X, Below U.heap.size U X → Calls Tryd.prog 29 #[.agg #[.int .i64 k, .slice A nw c, .slice A' n c']] X (fun e w' => CopyOf k nw n wd F X e w' ∧ Below U.heap.size U w') from fun X h => (clone9_any k A A' nw c n c' wd F X (HA.out.next h) (HT.out.next h) (by omega) (by omega) (by omega) hnw0).mono fun e w' ⟨A1, c1, g, c2, h1, h2, h3, h4⟩ => ⟨⟨A1, c1, g, c2, h1, h2, h3, h4⟩, below_next h (Nat.le_refl _) h4⟩)
  have HS := Lib.hid (show ∀ w', Below U.heap.size U w' → (w'.cell? ⟨w.heap.size, 0, none⟩ = some (.int .i64 k) ∧ w'.cell? ⟨w.heap.size, 1, none⟩ = some (.slice A nw c) ∧ w'.cell? ⟨w.heap.size, 2, none⟩ = some (.slice A' n c') ∧ w'.cell? ⟨w.heap.size + 1, 0, none⟩ = some (.int .i64 sq) ∧ w'.cell? ⟨w.heap.size + 1, 1, none⟩ = some (.int .i64 bt) ∧ w'.cell? ⟨w.heap.size + 1, 2, none⟩ = some (.int .i64 fi) ∧ w'.cell? ⟨w.heap.size + 1, 3, none⟩ = some (.int .i64 la) ∧ w'.cell? ⟨w.heap.size + 1, 4, none⟩ = some (.int .i64 W)) from fun w' h => ⟨(h.cell (p := ⟨_, _, none⟩) zs).trans p0, (h.cell (p := ⟨_, _, none⟩) zs).trans p1, (h.cell (p := ⟨_, _, none⟩) zs).trans p2, (h.cell (p := ⟨_, _, none⟩) zi).trans q0, (h.cell (p := ⟨_, _, none⟩) zi).trans q1, (h.cell (p := ⟨_, _, none⟩) zi).trans q2, (h.cell (p := ⟨_, _, none⟩) zi).trans q3, (h.cell (p := ⟨_, _, none⟩) zi).trans q4⟩)
  go_enter Tryd.func18, Tryd.ntmps18
  go_wp2_with fail
  rw [← HU.out]
  go_upto_region 1 with fail
  go_cut [8, 9] (fun a b wx => AppCut k nw n wd F sq bt fi la W U a b wx)
  case first =>
    go_region_held3 (fun w' => w'.cell? ⟨w.heap.size, 0, none⟩ = some (.int .i64 k) ∧ w'.cell? ⟨w.heap.size, 1, none⟩ = some (.slice A nw c) ∧ w'.cell? ⟨w.heap.size, 2, none⟩ = some (.slice A' n c') ∧ w'.cell? ⟨w.heap.size + 1, 0, none⟩ = some (.int .i64 sq) ∧ w'.cell? ⟨w.heap.size + 1, 1, none⟩ = some (.int .i64 bt) ∧ w'.cell? ⟨w.heap.size + 1, 2, none⟩ = some (.int .i64 fi) ∧ w'.cell? ⟨w.heap.size + 1, 3, none⟩ = some (.int .i64 la) ∧ w'.cell? ⟨w.heap.size + 1, 4, none⟩ = some (.int .i64 W))
      (first | (with_reducible exact ⟨p0, p1, p2, q0, q1, q2, q3, q4⟩) | (refine HS.out _ ?_; (repeat (first | (with_reducible exact Below.refl _ _) | (with_reducible exact hub) | (with_reducible refine Below.drew ?_) | (with_reducible refine below_alloc9 ?_ _) | (with_reducible refine below_set9 ?_ ?_ _; rotate_left 1; focus (first | (simp; done) | (have := hub.size; simp; omega))))); done))
      (first | (go_at_call 29; refine (N.out _ (by (repeat (first | (with_reducible exact Below.refl _ _) | (with_reducible refine Below.drew ?_) | (with_reducible refine below_alloc9 ?_ _) | (with_reducible refine below_set9 ?_ (by simp) _))))).mono ?_; rintro e wn ⟨⟨A1, c1, g, c2, rfl, ho, ht, hb⟩, hub⟩; have u0 := (hub.cell (p := ⟨w.heap.size, 0, none⟩) zs).trans p0; have u1 := (hub.cell (p := ⟨w.heap.size, 1, none⟩) zs).trans p1; have u2 := (hub.cell (p := ⟨w.heap.size, 2, none⟩) zs).trans p2; have v0 := (hub.cell (p := ⟨w.heap.size + 1, 0, none⟩) zi).trans q0; have v1 := (hub.cell (p := ⟨w.heap.size + 1, 1, none⟩) zi).trans q1; have v2 := (hub.cell (p := ⟨w.heap.size + 1, 2, none⟩) zi).trans q2; have v3 := (hub.cell (p := ⟨w.heap.size + 1, 3, none⟩) zi).trans q3; have v4 := (hub.cell (p := ⟨w.heap.size + 1, 4, none⟩) zi).trans q4; (try (refine absorb9 (P := Blk wn U.heap.size 30 #[.int .i64 0, .slice none 0 0, .slice none 0 0]) ?_ ?_; (focus (refine Blk.next ?_ hb; (repeat (first | (with_reducible exact Blk.new _ _ _) | (with_reducible refine Blk.drew9 ?_) | ((with_reducible refine Blk.newAt _ _ _ _ ?_); (focus (simp; done))) | (with_reducible refine Blk.alloc ?_ _))); done)); intro bb)); (try have bbz := bb.lt); (try have bb0 := bb.cell 0); (try have bbf0 := bb.frozen 0); (try have bb1 := bb.cell 1); (try have bbf1 := bb.frozen 1); (try have bb2 := bb.cell 2); (try have bbf2 := bb.frozen 2); (try simp at bb0 bb1 bb2); (try (refine absorb9 (P := Blk wn (U.heap.size + 1) 30 #[.int .i64 0, .slice none 0 0, .slice none 0 0]) ?_ ?_; (focus (refine Blk.next ?_ hb; (repeat (first | (with_reducible exact Blk.new _ _ _) | (with_reducible refine Blk.drew9 ?_) | ((with_reducible refine Blk.newAt _ _ _ _ ?_); (focus (simp; done))) | (with_reducible refine Blk.alloc ?_ _))); done)); intro bc)); (try have bcz := bc.lt); (try have bc0 := bc.cell 0); (try have bcf0 := bc.frozen 0); (try have bc1 := bc.cell 1); (try have bcf1 := bc.frozen 1); (try have bc2 := bc.cell 2); (try have bcf2 := bc.frozen 2); (try simp at bc0 bc1 bc2); (try (refine absorb9 (P := Blk wn U.heap.size 35 #[.int .i64 0, .int .i64 0, .int .i64 0, .int .i64 0, .int .i64 0]) ?_ ?_; (focus (refine Blk.next ?_ hb; (repeat (first | (with_reducible exact Blk.new _ _ _) | (with_reducible refine Blk.drew9 ?_) | ((with_reducible refine Blk.newAt _ _ _ _ ?_); (focus (simp; done))) | (with_reducible refine Blk.alloc ?_ _))); done)); intro bd)); (try have bdz := bd.lt); (try have bd0 := bd.cell 0); (try have bdf0 := bd.frozen 0); (try have bd1 := bd.cell 1); (try have bdf1 := bd.frozen 1); (try have bd2 := bd.cell 2); (try have bdf2 := bd.frozen 2); (try have bd3 := bd.cell 3); (try have bdf3 := bd.frozen 3); (try have bd4 := bd.cell 4); (try have bdf4 := bd.frozen 4); (try simp at bd0 bd1 bd2 bd3 bd4); (try (refine absorb9 (P := Blk wn (U.heap.size + 1) 35 #[.int .i64 0, .int .i64 0, .int .i64 0, .int .i64 0, .int .i64 0]) ?_ ?_; (focus (refine Blk.next ?_ hb; (repeat (first | (with_reducible exact Blk.new _ _ _) | (with_reducible refine Blk.drew9 ?_) | ((with_reducible refine Blk.newAt _ _ _ _ ?_); (focus (simp; done))) | (with_reducible refine Blk.alloc ?_ _))); done)); intro be)); (try have bez := be.lt); (try have be0 := be.cell 0); (try have bef0 := be.frozen 0); (try have be1 := be.cell 1); (try have bef1 := be.frozen 1); (try have be2 := be.cell 2); (try have bef2 := be.frozen 2); (try have be3 := be.cell 3); (try have bef3 := be.frozen 3); (try have be4 := be.cell 4); (try have bef4 := be.frozen 4); (try simp at be0 be1 be2 be3 be4)))
    all_goals
      have HUB := Lib.hid hub
      have HO1 := Lib.hid ho
      have HT1 := Lib.hid ht
      clear hub ho ht hb
      go_wp2
      go_meet
      first
      | (with_reducible refine app_cut1 HUB.out HO1.out HT1.out ?_; (focus (simp; done)))
      | (with_reducible refine app_cut2 HUB.out HO1.out HT1.out ?_; (focus (simp; done)))
      | (with_reducible refine app_cut3 HUB.out bb HO1.out HT1.out ?_; (focus (simp; done)))
      | (with_reducible refine app_cut4 HUB.out bb be HO1.out HT1.out ?_; (focus (simp; done)))
      | (with_reducible refine app_cut5 HUB.out bd HO1.out HT1.out ?_; (focus (simp; done)))
      | (with_reducible refine app_cut6 HUB.out bc bd HO1.out HT1.out ?_; (focus (simp; done)))

  case rest =>
    obtain ⟨bo, bg, A1, c1, g, c2, rfl, rfl, zo, zg, hne, hbo, hbg, hown, hownt, hub⟩ := hcut
    have ST := Lib.hid (show AppAt k nw n wd F sq bt fi la W K c0 U bo bg (.int .i64 K) wc from ⟨0, fi, la, F, A1, c1, g, c2, by omega, rfl, rfl, ⟨HV.out.fv, HC0.out, fun _ h => h, fun _ => .inl rfl, fun _ _ _ => rfl, rfl⟩, rfl, HSP.out, hbo, hbg, hown, hownt, hub⟩)
    clear hbo hbg hown hownt hub p0 p1 p2 q0 q1 q2 q3 q4 HS N
    go_wp2_with fail
    go_loopw [2, 10] (fun kk _ wr => AppAt k nw n wd F sq bt fi la W K c0 U bo bg kk wr) (fun kk _ _ => (intOf kk).toNat)
    case atStart => exact ST.out
    case round =>
      obtain ⟨t, fi', la', G, A1, c1, g, c2, ht, hgq, rfl, hgr, hfree, hsp, bbo, bbg, hO, hT', hub⟩ := hrel
      have HGQ := Lib.hid hgq
      have HGR := Lib.hid hgr
      have HFREE := Lib.hid hfree
      have HSG := Lib.hid hsp
      have HO := Lib.hid hO
      have HTT := Lib.hid hT'
      have HUB := Lib.hid hub
      have BBI := Lib.hid (BI.out.next hub)
      have BBR := Lib.hid (BR.out.next hub)
      have BBQ := Lib.hid (BQ.out.next hub)
      have HDR := Lib.hid (HD.out.next hub)
      have zU := hub.size
      have p0 := bbo.cell 0
      have p1 := bbo.cell 1
      have p2 := bbo.cell 2
      have pf0 := bbo.frozen 0
      have pf1 := bbo.frozen 1
      have pf2 := bbo.frozen 2
      have zbo : bo < wr.heap.size := bbo.lt
      have q0 := BBI.out.cell 0
      have q1 := BBI.out.cell 1
      have zbi : w.heap.size + 1 < wr.heap.size := BBI.out.lt
      simp at p0 p1 p2 q0 q1
      clear hgq hgr hfree hsp hO hT' hub
      by_cases hlt : t < K
      · have hk0 : (((K - t : Nat) : Int) == 0) = false := by simp; omega
        have s1 : IntKind.i64.wrap (((K - t : Nat) : Int) - 1) = ((K - (t + 1) : Nat) : Int) := by rw [IntWalk.i64_in _ (by omega)]; omega
        obtain ⟨f, hf⟩ := least_free (F := G) (n := n) (by have := HFREE.out; have := HKF.out; omega)
        have hvG : ValidP k nw wd n G := ValidP.mk_ HV.out.1 HV.out.2.1 HV.out.2.2.1 HGR.out.1 (HV.out.zr.mono (fun j _ h => HGR.out.2.2.1 j h))
        have htk := takeE_ok hvG HOO.out HOB.out HSG.out ⟨f, hf.1, hf.2.1⟩
        have hvL := valid_lift hvG hf HOO.out HOB.out
        have HVL := Lib.hid hvL
        have HF := Lib.hid hf
        have HTK := Lib.hid htk
        clear hvL htk hvG hf
        have B3 := Lib.hid bbo
        have B4 := Lib.hid bbg
        clear bbo bbg
        go_wp2_with fail
        refine (take_any k A1 (some ⟨g, 0, none⟩) nw c1 n c2 wd G sq bt wr HO.out.arr HTT.out.tab HDR.out).mono ?_
        intro e W1 hto
        obtain ⟨A2, c3, g2, c4, rfl, ho, ht2, hb⟩ := hto.yes HTK.out HF.out
        have bbo := B3.out.next hb
        have bbg := B4.out.next hb
        have HO1 := Lib.hid ho
        have HT1 := Lib.hid ht2
        have HU1 := Lib.hid (below_next HUB.out (Nat.le_refl _) hb)
        have hnl := freeN_lift (F := G) (o := sq) (s := bt * 4294967296 + sq) HF.out.2.1 (by have := (stB_yes HST.out).1; omega) n
        rw [if_pos HF.out.1] at hnl
        have HNL := Lib.hid hnl
        have x0 := bbo.cell 0
        have x1 := bbo.cell 1
        have x2 := bbo.cell 2
        have xf0 := bbo.frozen 0
        have xf1 := bbo.frozen 1
        have xf2 := bbo.frozen 2
        have xz := bbo.lt
        have y2 := bbg.cell 2
        have y3 := bbg.cell 3
        have yf2 := bbg.frozen 2
        have yf3 := bbg.frozen 3
        have yz := bbg.lt
        simp at x0 x1 x2 y2 y3
        have zW : wr.heap.size ≤ W1.heap.size := hb.size
        have zbg : bg < wr.heap.size := B4.out.lt
        clear hb ho ht2 hto hnl p0 p1 p2 pf0 pf1 pf2 q0 q1
        obtain ⟨X, hX⟩ : ∃ X, X = ((W1.setCell ⟨bo, 0, none⟩ (.int .i64 k)).setCell ⟨bo, 1, none⟩ (.slice A2 nw c3)).setCell ⟨bo, 2, none⟩ (.slice (some ⟨g2, 0, none⟩) n c4) := ⟨_, rfl⟩
        have HX := Lib.hid hX
        have XO := Lib.hid (show Blk X bo 30 #[.int .i64 k, .slice A2 nw c3, .slice (some ⟨g2, 0, none⟩) n c4] by rw [hX]; exact bbo.set3 _ _ _)
        have XG := Lib.hid (show Blk X bg 35 #[.int .i64 sq, .int .i64 bt, .int .i64 fi', .int .i64 la', .int .i64 W] by rw [hX]; exact bbg.far3 (fun e => hne e.symm) _ _ _)
        have HOX := Lib.hid (show Own X wr.heap.size A2 nw c3 wd by rw [hX]; exact HO1.out.put3 zbo _ _ _)
        have HTX := Lib.hid (show OwnT X wr.heap.size (some ⟨g2, 0, none⟩) n c4 (lift G f sq (bt * 4294967296 + sq)) by rw [hX]; exact HT1.out.put3 zbo _ _ _)
        have HUX := Lib.hid (show Below U.heap.size U X by rw [hX]; exact below_put3 HU1.out zo _ _ _)
        have zX : X.heap.size = W1.heap.size := by rw [hX]; simp
        clear hX
        rcases HGR.out.2.1 with ⟨hm0, hfi⟩ | ⟨hm0, p, l, hfi, hp, hla, hl, h6, h7, h8, h9⟩
        · subst hfi
          have HGQ' := Lib.hid (growG_first HGQ.out HF.out)
          have HN : Hid (Grown_ F n k sq (bt * 4294967296 + sq) c0 (c0 + (t + 1)) f f (lift G f sq (bt * 4294967296 + sq))) := by
            have h := HGR.out
            rw [hm0] at h
            have h' := grown_first h HF.out HST.out
            rw [show c0 + (t + 1) = 1 by omega]
            exact h'
          have REL := Lib.hid (show AppAt k nw n wd F sq bt fi la W K c0 U bo bg (.int .i64 ((K - (t + 1) : Nat) : Int)) ((X.setCell ⟨bg, 2, none⟩ (.int .i64 f)).setCell ⟨bg, 3, none⟩ (.int .i64 f)) from
            ⟨t + 1, f, f, _, A2, c3, g2, c4, by omega, HGQ'.out, rfl, HN.out, by have := HNL.out; have := HFREE.out; omega, HSG.out.lift, (XO.out.far (p := ⟨bg, 2, none⟩) hne _).far (p := ⟨bg, 3, none⟩) hne _, (XG.out.set_ 2 _).set_ 3 _,
              ((HOX.out.far (p := ⟨bg, 2, none⟩) zbg _).far (p := ⟨bg, 3, none⟩) zbg _).lower zU, ((HTX.out.far (p := ⟨bg, 2, none⟩) zbg _).far (p := ⟨bg, 3, none⟩) zbg _).lower zU, (HUX.out.setCell (p := ⟨bg, 2, none⟩) zg _).setCell (p := ⟨bg, 3, none⟩) zg _⟩)
          rw [HX.out] at REL
          clear bbo bbg
          go_wp2
          go_roundw
          case rel => exact REL.out
          case measure => simp [intOf]; omega
        · subst hfi hla
          obtain ⟨_, hlnk⟩ := link_free_ok HGR.out.1 HST.out hm0 HGR.out.2.1 HF.out
          have HLK := Lib.hid (lnk_ok (validB_yes HVL.out) hl HF.out.1 hlnk)
          have HGQ' := Lib.hid (growG_next HGQ.out HF.out)
          have HN : Hid (Grown_ F n k sq (bt * 4294967296 + sq) c0 (c0 + (t + 1)) p f (link (lift G f sq (bt * 4294967296 + sq)) l f)) := grown_next HGR.out hm0 HF.out HST.out
          have hpm : ((p : Int) == -1) = false := by simp
          clear hlnk bbo bbg h6 h7 h8 h9
          go_wp2_with fail
          rw [← HX.out]
          refine (link5_any k A2 (some ⟨g2, 0, none⟩) nw c3 n c4 wd (lift G f sq (bt * 4294967296 + sq)) l f X HOX.out.arr HTX.out.tab).mono ?_
          intro e W2 hlo
          rcases hlo with ⟨x, h1, h2, _⟩ | ⟨_, A3, c5, g3, c6, rfl, ho, ht3, hb⟩
          · exact absurd (h1.symm.trans HLK.out) h2
          have bbo := XO.out.next hb
          have bbg := XG.out.next hb
          have x0 := bbo.cell 0
          have x1 := bbo.cell 1
          have x2 := bbo.cell 2
          have xf0 := bbo.frozen 0
          have xf1 := bbo.frozen 1
          have xf2 := bbo.frozen 2
          have xz := bbo.lt
          have y2 := bbg.cell 2
          have y3 := bbg.cell 3
          have yf2 := bbg.frozen 2
          have yf3 := bbg.frozen 3
          have yz := bbg.lt
          simp at x0 x1 x2 y2 y3
          rw [Int.toNat_natCast] at ht3
          have REL := Lib.hid (show AppAt k nw n wd F sq bt fi la W K c0 U bo bg (.int .i64 ((K - (t + 1) : Nat) : Int)) ((((W2.setCell ⟨bo, 0, none⟩ (.int .i64 k)).setCell ⟨bo, 1, none⟩ (.slice A3 nw c5)).setCell ⟨bo, 2, none⟩ (.slice (some ⟨g3, 0, none⟩) n c6)).setCell ⟨bg, 3, none⟩ (.int .i64 f)) from
            ⟨t + 1, p, f, _, A3, c5, g3, c6, by omega, HGQ'.out, rfl, HN.out, by have := HNL.out; have := HFREE.out; rw [freeN_link]; omega, HSG.out.lift.link, (bbo.set3 _ _ _).far (p := ⟨bg, 3, none⟩) hne _, (bbg.far3 (fun e => hne e.symm) _ _ _).set_ 3 _,
              ((ho.put3 (by omega) _ _ _).far (p := ⟨bg, 3, none⟩) (show bg < X.heap.size by omega) _).lower (by omega), ((ht3.put3 (by omega) _ _ _).far (p := ⟨bg, 3, none⟩) (show bg < X.heap.size by omega) _).lower (by omega), (below_put3 (below_next HUX.out (Nat.le_refl _) hb) zo _ _ _).setCell (p := ⟨bg, 3, none⟩) zg _⟩)
          clear hb ho ht3 bbo bbg
          go_wp2
          go_roundw
          case rel => exact REL.out
          case measure => simp [intOf]; omega
      · obtain rfl : t = K := by omega
        have hk0 : (((t - t : Nat) : Int) == 0) = true := by simp
        have r0 := BBR.out.cell 0
        have r1 := BBR.out.cell 1
        have r2 := BBR.out.cell 2
        have rf0 := BBR.out.frozen 0
        have rf1 := BBR.out.frozen 1
        have rf2 := BBR.out.frozen 2
        have t0 := BBQ.out.cell 0
        have t1 := BBQ.out.cell 1
        have t2 := BBQ.out.cell 2
        have t3 := BBQ.out.cell 3
        have t4 := BBQ.out.cell 4
        have tf0 := BBQ.out.frozen 0
        have tf1 := BBQ.out.frozen 1
        have tf2 := BBQ.out.frozen 2
        have tf3 := BBQ.out.frozen 3
        have tf4 := BBQ.out.frozen 4
        have y0 := bbg.cell 0
        have y1 := bbg.cell 1
        have y2 := bbg.cell 2
        have y3 := bbg.cell 3
        have y4 := bbg.cell 4
        simp at r0 r1 r2 t0 t1 t2 t3 t4 y0 y1 y2 y3 y4
        have zr : w.heap.size + 2 < wr.heap.size := BBR.out.lt
        have zr2 : w.heap.size + 1 + 1 < wr.heap.size := BBR.out.lt
        have zq3 : w.heap.size + 3 < wr.heap.size := BBQ.out.lt
        have zq4 : w.heap.size + 1 + 1 + 1 < wr.heap.size := BBQ.out.lt
        have zyg : bg < wr.heap.size := bbg.lt
        have hwU : Below w.heap.size w wr := HBU.out.trans (HUB.out.mono HBU.out.size)
        have HWU := Lib.hid hwU
        have FIN := Lib.hid (show ∀ w', Own w' U.heap.size A1 nw c1 wd → OwnT w' U.heap.size (some ⟨g, 0, none⟩) n c2 G → Below w.heap.size w w' → AppX k nw n wd sq bt W (growG n sq (bt * 4294967296 + sq) t ⟨F, fi, la⟩) w (.returned (.tuple #[.agg #[.int .i64 k, .slice A1 nw c1, .slice (some ⟨g, 0, none⟩) n c2], .agg #[.int .i64 sq, .int .i64 bt, .int .i64 fi', .int .i64 la', .int .i64 W]])) w' from
          fun w' h1 h2 h3 => by rw [HGQ.out]; exact ⟨A1, c1, g, c2, rfl, h1.lower HBU.out.size, h2.lower HBU.out.size, h3⟩)
        clear hwU bbo bbg
        go_wp2
        go_region
        go_wp2
        refine bodyPost_ret (v := .tuple #[.agg #[.int .i64 k, .slice A1 nw c1, .slice (some ⟨g, 0, none⟩) n c2], .agg #[.int .i64 sq, .int .i64 bt, .int .i64 fi', .int .i64 la', .int .i64 W]]) (by simp [results, Tryd.results18, go_sem, r0, r1, r2, t0, t1, t2, t3, t4]) rfl (FIN.out _ ?_ ?_ ?_)
        · exact (HO.out.put8 (by omega) (by omega) _ _ _ _ _ _ _ _).drew
        · exact (HTT.out.put8 (by omega) (by omega) _ _ _ _ _ _ _ _).drew
        · exact (below_put8 HWU.out (by omega) (by omega) _ _ _ _ _ _ _ _).drew
end Go.Proofs.YthcfcciemjkilaaDoor
