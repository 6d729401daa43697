/-
  Contract of the reference of layer 9: Grow.
-/
import Derived.Test.YtpbcpobbjoopnaaFits
import Derived.Test.YtpbcpobbjoopnaaGo
namespace Go.Proofs.Ytpbcpobbjoopnaa
open Go.RowKit
set_option maxRecDepth 100000
set_option linter.unusedVariables false

section
variable {w a : World} {base b n c x g : Nat} {A : Option Addr} {F : Nat → Fr} {f : Nat → Int}
theorem OwnT.apart5 (h : OwnT w base (some ⟨x, 0, none⟩) n c F) (hp : x ≠ b) (v0 v1 v2 v3 v4 : Value) :
    OwnT (((((w.setCell ⟨b, 0, none⟩ v0).setCell ⟨b, 1, none⟩ v1).setCell ⟨b, 2, none⟩ v2).setCell ⟨b, 3, none⟩ v3).setCell ⟨b, 4, none⟩ v4) base (some ⟨x, 0, none⟩) n c F :=
  ((h.apart3 (i := 0) (j := 1) (k := 2) hp v0 v1 v2).apart (p := ⟨b, 3, none⟩) hp v3).apart (p := ⟨b, 4, none⟩) hp v4
theorem turn_new5 (h : a.grownBy w (some g)) (hp : a.heap.size ≤ b) (v0 v1 v2 v3 v4 : Value) :
    a.grownBy (((((w.setCell ⟨b, 0, none⟩ v0).setCell ⟨b, 1, none⟩ v1).setCell ⟨b, 2, none⟩ v2).setCell ⟨b, 3, none⟩ v3).setCell ⟨b, 4, none⟩ v4) (some g) :=
  turn_new (turn_new (turn_new (turn_new (turn_new h ⟨b, 0, none⟩ hp v0) ⟨b, 1, none⟩ hp v1) ⟨b, 2, none⟩ hp v2) ⟨b, 3, none⟩ hp v3) ⟨b, 4, none⟩ hp v4
theorem ceilV_cover (T k : Nat) : T ≤ ceilV T k * 2 ^ k := by
  unfold ceilV
  have hz : 0 < 2 ^ k := Nat.two_pow_pos k
  have h1 := Nat.div_add_mod' (T + 2 ^ k - 1) (2 ^ k)
  have h2 := Nat.mod_lt (T + 2 ^ k - 1) hz
  omega
theorem Blk.turn5 {t : TypeId} {cs : Array Value} (h : Blk w g t cs) (hp : g ≠ b) (v0 v1 v2 v3 v4 : Value) :
    Blk (((((w.setCell ⟨b, 0, none⟩ v0).setCell ⟨b, 1, none⟩ v1).setCell ⟨b, 2, none⟩ v2).setCell ⟨b, 3, none⟩ v3).setCell ⟨b, 4, none⟩ v4) g t cs :=
  ((h.far3 (i := 0) (j := 1) (k := 2) hp v0 v1 v2).far (p := ⟨b, 3, none⟩) hp v3).far (p := ⟨b, 4, none⟩) hp v4
end

/-- How many of the first frames have the owner o. -/
def cntO (F : Nat → Fr) (o : Int) : Nat → Nat
  | 0 => 0
  | t + 1 => cntO F o t + (if (F t).ow = o then 1 else 0)
theorem cntO_link {F : Nat → Fr} {o : Int} {l : Nat} {f : Int} : ∀ t, cntO (link F l f) o t = cntO F o t
  | 0 => rfl
  | t + 1 => by
    simp only [cntO, cntO_link t]
    by_cases e : t = l
    · subst e; rw [link_same]
    · rw [link_other e]
theorem cntO_lift {F : Nat → Fr} {f : Nat} {o s : Int} (hf : (F f).ow ≠ o) : ∀ t, cntO (lift F f o s) o t = cntO F o t + (if f < t then 1 else 0)
  | 0 => by simp [cntO]
  | t + 1 => by
    have ih := cntO_lift (s := s) hf t
    simp only [cntO]
    by_cases e : t = f
    · subst e
      rw [lift_same, if_pos (show (⟨o, s, -1⟩ : Fr).ow = o from rfl), if_neg hf, if_pos (show t < t + 1 by omega)]
      rw [if_neg (by omega)] at ih
      omega
    · rw [lift_other e]
      by_cases h : f < t
      · rw [if_pos h] at ih
        rw [if_pos (show f < t + 1 by omega)]
        omega
      · rw [if_neg h] at ih
        rw [if_neg (show ¬ f < t + 1 by omega)]
        omega
/-- What Grow has done to a table: the increment has room for T words, and free frames alone have been taken. -/
def Grown_ (F : Nat → Fr) (n k : Nat) (sq st : Int) (c0 m : Nat) (fi la : Int) (F' : Nat → Fr) : Prop :=
  FV F' n ∧ ChainP F' n fi la m sq st ∧ (∀ f, F' f = frFree → F f = frFree) ∧ (∀ f, (F' f).ow = (F f).ow ∨ (F' f).ow = sq) ∧ (∀ f, (F f).ow ≠ -1 → (F f).ow ≠ sq → F' f = F f) ∧ cntO F' sq n + c0 = cntO F sq n + m
theorem keep_lift {G F : Nat → Fr} {f : Nat} {o s : Int} (h : ∀ j, (F j).ow ≠ -1 → (F j).ow ≠ o → G j = F j) (hf : (G f).ow = -1) (j : Nat) (h1 : (F j).ow ≠ -1) (h2 : (F j).ow ≠ o) : lift G f o s j = F j := by
  have h3 := h j h1 h2
  by_cases e : j = f
  · subst e; rw [h3] at hf; exact absurd hf h1
  · rw [lift_other e]; exact h3
theorem keep_link {G F : Nat → Fr} {l : Nat} {f o : Int} (h : ∀ j, (F j).ow ≠ -1 → (F j).ow ≠ o → G j = F j) (hl : (G l).ow = o) (j : Nat) (h1 : (F j).ow ≠ -1) (h2 : (F j).ow ≠ o) : link G l f j = F j := by
  have h3 := h j h1 h2
  by_cases e : j = l
  · subst e; rw [h3] at hl; exact absurd hl h2
  · rw [link_other e]; exact h3
theorem lift_ow {G F : Nat → Fr} {f : Nat} {o s : Int} (h : ∀ j, (G j).ow = (F j).ow ∨ (G j).ow = o) (j : Nat) : (lift G f o s j).ow = (F j).ow ∨ (lift G f o s j).ow = o := by
  by_cases e : j = f
  · subst e; rw [lift_same]; exact .inr rfl
  · rw [lift_other e]; exact h j
theorem link_ow {G F : Nat → Fr} {l : Nat} {f o : Int} (h : ∀ j, (G j).ow = (F j).ow ∨ (G j).ow = o) (j : Nat) : (link G l f j).ow = (F j).ow ∨ (link G l f j).ow = o := by
  by_cases e : j = l
  · subst e; rw [link_same]; exact h j
  · rw [link_other e]; exact h j

def GrowOf (F : Nat → Fr) (n k : Nat) (sq bt : Int) (W d g base c : Nat) (w : World) (e : Ending) (w' : World) : Prop :=
  ∃ (i0 i1 fi la wo a err : Int) (F' : Nat → Fr), e = .returned (.tuple #[.agg #[.int .i64 i0, .int .i64 i1, .int .i64 fi, .int .i64 la, .int .i64 wo], .int .i64 a, .int .i64 err]) ∧
    OwnT w' base (some ⟨g, 0, none⟩) n c F' ∧ w.grownBy w' (some g) ∧
      (err = 0 → Grown_ F n k sq (bt * 4294967296 + sq) (ceilV W k) (ceilV (W + d) k) fi la F' ∧ a = addrP F' k fi W ∧ i0 = sq ∧ i1 = bt ∧ wo = ((W + d : Nat) : Int))

/-- What holds while Grow takes frames; bs, bi: the boxes of the space and of the increment. -/
def GrowAt (F : Nat → Fr) (n k : Nat) (V1 : Value) (sq bt : Int) (W K g base c bs bi : Nat) (w : World) (kk : Value) (wr : World) : Prop :=
  ∃ (t : Nat) (fi la : Int) (G : Nat → Fr), t ≤ K ∧ kk = .int .i64 ((K - t : Nat) : Int) ∧ OwnT wr base (some ⟨g, 0, none⟩) n c G ∧ Grown_ F n k sq (bt * 4294967296 + sq) (ceilV W k) (ceilV W k + t) fi la G ∧
    freeN G n + t = freeN F n ∧ Blk wr bs 25 #[.int .i64 k, V1, .slice (some ⟨g, 0, none⟩) n c] ∧ Blk wr bi 53 #[.int .i64 sq, .int .i64 bt, .int .i64 fi, .int .i64 la, .int .i64 W] ∧
    w.grownBy wr (some g) ∧ Blk wr (w.heap.size + 2) 53 #[.int .i64 0, .int .i64 0, .int .i64 0, .int .i64 0, .int .i64 0]

set_option maxHeartbeats 4000000 in
theorem grow_pos (k : Nat) (A : Option Addr) (nw c n c' g base : Nat) (F : Nat → Fr) (sq bt fi la : Int) (W d : Nat) (w : World) (hT : OwnT w base (some ⟨g, 0, none⟩) n c' F) (hn : n ≤ 64) (hv : FV F n) (h1 : 3 ≤ k) (h2 : k ≤ 8) (hw : nw = n * 2 ^ k)
    (hF : FitsP k n nw F sq bt fi la W) (hd : 1 ≤ d ∧ d ≤ 48) :
    Calls Try.prog 62 #[.agg #[.int .i64 k, .slice A nw c, .slice (some ⟨g, 0, none⟩) n c'], .agg #[.int .i64 sq, .int .i64 bt, .int .i64 fi, .int .i64 la, .int .i64 W], .int .i64 d] w (GrowOf F n k sq bt W d g base c' w) := by
  obtain ⟨f1, f2, f3, f4, W', hW', f6, f7, f8⟩ := hF
  obtain rfl : W = W' := by omega
  have hnw := prod_le hn h2
  rw [← hw] at hnw
  have hst : stB (bt * 4294967296 + sq) sq = true := by
    refine decide_eq_true ⟨f1, f2, ?_⟩
    rcases (show bt = 0 ∨ bt = 1 ∨ bt = 2 ∨ bt = 3 by omega) with h | h | h | h <;> subst h <;> omega
  have gz : g < w.heap.size := by
    obtain ⟨_, _, h | ⟨g', cur, hA, _, hg, _⟩⟩ := hT
    · cases h.1
    · injection hA with hA; injection hA with hA; subst hA; exact blk_lt hg
  obtain ⟨U, hU⟩ : ∃ U, U = ((w.alloc (.cells #[.int .i64 k, .slice A nw c, .slice (some ⟨g, 0, none⟩) n c'] 25)).alloc (.cells #[.int .i64 sq, .int .i64 bt, .int .i64 fi, .int .i64 la, .int .i64 W] 53)).alloc (.cells #[.int .i64 0, .int .i64 0, .int .i64 0, .int .i64 0, .int .i64 0] 53) := ⟨_, rfl⟩
  have BS : Blk U w.heap.size 25 #[.int .i64 k, .slice A nw c, .slice (some ⟨g, 0, none⟩) n c'] := by rw [hU]; exact ((Blk.new _ _ _).alloc _).alloc _
  have BI : Blk U (w.heap.size + 1) 53 #[.int .i64 sq, .int .i64 bt, .int .i64 fi, .int .i64 la, .int .i64 W] := by rw [hU]; exact (Blk.newAt _ _ _ _ (by simp)).alloc _
  have BR : Blk U (w.heap.size + 2) 53 #[.int .i64 0, .int .i64 0, .int .i64 0, .int .i64 0, .int .i64 0] := by rw [hU]; exact Blk.newAt _ _ _ _ (by simp)
  have hBU : Below w.heap.size w U := by rw [hU]; exact (((Below.refl _ _).alloc (Nat.le_refl _) _).alloc (by simp) _).alloc (by simp; omega) _
  have HBU := Lib.hid hBU
  have HU := Lib.hid hU
  have HT := Lib.hid hT
  have HV := Lib.hid hv
  have HST := Lib.hid hst
  have HCH := Lib.hid f7
  have HNW := Lib.hid hw
  have p0 := BS.cell 0
  have p1 := BS.cell 1
  have p2 := BS.cell 2
  have q0 := BI.cell 0
  have q1 := BI.cell 1
  have q2 := BI.cell 2
  have q3 := BI.cell 3
  have q4 := BI.cell 4
  simp at p0 p1 p2 q0 q1 q2 q3 q4
  obtain ⟨K, hK⟩ : ∃ K, K = ceilV (W + d) k - ceilV W k := ⟨_, rfl⟩
  have hKle : ceilV (W + d) k ≤ W + d := ceilV_le Nat.one_le_two_pow
  have HK := Lib.hid hK
  have Kb : K ≤ 65536 := by omega
  clear hT hv hst hU hBU f7 f8 hW' hw hK
  go_enter Try.func62, Try.ntmps62
  go_wp2_with fail
  rw [← HU.out]
  refine (extra_any k W d (.slice A nw c) (.slice (some ⟨g, 0, none⟩) n c') sq bt fi la U (by omega) (by omega) h2).mono ?_
  rintro e U1 ⟨rfl, hb1⟩
  rw [← HK.out]
  have BS1 := BS.next hb1
  have BI1 := BI.next hb1
  have BR1 := BR.next hb1
  have HT1 : Hid (OwnT U1 base (some ⟨g, 0, none⟩) n c' F) := HT.out.below (below_next HBU.out (Nat.le_refl _) hb1)
  have HBU1 : Hid (Below w.heap.size w U1) := below_next HBU.out (Nat.le_refl _) hb1
  clear hb1 p0 p1 p2 q0 q1 q2 q3 q4
  have p0 := BS1.cell 0
  have p1 := BS1.cell 1
  have p2 := BS1.cell 2
  simp at p0 p1 p2
  go_wp2_with fail
  refine (refFree_any k (.slice A nw c) _ n c' F U1 HT1.out.tab hn).mono ?_
  rintro e U2 ⟨Al, cl, rfl, hb2⟩
  have BS2 := BS1.next hb2
  have BI2 := BI1.next hb2
  have BR2 := BR1.next hb2
  have HT2 : Hid (OwnT U2 base (some ⟨g, 0, none⟩) n c' F) := HT1.out.below hb2
  have HBU2 : Hid (Below w.heap.size w U2) := below_next HBU1.out (Nat.le_refl _) hb2
  clear hb2 p0 p1 p2
  have p0 := BS2.cell 0
  have p1 := BS2.cell 1
  have p2 := BS2.cell 2
  have q0 := BI2.cell 0
  have q1 := BI2.cell 1
  have q2 := BI2.cell 2
  have q3 := BI2.cell 3
  have q4 := BI2.cell 4
  simp at p0 p1 p2 q0 q1 q2 q3 q4
  obtain ⟨fn, hfn⟩ : ∃ fn, fn = freeN F n := ⟨_, rfl⟩
  rw [← hfn]
  have HFN := Lib.hid hfn
  clear hfn
  by_cases hfull : (fn : Int) < (K : Int)
  · have r0 := BR2.cell 0
    have r1 := BR2.cell 1
    have r2 := BR2.cell 2
    have r3 := BR2.cell 3
    have r4 := BR2.cell 4
    have z0 := BR2.frozen 0
    have z1 := BR2.frozen 1
    have z2 := BR2.frozen 2
    have z3 := BR2.frozen 3
    have z4 := BR2.frozen 4
    simp at r0 r1 r2 r3 r4
    have HT3 := HT2.out
    have HG : Hid (w.grownBy U2 (some g)) := turn_below HBU2.out
    go_wp2
    refine bodyPost_ret (v := .tuple #[.agg #[.int .i64 0, .int .i64 0, .int .i64 0, .int .i64 0, .int .i64 0], .int .i64 0, .int .i64 4]) (by simp [results, Try.results62, go_sem, r0, r1, r2, r3, r4]) rfl ⟨0, 0, 0, 0, 0, 0, 4, F, rfl, ?_, ?_, fun h => absurd h (by decide)⟩
    · exact HT2.out.apart5 (by omega) _ _ _ _ _
    · exact turn_new5 HG.out (by omega) _ _ _ _ _
  · have hKn : K ≤ fn := by omega
    have hdec : decide (fn < K) = false := decide_eq_false (by omega)
    have hnone : ceilV W k = 0 ∨ 0 < ceilV W k := by omega
    have ST : Hid (GrowAt F n k (.slice A nw c) sq bt W K g base c' w.heap.size (w.heap.size + 1) w (.int .i64 K) U2) :=
      ⟨0, fi, la, F, by omega, rfl, HT2.out, ⟨HV.out, HCH.out, fun _ h => h, fun _ => .inl rfl, fun _ _ _ => rfl, rfl⟩, rfl, BS2, BI2, turn_below HBU2.out, BR2⟩
    go_wp2
    clear p0 p1 p2 q0 q1 q2 q3 q4 BS2 BI2 BR2 BS1 BI1 BR1 BS BI BR
    go_loopw [9, 11] (fun kk _ wr => GrowAt F n k (.slice A nw c) sq bt W K g base c' w.heap.size (w.heap.size + 1) w kk wr) (fun kk _ _ => (intOf kk).toNat)
    case atStart => exact ST.out
    case round =>
      obtain ⟨t, fi', la', G, ht, rfl, hT', hgr, hfree, bs, bi, hgb, br⟩ := hrel
      have p0 := bs.cell 0
      have p1 := bs.cell 1
      have p2 := bs.cell 2
      have q0 := bi.cell 0
      have q1 := bi.cell 1
      have q2 := bi.cell 2
      have q3 := bi.cell 3
      have q4 := bi.cell 4
      have zf0 := bi.frozen 0
      have zf1 := bi.frozen 1
      have zf2 := bi.frozen 2
      have zf3 := bi.frozen 3
      have zf4 := bi.frozen 4
      simp at p0 p1 p2 q0 q1 q2 q3 q4
      have HTT := Lib.hid hT'
      have HGR := Lib.hid hgr
      have HFREE := Lib.hid hfree
      have HGB := Lib.hid hgb
      clear hT' hgr hfree hgb
      by_cases hlt : t < K
      · have hlt2 : 0 < ((K - t : Nat) : Int) := by omega
        go_wp2_with fail
        refine (lift_any k (.slice A nw c) g n c' base G sq bt wr HTT.out hn (by have := HFREE.out; have := HFN.out; omega) ⟨f1, f2⟩ ⟨f3, by omega⟩).mono ?_
        rintro e W1 ⟨f, hleast, rfl, hT1, hg1⟩
        have bs' := bs.turn hg1 (by omega)
        have bi' := bi.turn hg1 (by omega)
        have br' := br.turn hg1 (by omega)
        have p0' := bs'.cell 0
        have p2' := bs'.cell 2
        have u2 := bi'.cell 2
        have u3 := bi'.cell 3
        have y2 := bi'.frozen 2
        have y3 := bi'.frozen 3
        simp at p0' p2' u2 u3
        obtain ⟨hf1, hf2, hf3⟩ := hleast
        obtain ⟨gv, gc, gm⟩ := HGR.out
        have hff := gv.free hf1 hf2
        have hso : sq ≠ -1 := by omega
        have hnl := freeN_lift (F := G) (o := sq) (s := bt * 4294967296 + sq) hf2 hso n
        rw [if_pos hf1] at hnl
        have HG1 : Hid (w.grownBy W1 (some g)) := turn_trans HGB.out hg1
        have bz : w.heap.size + 1 < W1.heap.size := bi'.lt
        have HTL := Lib.hid hT1
        have HNL := Lib.hid hnl
        have HGC := Lib.hid gc
        have HGM := Lib.hid gm
        have HGV := Lib.hid gv
        have HFF := Lib.hid hff
        clear p0 p1 p2 q0 q1 q2 q3 q4 zf0 zf1 zf2 zf3 zf4 bs bi br hT1 hg1 hnl gv gc gm hff
        rcases HGC.out with ⟨hm0, hfi⟩ | ⟨hm0, p, l, hfi, hp, hla, hl, h6, h7, h8, h9⟩
        · subst hfi
          have hgf := grow_first HGV.out hf1 HFF.out HST.out
          have HN : Hid (Grown_ F n k sq (bt * 4294967296 + sq) (ceilV W k) (ceilV W k + (t + 1)) f f (lift G f sq (bt * 4294967296 + sq))) :=
            ⟨hgf.1, by rw [show ceilV W k + (t + 1) = 1 by omega]; exact hgf.2, fun j hj => HGM.out.1 j (lift_free hso hj), lift_ow HGM.out.2.1, keep_lift HGM.out.2.2.1 hf2, by rw [cntO_lift (by rw [hf2]; omega), if_pos hf1]; have := HGM.out.2.2.2; omega⟩
          have hbI : Blk ((W1.setCell ⟨w.heap.size + 1, 2, none⟩ (.int .i64 f)).setCell ⟨w.heap.size + 1, 3, none⟩ (.int .i64 f)) (w.heap.size + 1) 53 #[.int .i64 sq, .int .i64 bt, .int .i64 f, .int .i64 f, .int .i64 W] := (bi'.set_ 2 _).set_ 3 _
          have HBI := Lib.hid hbI
          have HBS : Hid (Blk ((W1.setCell ⟨w.heap.size + 1, 2, none⟩ (.int .i64 f)).setCell ⟨w.heap.size + 1, 3, none⟩ (.int .i64 f)) w.heap.size 25 #[.int .i64 k, .slice A nw c, .slice (some ⟨g, 0, none⟩) n c']) := (bs'.far (p := ⟨w.heap.size + 1, 2, none⟩) (show w.heap.size ≠ w.heap.size + 1 by omega) _).far (p := ⟨w.heap.size + 1, 3, none⟩) (show w.heap.size ≠ w.heap.size + 1 by omega) _
          have HBR : Hid (Blk ((W1.setCell ⟨w.heap.size + 1, 2, none⟩ (.int .i64 f)).setCell ⟨w.heap.size + 1, 3, none⟩ (.int .i64 f)) (w.heap.size + 2) 53 #[.int .i64 0, .int .i64 0, .int .i64 0, .int .i64 0, .int .i64 0]) := (br'.far (p := ⟨w.heap.size + 1, 2, none⟩) (show w.heap.size + 2 ≠ w.heap.size + 1 by omega) _).far (p := ⟨w.heap.size + 1, 3, none⟩) (show w.heap.size + 2 ≠ w.heap.size + 1 by omega) _
          have HTN : Hid (OwnT ((W1.setCell ⟨w.heap.size + 1, 2, none⟩ (.int .i64 f)).setCell ⟨w.heap.size + 1, 3, none⟩ (.int .i64 f)) base (some ⟨g, 0, none⟩) n c' (lift G f sq (bt * 4294967296 + sq))) := (HTL.out.apart (p := ⟨w.heap.size + 1, 2, none⟩) (show g ≠ w.heap.size + 1 by omega) _).apart (p := ⟨w.heap.size + 1, 3, none⟩) (show g ≠ w.heap.size + 1 by omega) _
          have HGN : Hid (w.grownBy ((W1.setCell ⟨w.heap.size + 1, 2, none⟩ (.int .i64 f)).setCell ⟨w.heap.size + 1, 3, none⟩ (.int .i64 f)) (some g)) := turn_new (turn_new HG1.out ⟨w.heap.size + 1, 2, none⟩ (show w.heap.size ≤ w.heap.size + 1 by omega) _) ⟨w.heap.size + 1, 3, none⟩ (show w.heap.size ≤ w.heap.size + 1 by omega) _
          clear hgf hbI bs' bi' br'
          go_wp2
          go_roundw
          case rel => exact ⟨t + 1, f, f, _, by omega, congrArg (Value.int IntKind.i64) (by omega), HTN.out, HN.out, by have := HNL.out; have := HFREE.out; omega, HBS.out, HBI.out, HGN.out, HBR.out⟩
          case measure => simp [intOf]; omega
        · subst hfi hla
          have hpm : ((p : Int) == -1) = false := by simp
          have hgn := grow_next HGV.out HST.out hm0 hf1 HFF.out HGC.out
          have HN : Hid (Grown_ F n k sq (bt * 4294967296 + sq) (ceilV W k) (ceilV W k + (t + 1)) p f (link (lift G f sq (bt * 4294967296 + sq)) l f)) := by
            obtain ⟨q, hq1, hq2, hq3, hq4⟩ := HGC.out.at_ HGV.out HST.out (show ceilV W k + t - 1 < ceilV W k + t by omega)
            have hlq : l = q := by omega
            have hlf : l ≠ f := fun e => by rw [hlq] at e; rw [e, HFF.out] at hq3; exact hso hq3.symm
            have hlo : (lift G f sq (bt * 4294967296 + sq) l).ow = sq := by rw [lift_other hlf, hlq, hq3]
            exact ⟨hgn.1, by rw [show ceilV W k + (t + 1) = ceilV W k + t + 1 by omega]; exact hgn.2, fun j hj => HGM.out.1 j (lift_free hso (link_free (by rw [hlo]; exact hso) hj)), link_ow (lift_ow HGM.out.2.1), keep_link (keep_lift HGM.out.2.2.1 hf2) hlo, by rw [cntO_link, cntO_lift (by rw [hf2]; omega), if_pos hf1]; have := HGM.out.2.2.2; omega⟩
          obtain ⟨_, _, c0, c1, c2, z0, z1, z2, _, hlk⟩ := HTL.out.spotAt l hl ⟨0, 0, f⟩
          have li : 0 ≤ (l : Int) ∧ (l : Int) < n := by omega
          have gW : g < W1.heap.size := by omega
          have HTN : Hid (OwnT ((W1.setCell ⟨g, l * 3 + 2, none⟩ (.int .i64 f)).setCell ⟨w.heap.size + 1, 3, none⟩ (.int .i64 f)) base (some ⟨g, 0, none⟩) n c' (link (lift G f sq (bt * 4294967296 + sq)) l f)) := hlk.apart (p := ⟨w.heap.size + 1, 3, none⟩) (show g ≠ w.heap.size + 1 by omega) _
          have HBI : Hid (Blk ((W1.setCell ⟨g, l * 3 + 2, none⟩ (.int .i64 f)).setCell ⟨w.heap.size + 1, 3, none⟩ (.int .i64 f)) (w.heap.size + 1) 53 #[.int .i64 sq, .int .i64 bt, .int .i64 p, .int .i64 f, .int .i64 W]) := (bi'.far (p := ⟨g, l * 3 + 2, none⟩) (show w.heap.size + 1 ≠ g by omega) _).set_ 3 _
          have HBS : Hid (Blk ((W1.setCell ⟨g, l * 3 + 2, none⟩ (.int .i64 f)).setCell ⟨w.heap.size + 1, 3, none⟩ (.int .i64 f)) w.heap.size 25 #[.int .i64 k, .slice A nw c, .slice (some ⟨g, 0, none⟩) n c']) := (bs'.far (p := ⟨g, l * 3 + 2, none⟩) (show w.heap.size ≠ g by omega) _).far (p := ⟨w.heap.size + 1, 3, none⟩) (show w.heap.size ≠ w.heap.size + 1 by omega) _
          have HBR : Hid (Blk ((W1.setCell ⟨g, l * 3 + 2, none⟩ (.int .i64 f)).setCell ⟨w.heap.size + 1, 3, none⟩ (.int .i64 f)) (w.heap.size + 2) 53 #[.int .i64 0, .int .i64 0, .int .i64 0, .int .i64 0, .int .i64 0]) := (br'.far (p := ⟨g, l * 3 + 2, none⟩) (show w.heap.size + 2 ≠ g by omega) _).far (p := ⟨w.heap.size + 1, 3, none⟩) (show w.heap.size + 2 ≠ w.heap.size + 1 by omega) _
          have HGN : Hid (w.grownBy ((W1.setCell ⟨g, l * 3 + 2, none⟩ (.int .i64 f)).setCell ⟨w.heap.size + 1, 3, none⟩ (.int .i64 f)) (some g)) := turn_new (turn_set HG1.out (l * 3 + 2) _) ⟨w.heap.size + 1, 3, none⟩ (show w.heap.size ≤ w.heap.size + 1 by omega) _
          have HFL : Hid (freeN (link (lift G f sq (bt * 4294967296 + sq)) l f) n + (t + 1) = freeN F n) := by
            have e1 := HNL.out
            have e2 := HFREE.out
            show freeN (link (lift G f sq (bt * 4294967296 + sq)) l f) n + (t + 1) = freeN F n
            rw [freeN_link]; omega
          clear hgn hlk bs' bi' br' h6 h7 h8 h9
          go_wp2
          go_roundw
          case rel => exact ⟨t + 1, p, f, _, by omega, congrArg (Value.int IntKind.i64) (by omega), HTN.out, HN.out, HFL.out, HBS.out, HBI.out, HGN.out, HBR.out⟩
          case measure => simp [intOf]; omega
      · obtain rfl : K = t := by omega
        have hlt2 : ¬ (0 : Int) < ((K - K : Nat) : Int) := by omega
        have hmono := ceilV_mono k (show W ≤ W + d by omega)
        have hm : ceilV W k + K = ceilV (W + d) k := by have := HK.out; omega
        have hpos : 0 < ceilV (W + d) k := ceilV_pos (by omega)
        have hcov := ceilV_cover (W + d) k
        have hgr := HGR.out
        rw [hm] at hgr
        obtain ⟨p, hfi, hpn, hat⟩ : ∃ p : Nat, fi' = p ∧ p < n ∧ iter G 0 fi' = p := by
          obtain ⟨q, hq1, hq2, _⟩ := hgr.2.1.at_ hgr.1 HST.out hpos
          exact ⟨q, hq1, hq2, hq1⟩
        subst hfi
        have haddr : addrP G k p 0 = (p : Int) * 2 ^ k := by
          have := addrP_at (F := G) (k := k) (q := 0) (r := 0) (P := 0) (y := p) (first := p) (by simp) (Nat.two_pow_pos k) rfl
          rw [this]; simp
        have HAD := Lib.hid haddr
        have HGR2 := Lib.hid hgr
        have HCOV := Lib.hid hcov
        obtain ⟨pz0, pz1⟩ := prod_bd (show p ≤ 64 by omega) h2
        have hTs : Tab (wr.setCell ⟨w.heap.size + 1, 4, none⟩ (.int .i64 ((W : Int) + d))) (wr.setCell ⟨w.heap.size + 1, 4, none⟩ (.int .i64 ((W : Int) + d))).heap.size (some ⟨g, 0, none⟩) n c' G := (HTT.out.apart (p := ⟨w.heap.size + 1, 4, none⟩) (show g ≠ w.heap.size + 1 by omega) _).tab
        have HTS := Lib.hid hTs
        have HTO : Hid (OwnT (wr.setCell ⟨w.heap.size + 1, 4, none⟩ (.int .i64 ((W : Int) + d))) base (some ⟨g, 0, none⟩) n c' G) := HTT.out.apart (p := ⟨w.heap.size + 1, 4, none⟩) (show g ≠ w.heap.size + 1 by omega) _
        have biN := bi.set_ 4 (.int .i64 ((W : Int) + d))
        have bsN := bs.far (p := ⟨w.heap.size + 1, 4, none⟩) (show w.heap.size ≠ w.heap.size + 1 by omega) (.int .i64 ((W : Int) + d))
        have brN := br.far (p := ⟨w.heap.size + 1, 4, none⟩) (show w.heap.size + 2 ≠ w.heap.size + 1 by omega) (.int .i64 ((W : Int) + d))
        have HGN : Hid (w.grownBy (wr.setCell ⟨w.heap.size + 1, 4, none⟩ (.int .i64 ((W : Int) + d))) (some g)) := turn_new HGB.out ⟨w.heap.size + 1, 4, none⟩ (show w.heap.size ≤ w.heap.size + 1 by omega) _
        have wz : w.heap.size + 1 < wr.heap.size := bi.lt
        clear hgr hcov haddr hTs hm hat
        go_wp2_with fail
        rw [← HAD.out]
        refine (go_pos k A _ nw c n c' G p la' sq (bt * 4294967296 + sq) (ceilV (W + d) k) 0 W _ HTS.out hn HGR2.out.1 h1 h2 HNW.out HGR2.out.2.1 HST.out (by have := HCOV.out; omega)).mono ?_
        rintro e W3 ⟨rfl, hb3⟩
        rw [Nat.zero_add]
        have biF := biN.next hb3
        have brF := brN.next hb3
        have HTF : Hid (OwnT W3 base (some ⟨g, 0, none⟩) n c' G) := HTO.out.below hb3
        have HGF : Hid (w.grownBy W3 (some g)) := turn_next HGN.out hb3
        have e0 := biF.cell 0
        have e1 := biF.cell 1
        have e2 := biF.cell 2
        have e3 := biF.cell 3
        have e4 := biF.cell 4
        have r0 := brF.cell 0
        have r1 := brF.cell 1
        have r2 := brF.cell 2
        have r3 := brF.cell 3
        have r4 := brF.cell 4
        have y0 := brF.frozen 0
        have y1 := brF.frozen 1
        have y2 := brF.frozen 2
        have y3 := brF.frozen 3
        have y4 := brF.frozen 4
        simp at e0 e1 e2 e3 e4 r0 r1 r2 r3 r4
        have wz3 : w.heap.size + 2 < W3.heap.size := brF.lt
        clear p0 p1 p2 q0 q1 q2 q3 q4 zf0 zf1 zf2 zf3 zf4 hb3 bi bs br biN bsN brN
        go_wp2
        refine bodyPost_ret (v := .tuple #[.agg #[.int .i64 sq, .int .i64 bt, .int .i64 p, .int .i64 la', .int .i64 ((W : Int) + d)], .int .i64 (addrP G k p W), .int .i64 0]) (by simp [results, Try.results62, go_sem, r0, r1, r2, r3, r4]) rfl ⟨sq, bt, p, la', (W : Int) + d, addrP G k p W, 0, G, rfl, ?_, ?_, fun _ => ⟨HGR2.out, rfl, rfl, rfl, by simp⟩⟩
        · exact HTF.out.apart5 (by omega) _ _ _ _ _
        · exact turn_new5 HGF.out (by omega) _ _ _ _ _
end Go.Proofs.Ytpbcpobbjoopnaa
