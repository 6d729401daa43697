/-
  Contracts of the references of layers 7 and 8: Live, Make, Init.
-/
import Derived.Test.YtpbcpobbjoopnaaAlloc
namespace Go.Proofs.Ytpbcpobbjoopnaa
open Go.RowKit
set_option maxRecDepth 100000
set_option linter.unusedVariables false

def LiveOf (w : World) (e : Ending) (w' : World) : Prop := ∃ x, e = .returned (.tuple #[.int .u64 x, .int .i64 0]) ∧ w = w'

theorem live_any (r d : Nat) (w : World) (hr : r ≤ 15) (hd : d ≤ 32) :
    Calls Try.prog 72 #[.int .i64 r, .int .i64 d] w (LiveOf w) := by
  go_enter Try.func72, Try.ntmps72
  go_wp2
  go_ret2
  exact ⟨_, rfl, rfl⟩

theorem Zr.write {wd : Nat → Int} {k n : Nat} {F : Nat → Fr} (h : Zr wd k n F) {y r p : Nat} (ho : (F y).ow ≠ -1) (hr : r < 2 ^ k) (hp : p = y * 2 ^ k + r) (v : Int) : Zr (fun j => if j = p then v else wd j) k n F := by
  intro f hf he
  have h1 := h f hf he
  refine decide_eq_true fun a ha => ?_
  have h2 : wd (f * 2 ^ k + a) = 0 := (of_decide_eq_true h1) a ha
  have hne : f * 2 ^ k + a ≠ p := by
    intro e
    have hz : 0 < 2 ^ k := Nat.two_pow_pos k
    have e1 : (f * 2 ^ k + a) / 2 ^ k = f := by rw [Nat.add_comm, Nat.add_mul_div_right _ _ hz, Nat.div_eq_of_lt ha, Nat.zero_add]
    have e2 : p / 2 ^ k = y := by rw [hp, Nat.add_comm, Nat.add_mul_div_right _ _ hz, Nat.div_eq_of_lt hr, Nat.zero_add]
    have e3 : f = y := by rw [← e1, e, e2]
    rw [← e3, he] at ho
    exact ho rfl
  show (if f * 2 ^ k + a = p then v else wd (f * 2 ^ k + a)) = 0
  rw [if_neg hne]
  exact h2

/-- A place of a chain, as an address. -/
theorem place {F : Nat → Fr} {n k m p nw : Nat} {first last o st : Int} (hv : FV F n) (hc : ChainP F n first last m o st) (hs : stB st o = true) (hp : p < m * 2 ^ k) (hw : nw = n * 2 ^ k) :
    ∃ y r : Nat, addrP F k first p = ((y * 2 ^ k + r : Nat) : Int) ∧ r < 2 ^ k ∧ y < n ∧ (F y).ow ≠ -1 ∧ y * 2 ^ k + r < nw := by
  have hqm : p / 2 ^ k < m := Nat.div_lt_of_lt_mul (by rw [Nat.mul_comm]; omega)
  obtain ⟨y, hy, hyn, hyo, _⟩ := hc.at_ hv hs hqm
  obtain ⟨e1, _, _⟩ := addrP_split hy
  have hmod : p % 2 ^ k < 2 ^ k := Nat.mod_lt _ (Nat.two_pow_pos k)
  have hyz : y * 2 ^ k + 2 ^ k ≤ n * 2 ^ k := by
    have := Nat.mul_le_mul_right (2 ^ k) (show y + 1 ≤ n by omega)
    rw [Nat.add_mul, Nat.one_mul] at this
    exact this
  have := (stB_yes hs).1
  exact ⟨y, p % 2 ^ k, e1, hmod, hyn, by omega, by omega⟩

def MakeOf (k nw n : Nat) (F : Nat → Fr) (x base c : Nat) (w : World) (e : Ending) (w' : World) : Prop :=
  ∃ wd, e = .returned (.int .i64 0) ∧ Own w' base (some ⟨x, 0, none⟩) nw c wd ∧ w.grownBy w' (some x) ∧ Zr wd k n F

/-- A table stays where words alone have turned. -/
theorem OwnT.beside {a w : World} {g x base base' n c n' c' : Nat} {f : Nat → Int} {F : Nat → Fr} (h : OwnT a base (some ⟨g, 0, none⟩) n c F) (ht : Own a base' (some ⟨x, 0, none⟩) n' c' f) (hg : a.grownBy w (some x)) : OwnT w base (some ⟨g, 0, none⟩) n c F ∧ g ≠ x := by
  obtain ⟨h1, h2, h3⟩ := h
  rcases h3 with ⟨h3, _⟩ | ⟨g0, cur, hA, hb, hh, hs⟩
  · cases h3
  · injection hA with hA
    injection hA with hA
    subst hA
    have hne : g ≠ x := by
      intro e
      obtain ⟨_, _, t | ⟨g', cur', hA', _, hh', _⟩⟩ := ht
      · cases t.1
      · injection hA' with hA'
        injection hA' with hA'
        subst hA'
        rw [e] at hh
        rw [hh] at hh'
        injection hh' with hh'
        injection hh' with _ ht
        exact absurd ht (by decide)
    exact ⟨⟨h1, h2, .inr ⟨g, cur, rfl, hb, (hg.block g (blk_lt hh) (fun e => hne (by injection e))).trans hh, hs⟩⟩, hne⟩

/-- What holds while Make empties the fields. -/
def MakeAt (k nw n c c' R : Nat) (F : Nat → Fr) (x g base : Nat) (w : World) (kk : Value) (wr : World) : Prop :=
  ∃ (t : Nat) (wd : Nat → Int), t ≤ R ∧ kk = .int .i64 ((t + 1 : Nat) : Int) ∧ Own wr base (some ⟨x, 0, none⟩) nw c wd ∧ OwnT wr base (some ⟨g, 0, none⟩) n c' F ∧ Zr wd k n F ∧
    Blk wr w.heap.size 25 #[.int .i64 k, .slice (some ⟨x, 0, none⟩) nw c, .slice (some ⟨g, 0, none⟩) n c'] ∧ w.grownBy wr (some x)

set_option maxHeartbeats 2000000 in
theorem make_pos (k nw n c c' x g base : Nat) (wd : Nat → Int) (F : Nat → Fr) (first last o st : Int) (m W r d : Nat) (w : World) (hO : Own w base (some ⟨x, 0, none⟩) nw c wd) (hT : OwnT w base (some ⟨g, 0, none⟩) n c' F) (hn : n ≤ 64) (h1 : 3 ≤ k) (h2 : k ≤ 8) (hw : nw = n * 2 ^ k)
    (hv : FV F n) (hz : Zr wd k n F) (hc : ChainP F n first last m o st) (hs : stB st o = true) (hr : r ≤ 15) (hd : d ≤ 32) (hW : W + (1 + r + d) ≤ m * 2 ^ k) :
    Calls Try.prog 63 #[.agg #[.int .i64 k, .slice (some ⟨x, 0, none⟩) nw c, .slice (some ⟨g, 0, none⟩) n c'], .int .i64 (addrP F k first W), .int .i64 r, .int .i64 d] w (MakeOf k nw n F x base c w) := by
  have HO := Lib.hid hO
  have HT := Lib.hid hT
  have HV := Lib.hid hv
  have HZ := Lib.hid hz
  have HC := Lib.hid hc
  have HS := Lib.hid hs
  have HW := Lib.hid hw
  have hnw := prod_le hn h2
  rw [← hw] at hnw
  obtain ⟨y, q, ea, hq, hyn, hyo, hlt⟩ := place hv hc hs (show W < m * 2 ^ k by omega) hw
  obtain ⟨P, hP⟩ : ∃ P, P = y * 2 ^ k + q := ⟨_, rfl⟩
  rw [← hP] at ea hlt
  rw [ea]
  have HEA := Lib.hid ea
  have HP := Lib.hid hP
  have xz : x < w.heap.size := by
    obtain ⟨_, _, h | ⟨g', cur, hA, _, hg, _⟩⟩ := hO
    · cases h.1
    · injection hA with hA; injection hA with hA; subst hA; exact blk_lt hg
  have gz : g < w.heap.size := hT.bounds.2
  obtain ⟨U, hU⟩ : ∃ U, U = w.alloc (.cells #[.int .i64 k, .slice (some ⟨x, 0, none⟩) nw c, .slice (some ⟨g, 0, none⟩) n c'] 25) := ⟨_, rfl⟩
  have BU : Blk U w.heap.size 25 #[.int .i64 k, .slice (some ⟨x, 0, none⟩) nw c, .slice (some ⟨g, 0, none⟩) n c'] := by rw [hU]; exact Blk.new _ _ _
  have HBU : Hid (Below w.heap.size w U) := by rw [hU]; exact (Below.refl _ _).alloc (Nat.le_refl _) _
  have HU := Lib.hid hU
  clear hO hT hv hz hc hs hw hU ea hP
  go_enter Try.func63, Try.ntmps63
  go_wp2_with fail
  refine (live_any r d _ hr hd).mono ?_
  rintro e w' ⟨lv, rfl, rfl⟩
  go_wp2_with fail
  rw [← HU.out]
  have s1 : (r : Int) + d = ((r + d : Nat) : Int) := by omega
  have gp := go_pos k (some ⟨x, 0, none⟩) _ nw c n c' F first last o st m W (r + d) U (HT.out.below HBU.out).tab hn HV.out h1 h2 HW.out HC.out HS.out (by omega)
  rw [HEA.out, ← s1] at gp
  refine gp.mono ?_
  rintro e U1 ⟨rfl, hb1⟩
  have BU1 := BU.next hb1
  have HO1 : Hid (Own U1 base (some ⟨x, 0, none⟩) nw c wd) := (HO.out.below HBU.out).below hb1
  have HT1 : Hid (OwnT U1 base (some ⟨g, 0, none⟩) n c' F) := (HT.out.below HBU.out).below hb1
  have HB1 : Hid (Below w.heap.size w U1) := below_next HBU.out (Nat.le_refl _) hb1
  clear gp hb1
  obtain ⟨gx, hgx, _, gx2, wc0, wf0, hnew⟩ := HO1.out.spot P hlt lv
  injection hgx with hgx
  injection hgx with hgx
  subst hgx
  have HNEW := Lib.hid hnew
  have HT2 : Hid (OwnT (U1.setCell ⟨x, P, none⟩ (.int .u64 lv)) base (some ⟨g, 0, none⟩) n c' F) := (HT1.out.beside HO1.out (turn_set (turn_below (a := U1) (w := U1) (Below.refl _ _)) P (.int .u64 lv))).1
  have hxw : x ≠ w.heap.size := by omega
  have BU2 := BU1.far (p := ⟨x, P, none⟩) (show w.heap.size ≠ x by omega) (.int .u64 lv)
  have ST : Hid (MakeAt k nw n c c' (r + d) F x g base w (.int .i64 1) (U1.setCell ⟨x, P, none⟩ (.int .u64 lv))) :=
    ⟨0, _, by omega, rfl, HNEW.out, HT2.out, HZ.out.write hyo hq HP.out lv, BU2, turn_set (turn_below HB1.out) _ _⟩
  have p0 := BU1.cell 0
  have p1 := BU1.cell 1
  have p2 := BU1.cell 2
  simp at p0 p1 p2
  have pi : 0 ≤ (P : Int) ∧ (P : Int) < nw := by omega
  clear hnew s1
  go_wp2
  clear p0 p1 p2 wc0 wf0 BU BU1 BU2
  go_loopw [13, 14, 15] (fun kk _ _ wr => MakeAt k nw n c c' (r + d) F x g base w kk wr) (fun kk _ _ _ => r + d + 1 - (intOf kk).toNat)
  case atStart => exact ST.out
  case round =>
    obtain ⟨t, wd', ht, rfl, hO', hT', hZ', hB', hg'⟩ := hrel
    have HOO := Lib.hid hO'
    have HTT := Lib.hid hT'
    have HZZ := Lib.hid hZ'
    have HGG := Lib.hid hg'
    have p0 := hB'.cell 0
    have p1 := hB'.cell 1
    have p2 := hB'.cell 2
    simp at p0 p1 p2
    clear hO' hT' hZ' hg'
    by_cases hlt2 : t < r + d
    · have hle : ((t + 1 : Nat) : Int) ≤ (r : Int) + d := by omega
      go_wp2_with fail
      have gp := go_pos k (some ⟨x, 0, none⟩) _ nw c n c' F first last o st m W (t + 1) wr HTT.out.tab hn HV.out h1 h2 HW.out HC.out HS.out (by omega)
      rw [HEA.out] at gp
      obtain ⟨y2, q2, ea2, hq2, hyn2, hyo2, hltp⟩ := place HV.out HC.out HS.out (show W + (t + 1) < m * 2 ^ k by omega) HW.out
      rw [ea2] at gp
      obtain ⟨P2, hP2⟩ : ∃ P, P = y2 * 2 ^ k + q2 := ⟨_, rfl⟩
      rw [← hP2] at gp hltp
      refine gp.mono ?_
      rintro e W3 ⟨rfl, hb3⟩
      have HO3 : Hid (Own W3 base (some ⟨x, 0, none⟩) nw c wd') := HOO.out.below hb3
      have HT3 : Hid (OwnT W3 base (some ⟨g, 0, none⟩) n c' F) := HTT.out.below hb3
      have HG3 : Hid (w.grownBy W3 (some x)) := turn_next HGG.out hb3
      have B3 := hB'.next hb3
      obtain ⟨gx, hgx, _, gx2, wc0, wf0, hnew⟩ := HO3.out.spot P2 hltp 0
      injection hgx with hgx
      injection hgx with hgx
      subst hgx
      have q0 := B3.cell 0
      have q1 := B3.cell 1
      have qq := B3.cell 2
      simp at q0 q1 qq
      have pi2 : 0 ≤ (P2 : Int) ∧ (P2 : Int) < nw := by omega
      have HN : Hid (MakeAt k nw n c c' (r + d) F x g base w (.int .i64 ((t + 1 + 1 : Nat) : Int)) (W3.setCell ⟨x, P2, none⟩ (.int .u64 0))) :=
        ⟨t + 1, _, by omega, rfl, hnew, (HT3.out.beside HO3.out (turn_set (turn_below (a := W3) (w := W3) (Below.refl _ _)) P2 (.int .u64 0))).1, HZZ.out.write hyo2 hq2 hP2 0, B3.far (p := ⟨x, P2, none⟩) (show w.heap.size ≠ x by omega) _, turn_set HG3.out _ _⟩
      clear gp ea2 hP2 hb3 hnew p0 p1 p2
      go_wp2
      go_roundw
      case rel => exact (by simpa using HN.out)
      case measure => simp [intOf]; omega
    · obtain rfl : t = r + d := by omega
      have hle : ¬ ((r + d + 1 : Nat) : Int) ≤ (r : Int) + d := by omega
      go_wp2
      go_ret
      exact ⟨wd', rfl, HOO.out, HGG.out, HZZ.out⟩

def InitOf (k nw n : Nat) (F : Nat → Fr) (w : World) (e : Ending) (w' : World) : Prop :=
  ∃ (A : Option Addr) (c g c' : Nat) (wd : Nat → Int), e = .returned (.tuple #[.agg #[.int .i64 k, .slice A nw c, .slice (some ⟨g, 0, none⟩) n c'], .int .i64 0]) ∧
    Own w' w.heap.size A nw c wd ∧ OwnT w' w.heap.size (some ⟨g, 0, none⟩) n c' F ∧ ValidP k nw wd n F ∧ Below w.heap.size w w'

theorem Own.where_ {w : World} {base n c : Nat} {A : Option Addr} {f : Nat → Int} (h : Own w base A n c f) (hn : 0 < n) : ∃ x, A = some ⟨x, 0, none⟩ ∧ base ≤ x ∧ x < w.heap.size := by
  obtain ⟨h1, _, h | ⟨g, cur, hA, hb, hg, _⟩⟩ := h
  · omega
  · exact ⟨g, hA, hb, blk_lt hg⟩

set_option maxHeartbeats 2000000 in
theorem init_pos (k nw n c c' : Nat) (A A' : Option Addr) (wd : Nat → Int) (F : Nat → Fr) (first last o st : Int) (m W r d : Nat) (w : World) (hA : Arr w w.heap.size A nw c wd) (hT : Tab w w.heap.size A' n c' F) (hv : ValidP k nw wd n F)
    (hc : ChainP F n first last m o st) (hs : stB st o = true) (hr : r ≤ 15) (hd : d ≤ 32) (hW : W + (1 + r + d) ≤ m * 2 ^ k) :
    Calls Try.prog 46 #[.agg #[.int .i64 k, .slice A nw c, .slice A' n c'], .int .i64 (addrP F k first W), .int .i64 r, .int .i64 d] w (InitOf k nw n F w) := by
  have hk := shB_yes hv.1
  have hn := nfB_yes hv.2.1
  have hnw : nw = n * 2 ^ k := by have := hv.2.2.1; rw [Int.toNat_natCast] at this; exact this
  have hpl := prod_le (show n ≤ 64 by omega) (show k ≤ 8 by omega)
  rw [← hnw] at hpl
  have hnw0 : 0 < nw := by rw [hnw]; exact Nat.mul_pos (by omega) (Nat.two_pow_pos k)
  have HA := Lib.hid hA
  have HT := Lib.hid hT
  have HV := Lib.hid hv
  have HVB := Lib.hid (validB_yes hv)
  have HC := Lib.hid hc
  have HS := Lib.hid hs
  have HNW := Lib.hid hnw
  obtain ⟨a, ha⟩ : ∃ a, a = addrP F k first W := ⟨_, rfl⟩
  rw [← ha]
  have HEA := Lib.hid ha
  obtain ⟨U, hU⟩ : ∃ U, U = (w.alloc (.cells #[.int .i64 k, .slice A nw c, .slice A' n c'] 25)).alloc (.cells #[.int .i64 0, .slice none 0 0, .slice none 0 0] 25) := ⟨_, rfl⟩
  have BS : Blk U w.heap.size 25 #[.int .i64 k, .slice A nw c, .slice A' n c'] := by rw [hU]; exact (Blk.new _ _ _).alloc _
  have BR : Blk U (w.heap.size + 1) 25 #[.int .i64 0, .slice none 0 0, .slice none 0 0] := by rw [hU]; exact Blk.newAt _ _ _ _ (by simp)
  have HBU : Hid (Below w.heap.size w U) := by rw [hU]; exact ((Below.refl _ _).alloc (Nat.le_refl _) _).alloc (by simp) _
  have HU := Lib.hid hU
  clear hA hT hv hc hs hnw hU ha
  go_enter Try.func46, Try.ntmps46
  go_wp2_with fail
  rw [← HU.out]
  refine (refValid_any k A A' nw c n c' wd F U (HA.out.next HBU.out) (HT.out.next HBU.out)).mono ?_
  rintro e U1 ⟨rfl, hb1⟩
  rw [HVB.out]
  have BS1 := BS.next hb1
  have BR1 := BR.next hb1
  have HB1 : Hid (Below w.heap.size w U1) := below_next HBU.out (Nat.le_refl _) hb1
  have p0 := BS1.cell 0
  have p1 := BS1.cell 1
  have p2 := BS1.cell 2
  simp at p0 p1 p2
  clear hb1
  go_wp2_with fail
  refine (copy_any k A A' nw c n c' wd F U1 (HA.out.next HB1.out) (HT.out.next HB1.out) (by omega) (by omega) (by omega)).mono ?_
  rintro e U3 ⟨A1, c1, g, c2, rfl, ho, ht, hb3⟩
  obtain ⟨x, rfl, xb, xz⟩ := ho.where_ hnw0
  have hgb := ht.bounds
  have BR3 := BR1.next hb3
  have HB3 : Hid (Below w.heap.size w U3) := below_next HB1.out (Nat.le_refl _) hb3
  have z1 : w.heap.size + 1 < U1.heap.size := BR1.lt
  obtain ⟨X, hX⟩ : ∃ X, X = U3.alloc (.cells #[.int .i64 k, .slice (some ⟨x, 0, none⟩) nw c1, .slice (some ⟨g, 0, none⟩) n c2] 25) := ⟨_, rfl⟩
  have BO : Blk X U3.heap.size 25 #[.int .i64 k, .slice (some ⟨x, 0, none⟩) nw c1, .slice (some ⟨g, 0, none⟩) n c2] := by rw [hX]; exact Blk.new _ _ _
  have hbx : Below U3.heap.size U3 X := by rw [hX]; exact (Below.refl _ _).alloc (Nat.le_refl _) _
  have BR4 := BR3.next hbx
  have HB4 : Hid (Below w.heap.size w X) := below_next HB3.out (Nat.le_refl _) hbx
  have HO4 := Lib.hid (ho.below hbx)
  have HT4 := Lib.hid (ht.below hbx)
  have HX := Lib.hid hX
  clear ho ht hb3 p0 p1 p2 hX hbx BS1 BR3
  go_wp2_with fail
  rw [← HX.out, HEA.out]
  refine (make_pos k nw n c1 c2 x g U1.heap.size wd F first last o st m W r d X HO4.out HT4.out (by omega) (by omega) (by omega) HNW.out HV.out.fv HV.out.zr HC.out HS.out hr hd hW).mono ?_
  rintro e X5 ⟨wd5, rfl, ho5, hg5, hz5⟩
  have HO5 := Lib.hid ho5
  have HT5 := Lib.hid (HT4.out.beside HO4.out hg5).1
  have BO5 := BO.turn hg5 (by omega)
  have BR5 := BR4.turn hg5 (by omega)
  have HB5 : Hid (Below w.heap.size w X5) := HB4.out.trans (turn_under hg5 (by omega) HB4.out.size)
  have hval : ValidP k nw wd5 n F := ValidP.mk_ HV.out.1 HV.out.2.1 HV.out.2.2.1 HV.out.fv hz5
  have HVAL := Lib.hid hval
  have o0 := BO5.cell 0
  have o1 := BO5.cell 1
  have o2 := BO5.cell 2
  have r0 := BR5.cell 0
  have r1 := BR5.cell 1
  have r2 := BR5.cell 2
  have rf0 := BR5.frozen 0
  have rf1 := BR5.frozen 1
  have rf2 := BR5.frozen 2
  have zR : w.heap.size + 1 < X5.heap.size := BR5.lt
  simp at o0 o1 o2 r0 r1 r2
  clear ho5 hg5 hz5 hval BO BR4 BS BR
  go_wp2
  refine bodyPost_ret (v := .tuple #[.agg #[.int .i64 k, .slice (some ⟨x, 0, none⟩) nw c1, .slice (some ⟨g, 0, none⟩) n c2], .int .i64 0]) (by simp [results, Try.results46, go_sem, r0, r1, r2]) rfl ⟨_, _, _, _, wd5, rfl, ?_, ?_, HVAL.out, ?_⟩
  · exact (HO5.out.put3 (by omega) _ _ _).lower (by omega)
  · exact (HT5.out.put3 (by omega) _ _ _).lower (by omega)
  · exact below_put3 HB5.out (by omega) _ _ _
end Go.Proofs.Ytpbcpobbjoopnaa
