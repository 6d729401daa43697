/-
  Contracts of package bump and of the reference of layer 9: Frames, Extra, countFrames, Valid, for every raw space and every increment. (Made by mkbmp-s9.py.)
-/
import Derived.Test.YtkknmphigpcjjaaMSpace
import Derived.Test.YtkknmphigpcjjaaMHead
import Derived.Test.YtkknmphigpcjjaaMChain
import Derived.Deep.RegionHeld3
import Derived.Deep.DeepCutAuto
namespace Go.Proofs.Ytkknmphigpcjjaa
open Go.RowKit
set_option maxRecDepth 100000
set_option linter.unusedVariables false

theorem ceilZ_nat {W k : Nat} (h : W ≤ 1099511627776) (hk : k ≤ 20) : Hd.ceilZ W k = (ceilV W k : Nat) := by
  unfold Hd.ceilZ
  rw [if_pos ⟨by omega, by omega, by omega, by omega⟩, Int.toNat_natCast]
  exact ceilV_cast W k
theorem ceilZ_big {wo : Int} {k : Nat} (h : 1099511627776 < wo) : Hd.ceilZ wo k = 0 := by
  unfold Hd.ceilZ
  rw [if_neg (by omega)]
theorem frames9_any (s wo : Int) (V1 V2 : Value) (sq bt fi la : Int) (w : World) :
    Calls Try.prog 40 #[.agg #[.int .i64 s, V1, V2], .agg #[.int .i64 sq, .int .i64 bt, .int .i64 fi, .int .i64 la, .int .i64 wo]] w fun e w' => e = .returned (.int .i64 (Hd.ceilZ wo s)) ∧ Below w.heap.size w w' := by
  go_enter Try.func40, Try.ntmps40
  go_wp2_with fail
  refine (Hd.ceil_any wo s _).mono ?_
  rintro e w' ⟨rfl, rfl⟩
  go_wp2
  go_ret
  exact ⟨rfl, ((Below.refl _ _).alloc (Nat.le_refl _) _).alloc (by simp) _⟩
theorem refFrames9_any (s wo : Int) (V1 V2 : Value) (sq bt fi la : Int) (w : World) :
    Calls Try.prog 41 #[.agg #[.int .i64 s, V1, V2], .agg #[.int .i64 sq, .int .i64 bt, .int .i64 fi, .int .i64 la, .int .i64 wo]] w fun e w' => e = .returned (.int .i64 (Hd.ceilZ wo s)) ∧ Below w.heap.size w w' := by
  go_enter Try.func41, Try.ntmps41
  go_wp2_with fail
  refine (Hd.refCeil_any wo s _).mono ?_
  rintro e w' ⟨rfl, rfl⟩
  go_wp2
  go_ret
  exact ⟨rfl, ((Below.refl _ _).alloc (Nat.le_refl _) _).alloc (by simp) _⟩
/-- How many frames more, as Extra computes it. -/
def extZ (s wo d : Int) : Int := IntKind.i64.wrap (Hd.ceilZ (IntKind.i64.wrap (wo + d)) s - Hd.ceilZ wo s)
set_option maxHeartbeats 1000000 in
theorem refExtra9_any (s wo d : Int) (V1 V2 : Value) (sq bt fi la : Int) (w : World) :
    Calls Try.prog 79 #[.agg #[.int .i64 s, V1, V2], .agg #[.int .i64 sq, .int .i64 bt, .int .i64 fi, .int .i64 la, .int .i64 wo], .int .i64 d] w fun e w' => e = .returned (.int .i64 (extZ s wo d)) ∧ Below w.heap.size w w' := by
  obtain ⟨W, hW⟩ : ∃ W, W = (w.alloc (.cells #[.int .i64 s, V1, V2] 25)).alloc (.cells #[.int .i64 sq, .int .i64 bt, .int .i64 fi, .int .i64 la, .int .i64 wo] 41) := ⟨_, rfl⟩
  have hBW : Below w.heap.size w W := by rw [hW]; exact ((Below.refl _ _).alloc (Nat.le_refl _) _).alloc (by simp) _
  have a0 : W.cell? ⟨w.heap.size, 0, none⟩ = some (.int .i64 s) := by rw [hW]; go_simp
  have a1 : W.cell? ⟨w.heap.size, 1, none⟩ = some V1 := by rw [hW]; go_simp
  have a2 : W.cell? ⟨w.heap.size, 2, none⟩ = some V2 := by rw [hW]; go_simp
  have b0 : W.cell? ⟨w.heap.size + 1, 0, none⟩ = some (.int .i64 sq) := by rw [hW]; go_simp
  have b1 : W.cell? ⟨w.heap.size + 1, 1, none⟩ = some (.int .i64 bt) := by rw [hW]; go_simp
  have b2 : W.cell? ⟨w.heap.size + 1, 2, none⟩ = some (.int .i64 fi) := by rw [hW]; go_simp
  have b3 : W.cell? ⟨w.heap.size + 1, 3, none⟩ = some (.int .i64 la) := by rw [hW]; go_simp
  have b4 : W.cell? ⟨w.heap.size + 1, 4, none⟩ = some (.int .i64 wo) := by rw [hW]; go_simp
  have z1 : w.heap.size < W.heap.size := by rw [hW]; simp; omega
  have z2 : w.heap.size + 1 < W.heap.size := by rw [hW]; simp
  have HW := Lib.hid hW
  have HBW := Lib.hid hBW
  obtain ⟨R1, hR1⟩ : ∃ z, z = Hd.ceilZ (IntKind.i64.wrap (wo + d)) s := ⟨_, rfl⟩
  obtain ⟨R2, hR2⟩ : ∃ z, z = Hd.ceilZ wo s := ⟨_, rfl⟩
  have HR := Lib.hid (show IntKind.i64.wrap (R1 - R2) = extZ s wo d by rw [hR1, hR2]; rfl)
  have HR1 := Lib.hid hR1
  have HR2 := Lib.hid hR2
  clear hW hBW hR1 hR2
  go_enter Try.func79, Try.ntmps79
  go_wp2
  rw [← HW.out]
  go_region_held3 (fun w' => w'.cell? ⟨w.heap.size, 0, none⟩ = some (.int .i64 s) ∧ w'.cell? ⟨w.heap.size, 1, none⟩ = some V1 ∧ w'.cell? ⟨w.heap.size, 2, none⟩ = some V2 ∧ w'.cell? ⟨w.heap.size + 1, 0, none⟩ = some (.int .i64 sq) ∧ w'.cell? ⟨w.heap.size + 1, 1, none⟩ = some (.int .i64 bt) ∧ w'.cell? ⟨w.heap.size + 1, 2, none⟩ = some (.int .i64 fi) ∧ w'.cell? ⟨w.heap.size + 1, 3, none⟩ = some (.int .i64 la) ∧ w'.cell? ⟨w.heap.size + 1, 4, none⟩ = some (.int .i64 wo))
    (first | exact ⟨a0, a1, a2, b0, b1, b2, b3, b4⟩ | exact ⟨(hb1.cell (p := ⟨_, _, none⟩) z1).trans a0, (hb1.cell (p := ⟨_, _, none⟩) z1).trans a1, (hb1.cell (p := ⟨_, _, none⟩) z1).trans a2, (hb1.cell (p := ⟨_, _, none⟩) z2).trans b0, (hb1.cell (p := ⟨_, _, none⟩) z2).trans b1, (hb1.cell (p := ⟨_, _, none⟩) z2).trans b2, (hb1.cell (p := ⟨_, _, none⟩) z2).trans b3, (hb1.cell (p := ⟨_, _, none⟩) z2).trans b4⟩)
    (first
      | (go_at_call 63; refine (Hd.refCeil_any _ s _).mono ?_; rintro e w' ⟨rfl, rfl⟩; rw [← HR1.out])
      | (go_at_call 41; refine (refFrames9_any s wo V1 V2 sq bt fi la _).mono ?_; rintro e w1 ⟨rfl, hb1⟩; rw [← HR2.out]))
  all_goals
    have HB1 := Lib.hid hb1
    clear hb1
    go_wp2
    go_ret
    exact ⟨ret_i64 HR.out, below_next HBW.out.drew (Nat.le_refl _) HB1.out⟩

set_option maxHeartbeats 1000000 in
theorem count9_any (s : Int) (V1 : Value) (A' : Option Addr) (n c' : Nat) (F : Nat → Fr) (sq : Int) (w : World) (hT : Tab w w.heap.size A' n c' F) (hn : n ≤ 80) :
    Calls Try.prog 86 #[.agg #[.int .i64 s, V1, .slice A' n c'], .int .i64 sq] w fun e w' => e = .returned (.int .i64 (cntO F sq n : Nat)) ∧ Below w.heap.size w w' := by
  have HT := Lib.hid hT
  have HB0 : Hid (Below w.heap.size w (w.alloc (.cells #[.int .i64 s, V1, .slice A' n c'] 25))) := (Below.refl _ _).alloc (Nat.le_refl _) _
  clear hT
  go_enter Try.func86, Try.ntmps86
  go_wp2
  go_loopw [5, 7, 11] (fun q _ i wr => ∃ t cnt : Nat, t ≤ n ∧ cnt ≤ t ∧ cnt = cntO F sq t ∧ q = .int .i64 cnt ∧ i = .int .i64 t ∧ Below w.heap.size w wr) (fun _ _ i _ => n - (intOf i).toNat)
  case atStart => exact ⟨0, 0, by omega, by omega, rfl, rfl, rfl, HB0.out⟩
  case round =>
    obtain ⟨t, cnt, ht, hct, hcn, rfl, rfl, hb⟩ := hrel
    have HCN := Lib.hid hcn
    have HB := Lib.hid hb
    clear hb hcn
    by_cases hlt : t < n
    · have hlt2 : 0 ≤ (t : Int) ∧ (t : Int) < n := by omega
      have HTR : Hid (Tab wr w.heap.size A' n c' F) := HT.out.below HB.out
      obtain ⟨b, o, rfl, hbb⟩ := HTR.out.base_ (by omega)
      obtain ⟨_, c0, c1, c2⟩ := HTR.out.cells t hlt
      have bz : b < wr.heap.size := by have := HB.out.size; omega
      obtain ⟨x, hx⟩ : ∃ x, x = (F t).ow := ⟨_, rfl⟩
      rw [← hx] at c0
      have HC1 := Lib.hid (show cntO F sq (t + 1) = cnt + (if x = sq then 1 else 0) by rw [HCN.out, hx]; rfl)
      have HBN : Hid (Below w.heap.size w (wr.alloc (.cells #[.int .i64 x, .int .i64 (F t).st, .int .i64 (F t).nx] 69))) := HB.out.alloc HB.out.size _
      clear hx
      by_cases hx0 : x = sq
      · subst hx0
        go_wp2
        exact ⟨⟨t + 1, cnt + 1, by omega, by omega, by have h := HC1.out; rw [if_pos rfl] at h; exact h.symm, by go_num, by go_num, HBN.out⟩, by simp [intOf]; omega⟩
      · have hb1 : (x == sq) = false := by simpa using hx0
        have HX9 := Lib.hid hx0
        clear hx0
        go_wp2
        exact ⟨⟨t + 1, cnt, by omega, by omega, by rw [HC1.out, if_neg HX9.out]; rfl, rfl, by go_num, HBN.out⟩, by simp [intOf]; omega⟩
    · have hlt2 : ¬ (t : Int) < n := by omega
      have HE := Lib.hid (show cnt = cntO F sq n by rw [HCN.out, show t = n by omega])
      go_wp2
      go_ret
      exact ⟨by rw [← HE.out]; rfl, HB.out⟩

/-- Whether the numbers of an increment are permitted. -/
def permB (sq bt wo : Int) : Bool := decide (0 ≤ sq) && (decide (sq ≤ 4294967295) && (decide (0 ≤ bt) && (decide (bt < 4) && decide (0 ≤ wo))))
theorem perm_any (sq bt fi la wo : Int) (w : World) :
    Calls Try.prog 74 #[.agg #[.int .i64 sq, .int .i64 bt, .int .i64 fi, .int .i64 la, .int .i64 wo]] w fun e w' => e = .returned (.bool (permB sq bt wo)) ∧ Below w.heap.size w w' := by
  have HB := Lib.hid (show Below w.heap.size w (w.alloc (.cells #[.int .i64 sq, .int .i64 bt, .int .i64 fi, .int .i64 la, .int .i64 wo] 41)) from (Below.refl _ _).alloc (Nat.le_refl _) _)
  by_cases h1 : 0 ≤ sq
  · by_cases h2 : sq ≤ 4294967295
    · by_cases h3 : 0 ≤ bt
      · by_cases h4 : bt < 4
        · by_cases h5 : 0 ≤ wo
          · have HP := Lib.hid (show permB sq bt wo = true by simp [permB, h1, h2, h3, h4, h5])
            rw [HP.out]
            go_enter Try.func74, Try.ntmps74
            go_wp2
            go_ret
            exact ⟨rfl, HB.out⟩
          · have HP := Lib.hid (show permB sq bt wo = false by simp [permB, h5])
            rw [HP.out]
            go_enter Try.func74, Try.ntmps74
            go_wp2
            go_ret
            exact ⟨rfl, HB.out⟩
        · have HP := Lib.hid (show permB sq bt wo = false by simp [permB, h4])
          rw [HP.out]
          go_enter Try.func74, Try.ntmps74
          go_wp2
          go_ret
          exact ⟨rfl, HB.out⟩
      · have HP := Lib.hid (show permB sq bt wo = false by simp [permB, h3])
        rw [HP.out]
        go_enter Try.func74, Try.ntmps74
        go_wp2
        go_ret
        exact ⟨rfl, HB.out⟩
    · have HP := Lib.hid (show permB sq bt wo = false by simp [permB, h2])
      rw [HP.out]
      go_enter Try.func74, Try.ntmps74
      go_wp2
      go_ret
      exact ⟨rfl, HB.out⟩
  · have HP := Lib.hid (show permB sq bt wo = false by simp [permB, h1])
    rw [HP.out]
    go_enter Try.func74, Try.ntmps74
    go_wp2
    go_ret
    exact ⟨rfl, HB.out⟩

/-- When the frames from p on are an increment's. -/
theorem chain_fits {k n nw p : Nat} {F : Nat → Fr} {sq bt la wo : Int} (hv : FV F n) (hp : p < n) (ho : (F p).ow ≠ -1) (hq : 0 ≤ sq ∧ sq ≤ 4294967295) (hb : 0 ≤ bt ∧ bt < 4) (h8 : k ≤ 8) (hn : n ≤ 64) (hnw : nw = n * 2 ^ k) (hw : 0 < wo) :
    FitsQ k n nw F sq bt p la wo ↔ (F p).st = bt * 4294967296 + sq ∧ iter F ((chL F n p).length - 1) p = la ∧ ((chL F n p).length : Int) = Hd.ceilZ wo k ∧ cntO F sq n = (chL F n p).length := by
  obtain ⟨m, hm1, hlen⟩ := hv.len hp
  rw [chL_length hlen hm1]
  have hpl := prod_le hn h8
  rw [← hnw] at hpl
  constructor
  · rintro ⟨⟨_, _, _, _, W, hW, hWn, hc, _⟩, h2⟩
    have hst : stB (bt * 4294967296 + sq) sq = true := by
      refine decide_eq_true ⟨hq.1, hq.2, ?_⟩
      rcases (show bt = 0 ∨ bt = 1 ∨ bt = 2 ∨ bt = 3 by omega) with h | h | h | h <;> subst h <;> omega
    have h3 := h2 (by omega)
    subst hW
    rw [Int.toNat_natCast] at h3
    have hM := ceilV_pos (k := k) (W := W) (by omega)
    have h5 : LenP F p (ceilV W k) := ⟨hc.end_ hM, fun i hi he => by obtain ⟨q, hq1, _⟩ := hc.at_ hv hst hi; omega⟩
    have h6 := hlen.uniq h5
    rcases hc with ⟨h7, _⟩ | ⟨_, p', l, h7, _, h8', _, h9, _, h10, h11⟩
    · omega
    · obtain rfl : p = p' := by omega
      refine ⟨h11, by rw [h6, h9, h8'], ?_, by omega⟩
      rw [ceilZ_nat (by omega) (by omega), h6]
  · rintro ⟨h1, h2, h3, h4⟩
    have hmn : m ≤ n := by rw [← h4]; exact cntO_le F sq n
    have hm0 := hlen.pos
    have hle : wo ≤ 1099511627776 := by
      rcases (show wo ≤ 1099511627776 ∨ 1099511627776 < wo by omega) with h | h
      · exact h
      · rw [ceilZ_big h] at h3; omega
    obtain ⟨W, rfl⟩ : ∃ W : Nat, wo = W := ⟨wo.toNat, by omega⟩
    rw [ceilZ_nat (by omega) (by omega)] at h3
    have h3' : m = ceilV W k := by omega
    have hcov := ceilV_cover W k
    have hle2 : ceilV W k * 2 ^ k ≤ n * 2 ^ k := Nat.mul_le_mul_right _ (by omega)
    have hsb := stB_yes (ownB_yes (hv.own hp ho)).1
    have how : (F p).ow = sq := by rw [h1] at hsb; omega
    obtain ⟨_, hcm⟩ := chain_mk hv hp how h1 hlen.1 hlen.2
    refine ⟨⟨hq.1, hq.2, hb.1, hb.2, W, rfl, by omega, by rw [← h3']; exact hcm la h2, fun h => by omega⟩, fun _ => ?_⟩
    rw [Int.toNat_natCast, h4, h3']

set_option maxHeartbeats 4000000 in
theorem isChain_any (k : Nat) (V1 : Value) (A' : Option Addr) (nw n c' p : Nat) (F : Nat → Fr) (sq bt la wo : Int) (Al : Option Addr) (cl : Nat) (w : World) (hT : Tab w w.heap.size A' n c' F) (hL : Nums w w.heap.size Al (chL F n p).length cl (numF (chL F n p)))
    (hn : n ≤ 64) (hv : FV F n) (h8 : k ≤ 8) (hp : p < n) (ho : (F p).ow ≠ -1) (hq : 0 ≤ sq ∧ sq ≤ 4294967295) (hb : 0 ≤ bt ∧ bt < 4) (hnw : nw = n * 2 ^ k) (hw : 0 < wo) :
    Calls Try.prog 75 #[.agg #[.int .i64 k, V1, .slice A' n c'], .agg #[.int .i64 sq, .int .i64 bt, .int .i64 p, .int .i64 la, .int .i64 wo], .slice Al (chL F n p).length cl] w (FitsX k n nw F sq bt p la wo w) := by
  have HQ := Lib.hid (chain_fits (la := la) hv hp ho hq hb h8 hn hnw hw)
  obtain ⟨m, hm1, hlen⟩ := hv.len hp
  have hcl := chL_length (n := n) hlen hm1
  have hm0 := hlen.pos
  obtain ⟨L, hLL⟩ : ∃ L, L = iter F (m - 1) p := ⟨_, rfl⟩
  have hlast := numF_chL hv hp hlen (show m - 1 < m by omega)
  obtain ⟨lb, lo, rfl, lz, lc⟩ := hL.at_ (m - 1) (by rw [hcl]; omega)
  rw [show numF (chL F n p) (m - 1) = iter F (m - 1) p from hlast, ← hLL] at lc
  have hmc := hL.le
  rw [hcl] at hmc
  rw [hcl] at HQ ⊢
  rw [← hLL] at HQ
  obtain ⟨b, o, rfl, hbb⟩ := hT.base_ (by omega)
  obtain ⟨U, hU⟩ : ∃ U, U = (w.alloc (.cells #[.int .i64 k, V1, .slice (some ⟨b, o, none⟩) n c'] 25)).alloc (.cells #[.int .i64 sq, .int .i64 bt, .int .i64 p, .int .i64 la, .int .i64 wo] 41) := ⟨_, rfl⟩
  have BS : Blk U w.heap.size 25 #[.int .i64 k, V1, .slice (some ⟨b, o, none⟩) n c'] := by rw [hU]; exact (Blk.new _ _ _).alloc _
  have BI : Blk U (w.heap.size + 1) 41 #[.int .i64 sq, .int .i64 bt, .int .i64 p, .int .i64 la, .int .i64 wo] := by rw [hU]; exact Blk.newAt _ _ _ _ (by simp)
  have HBU : Hid (Below w.heap.size w U) := by rw [hU]; exact ((Below.refl _ _).alloc (Nat.le_refl _) _).alloc (by simp) _
  have HU := Lib.hid hU
  have HT := Lib.hid (hT.next HBU.out)
  obtain ⟨hbu, c0, c1, c2⟩ := HT.out.cells p hp
  have lc2 : U.cell? ⟨lb, lo + (m - 1), none⟩ = some (.int .i64 L) := (HBU.out.cell (p := ⟨lb, lo + (m - 1), none⟩) lz).trans lc
  have lz2 : lb < U.heap.size := Nat.lt_of_lt_of_le lz HBU.out.size
  have p0 := BS.cell 0
  have p1 := BS.cell 1
  have p2 := BS.cell 2
  have q0 := BI.cell 0
  have q1 := BI.cell 1
  have q2 := BI.cell 2
  have q3 := BI.cell 3
  have q4 := BI.cell 4
  simp at p0 p1 p2 q0 q1 q2 q3 q4
  have zs : w.heap.size < U.heap.size := BS.lt
  have zi : w.heap.size + 1 < U.heap.size := BI.lt
  have hpi : 0 ≤ (p : Int) ∧ (p : Int) < n := by omega
  have s1 : IntKind.i64.wrap ((m : Int) - 1) = ((m - 1 : Nat) : Int) := by rw [IntWalk.i64_in _ (by omega)]; omega
  have s2 : 0 ≤ ((m - 1 : Nat) : Int) ∧ ((m - 1 : Nat) : Int) < m := by omega
  have sm : 0 ≤ bt * 4294967296 ∧ bt * 4294967296 ≤ 12884901888 := by omega
  obtain ⟨st, hst⟩ : ∃ x, x = (F p).st := ⟨_, rfl⟩
  rw [← hst] at c1 HQ
  clear hT hL hv hU hLL hlast lc hst hlen hcl BS BI
  by_cases e1 : st = bt * 4294967296 + sq
  · have eb : (st != bt * 4294967296 + sq) = false := by simpa using e1
    have eb2 : (st == bt * 4294967296 + sq) = true := by simpa using e1
    have HE1 := Lib.hid e1
    clear e1
    go_enter Try.func75, Try.ntmps75
    go_wp2_with fail
    rw [← HU.out]
    go_region
    go_wp2_with fail
    have HTD := Lib.hid (show Tab U.drew U.drew.heap.size (some ⟨b, o, none⟩) n c' F from HT.out)
    have HBD : Hid (Below w.heap.size w U.drew) := HBU.out.drew
    by_cases e2 : L = la
    · have ec : (la != L) = false := by simp [e2]
      have HE2 := Lib.hid e2
      clear e2
      obtain ⟨cz, hcz⟩ : ∃ z, z = Hd.ceilZ wo k := ⟨_, rfl⟩
      rw [← hcz] at HQ
      have HCZ := Lib.hid hcz
      clear hcz
      by_cases e3 : (m : Int) = cz
      · have wz : ((m : Int) != cz) = false := by simp [e3]
        have HE3 := Lib.hid e3
        clear e3
        go_region_held3 (fun w' => w'.cell? ⟨w.heap.size, 0, none⟩ = some (.int .i64 k) ∧ w'.cell? ⟨w.heap.size, 1, none⟩ = some V1 ∧ w'.cell? ⟨w.heap.size, 2, none⟩ = some (.slice (some ⟨b, o, none⟩) n c') ∧ w'.cell? ⟨w.heap.size + 1, 0, none⟩ = some (.int .i64 sq) ∧ w'.cell? ⟨w.heap.size + 1, 1, none⟩ = some (.int .i64 bt) ∧ w'.cell? ⟨w.heap.size + 1, 2, none⟩ = some (.int .i64 p) ∧ w'.cell? ⟨w.heap.size + 1, 3, none⟩ = some (.int .i64 la) ∧ w'.cell? ⟨w.heap.size + 1, 4, none⟩ = some (.int .i64 wo) ∧ w'.cell? ⟨lb, lo + (m - 1), none⟩ = some (.int .i64 L))
          (first | exact ⟨p0, p1, p2, q0, q1, q2, q3, q4, lc2⟩ | exact ⟨(hb1.cell (p := ⟨_, _, none⟩) zs).trans p0, (hb1.cell (p := ⟨_, _, none⟩) zs).trans p1, (hb1.cell (p := ⟨_, _, none⟩) zs).trans p2, (hb1.cell (p := ⟨_, _, none⟩) zi).trans q0, (hb1.cell (p := ⟨_, _, none⟩) zi).trans q1, (hb1.cell (p := ⟨_, _, none⟩) zi).trans q2, (hb1.cell (p := ⟨_, _, none⟩) zi).trans q3, (hb1.cell (p := ⟨_, _, none⟩) zi).trans q4, (hb1.cell (p := ⟨_, _, none⟩) lz2).trans lc2⟩)
          (first | (go_at_call 40; refine (frames9_any k wo V1 (.slice (some ⟨b, o, none⟩) n c') sq bt p la _).mono ?_; rintro e w1 ⟨rfl, hb1⟩; rw [← HCZ.out]))
        have HB1 : Hid (Below w.heap.size w w1) := below_next HBD.out.drew (Nat.le_refl _) hb1
        have HT1 := Lib.hid ((show Tab U.drew.drew U.drew.drew.heap.size (some ⟨b, o, none⟩) n c' F from HTD.out).next hb1)
        have r0 : w1.cell? ⟨w.heap.size, 0, none⟩ = some (.int .i64 k) := (hb1.cell (p := ⟨_, _, none⟩) zs).trans p0
        have r1 : w1.cell? ⟨w.heap.size, 1, none⟩ = some V1 := (hb1.cell (p := ⟨_, _, none⟩) zs).trans p1
        have r2 : w1.cell? ⟨w.heap.size, 2, none⟩ = some (.slice (some ⟨b, o, none⟩) n c') := (hb1.cell (p := ⟨_, _, none⟩) zs).trans p2
        have r3 : w1.cell? ⟨w.heap.size + 1, 0, none⟩ = some (.int .i64 sq) := (hb1.cell (p := ⟨_, _, none⟩) zi).trans q0
        have zs1 : w.heap.size < w1.heap.size := Nat.lt_of_lt_of_le zs hb1.size
        have zi1 : w.heap.size + 1 < w1.heap.size := Nat.lt_of_lt_of_le zi hb1.size
        clear hb1 p0 p1 p2 q0 q1 q2 q3 q4 lc2 c0 c1 c2
        go_wp2_with fail
        refine (count9_any k V1 _ n c' F sq w1 HT1.out (by omega)).mono ?_
        rintro e w2 ⟨rfl, hb2⟩
        have HB2 : Hid (Below w.heap.size w w2) := below_next HB1.out (Nat.le_refl _) hb2
        obtain ⟨cn, hcn⟩ : ∃ z, z = cntO F sq n := ⟨_, rfl⟩
        rw [← hcn] at HQ ⊢
        have HF := Lib.hid (show ∀ R : Bool, R = decide (cn = m) → (R = true ↔ FitsQ k n nw F sq bt p la wo) from fun R hR => by rw [hR, decide_eq_true_eq, HQ.out]; exact ⟨fun h => ⟨HE1.out, HE2.out, HE3.out, h⟩, fun h => h.2.2.2⟩)
        have x1 : ((cn : Int) == (m : Int)) = decide (cn = m) := by rw [Bool.eq_iff_iff, beq_iff_eq, decide_eq_true_eq]; omega
        have x2 : (cn == m) = decide (cn = m) := by rw [Bool.eq_iff_iff, beq_iff_eq, decide_eq_true_eq]
        clear hcn hb2
        go_wp2
        go_ret
        exact ⟨_, rfl, HF.out _ (by first | rfl | exact x1 | exact x2), HB2.out⟩
      · have wz : ((m : Int) != cz) = true := by simpa using e3
        have HE3 := Lib.hid e3
        clear e3
        go_region_held3 (fun w' => w'.cell? ⟨w.heap.size, 0, none⟩ = some (.int .i64 k) ∧ w'.cell? ⟨w.heap.size, 1, none⟩ = some V1 ∧ w'.cell? ⟨w.heap.size, 2, none⟩ = some (.slice (some ⟨b, o, none⟩) n c') ∧ w'.cell? ⟨w.heap.size + 1, 0, none⟩ = some (.int .i64 sq) ∧ w'.cell? ⟨w.heap.size + 1, 1, none⟩ = some (.int .i64 bt) ∧ w'.cell? ⟨w.heap.size + 1, 2, none⟩ = some (.int .i64 p) ∧ w'.cell? ⟨w.heap.size + 1, 3, none⟩ = some (.int .i64 la) ∧ w'.cell? ⟨w.heap.size + 1, 4, none⟩ = some (.int .i64 wo) ∧ w'.cell? ⟨lb, lo + (m - 1), none⟩ = some (.int .i64 L))
          (first | exact ⟨p0, p1, p2, q0, q1, q2, q3, q4, lc2⟩ | exact ⟨(hb1.cell (p := ⟨_, _, none⟩) zs).trans p0, (hb1.cell (p := ⟨_, _, none⟩) zs).trans p1, (hb1.cell (p := ⟨_, _, none⟩) zs).trans p2, (hb1.cell (p := ⟨_, _, none⟩) zi).trans q0, (hb1.cell (p := ⟨_, _, none⟩) zi).trans q1, (hb1.cell (p := ⟨_, _, none⟩) zi).trans q2, (hb1.cell (p := ⟨_, _, none⟩) zi).trans q3, (hb1.cell (p := ⟨_, _, none⟩) zi).trans q4, (hb1.cell (p := ⟨_, _, none⟩) lz2).trans lc2⟩)
          (first | (go_at_call 40; refine (frames9_any k wo V1 (.slice (some ⟨b, o, none⟩) n c') sq bt p la _).mono ?_; rintro e w1 ⟨rfl, hb1⟩; rw [← HCZ.out]))
        have HB1 : Hid (Below w.heap.size w w1) := below_next HBD.out.drew (Nat.le_refl _) hb1
        have HT1 := Lib.hid ((show Tab U.drew.drew U.drew.drew.heap.size (some ⟨b, o, none⟩) n c' F from HTD.out).next hb1)
        have r0 : w1.cell? ⟨w.heap.size, 0, none⟩ = some (.int .i64 k) := (hb1.cell (p := ⟨_, _, none⟩) zs).trans p0
        have r1 : w1.cell? ⟨w.heap.size, 1, none⟩ = some V1 := (hb1.cell (p := ⟨_, _, none⟩) zs).trans p1
        have r2 : w1.cell? ⟨w.heap.size, 2, none⟩ = some (.slice (some ⟨b, o, none⟩) n c') := (hb1.cell (p := ⟨_, _, none⟩) zs).trans p2
        have r3 : w1.cell? ⟨w.heap.size + 1, 0, none⟩ = some (.int .i64 sq) := (hb1.cell (p := ⟨_, _, none⟩) zi).trans q0
        have zs1 : w.heap.size < w1.heap.size := Nat.lt_of_lt_of_le zs hb1.size
        have zi1 : w.heap.size + 1 < w1.heap.size := Nat.lt_of_lt_of_le zi hb1.size
        clear hb1 p0 p1 p2 q0 q1 q2 q3 q4 lc2 c0 c1 c2
        go_wp2
        go_ret
        exact ⟨_, rfl, no_fit (fun h => HE3.out (HQ.out.1 h).2.2.1), HB1.out⟩
    · have ec : (la != L) = true := by simpa using fun h => e2 h.symm
      have HE2 := Lib.hid e2
      clear e2
      refine wp_region_held_drew (S := (fun w' => w'.cell? ⟨w.heap.size, 0, none⟩ = some (.int .i64 k) ∧ w'.cell? ⟨w.heap.size, 1, none⟩ = some V1 ∧ w'.cell? ⟨w.heap.size, 2, none⟩ = some (.slice (some ⟨b, o, none⟩) n c') ∧ w'.cell? ⟨w.heap.size + 1, 0, none⟩ = some (.int .i64 sq) ∧ w'.cell? ⟨w.heap.size + 1, 1, none⟩ = some (.int .i64 bt) ∧ w'.cell? ⟨w.heap.size + 1, 2, none⟩ = some (.int .i64 p) ∧ w'.cell? ⟨w.heap.size + 1, 3, none⟩ = some (.int .i64 la) ∧ w'.cell? ⟨w.heap.size + 1, 4, none⟩ = some (.int .i64 wo) ∧ w'.cell? ⟨lb, lo + (m - 1), none⟩ = some (.int .i64 L))) (by kernel_rfl) ?_ (fun hHeld => ?_)
      · exact ⟨p0, p1, p2, q0, q1, q2, q3, q4, lc2⟩
      (refine wpAnyH_take (i := 0) (v := ?_) rfl (by kernel_rfl) (by kernel_rfl) (by kernel_rfl) (fun _ _ _ h => h) (Or.inl ⟨by rfl, ?_⟩) (by assumption) ?_; rotate_left 1; (focus (intro w' hSw; (try dsimp only at hSw); go_simp; (try with_reducible rfl); done)); try simp only [Act.put, List.setIfInBounds_toArray, List.set_cons_zero, List.set_cons_succ, List.getElem_toArray, List.getElem_cons_zero])
      (refine wpAnyH_take (i := 1) (v := ?_) rfl (by kernel_rfl) (by kernel_rfl) (by kernel_rfl) (fun _ _ _ h => h) (Or.inl ⟨by rfl, ?_⟩) (by assumption) ?_; rotate_left 1; (focus (intro w' hSw; (try dsimp only at hSw); go_simp; (try with_reducible rfl); done)); try simp only [Act.put, List.setIfInBounds_toArray, List.set_cons_zero, List.set_cons_succ, List.getElem_toArray, List.getElem_cons_zero, List.getElem_cons_succ])
      (refine wpAnyH_take (i := 2) (v := ?_) rfl (by kernel_rfl) (by kernel_rfl) (by kernel_rfl) (fun _ _ _ h => h) (Or.inl ⟨by rfl, ?_⟩) (by assumption) ?_; rotate_left 1; (focus (intro w' hSw; (try dsimp only at hSw); go_simp; (try with_reducible rfl); done)); try simp only [Act.put, List.setIfInBounds_toArray, List.set_cons_zero, List.set_cons_succ, List.getElem_toArray, List.getElem_cons_zero, List.getElem_cons_succ])
      (refine wpAnyH_take (i := 3) (v := ?_) rfl (by kernel_rfl) (by kernel_rfl) (by kernel_rfl) (fun _ _ _ h => h) (Or.inl ⟨by rfl, ?_⟩) (by assumption) ?_; rotate_left 1; (focus (intro w' hSw; (try dsimp only at hSw); go_simp; (try with_reducible rfl); done)); try simp only [Act.put, List.setIfInBounds_toArray, List.set_cons_zero, List.set_cons_succ, List.getElem_toArray, List.getElem_cons_zero, List.getElem_cons_succ])
      (refine wpAnyH_take (i := 4) (v := ?_) rfl (by kernel_rfl) (by kernel_rfl) (by kernel_rfl) (fun _ _ _ h => h) (Or.inl ⟨by rfl, ?_⟩) (by assumption) ?_; rotate_left 1; (focus (intro w' hSw; (try dsimp only at hSw); go_simp; (try with_reducible rfl); done)); try simp only [Act.put, List.setIfInBounds_toArray, List.set_cons_zero, List.set_cons_succ, List.getElem_toArray, List.getElem_cons_zero, List.getElem_cons_succ])
      (refine wpAnyH_take (i := 5) (v := ?_) rfl (by kernel_rfl) (by kernel_rfl) (by kernel_rfl) (fun _ _ _ h => h) (Or.inl ⟨by rfl, ?_⟩) (by assumption) ?_; rotate_left 1; (focus (intro w' hSw; (try dsimp only at hSw); go_simp; (try with_reducible rfl); done)); try simp only [Act.put, List.setIfInBounds_toArray, List.set_cons_zero, List.set_cons_succ, List.getElem_toArray, List.getElem_cons_zero, List.getElem_cons_succ])
      (refine wpAnyH_take (i := 6) (v := ?_) rfl (by kernel_rfl) (by kernel_rfl) (by kernel_rfl) (fun _ _ _ h => h) (Or.inl ⟨by rfl, ?_⟩) (by assumption) ?_; rotate_left 1; (focus (intro w' hSw; (try dsimp only at hSw); go_simp; (try with_reducible rfl); done)); try simp only [Act.put, List.setIfInBounds_toArray, List.set_cons_zero, List.set_cons_succ, List.getElem_toArray, List.getElem_cons_zero, List.getElem_cons_succ])
      (refine wpAnyH_take (i := 7) (v := ?_) rfl (by kernel_rfl) (by kernel_rfl) (by kernel_rfl) (fun _ _ _ h => h) (Or.inl ⟨by rfl, ?_⟩) (by assumption) ?_; rotate_left 1; (focus (intro w' hSw; (try dsimp only at hSw); go_simp; (try with_reducible rfl); done)); try simp only [Act.put, List.setIfInBounds_toArray, List.set_cons_zero, List.set_cons_succ, List.getElem_toArray, List.getElem_cons_zero, List.getElem_cons_succ])
      (refine wpAnyH_take (i := 8) (v := ?_) rfl (by kernel_rfl) (by kernel_rfl) (by kernel_rfl) (fun _ _ _ h => h) (Or.inl ⟨by rfl, ?_⟩) (by assumption) ?_; rotate_left 1; (focus (intro w' hSw; (try dsimp only at hSw); go_simp; (try with_reducible rfl); done)); try simp only [Act.put, List.setIfInBounds_toArray, List.set_cons_zero, List.set_cons_succ, List.getElem_toArray, List.getElem_cons_zero, List.getElem_cons_succ])
      (refine wpAnyH_take (i := 9) (v := ?_) rfl (by kernel_rfl) (by kernel_rfl) (by kernel_rfl) (fun _ _ _ h => h) (Or.inl ⟨by rfl, ?_⟩) (by assumption) ?_; rotate_left 1; (focus (intro w' hSw; (try dsimp only at hSw); go_simp; (try with_reducible rfl); done)); try simp only [Act.put, List.setIfInBounds_toArray, List.set_cons_zero, List.set_cons_succ, List.getElem_toArray, List.getElem_cons_zero, List.getElem_cons_succ])
      (refine wpAnyH_take (i := 10) (v := undef) rfl (by kernel_rfl) (by kernel_rfl) (by kernel_rfl) (fun _ _ _ h => h) (Or.inr ⟨by rfl, rfl⟩) (by assumption) ?_; try simp only [Act.put, List.setIfInBounds_toArray, List.set_cons_zero, List.set_cons_succ, List.getElem_toArray, List.getElem_cons_zero, List.getElem_cons_succ])
      (refine wpAnyH_take (i := 11) (v := undef) rfl (by kernel_rfl) (by kernel_rfl) (by kernel_rfl) (fun _ _ _ h => h) (Or.inr ⟨by rfl, rfl⟩) (by assumption) ?_; try simp only [Act.put, List.setIfInBounds_toArray, List.set_cons_zero, List.set_cons_succ, List.getElem_toArray, List.getElem_cons_zero, List.getElem_cons_succ])
      (refine wpAnyH_take (i := 12) (v := undef) rfl (by kernel_rfl) (by kernel_rfl) (by kernel_rfl) (fun _ _ _ h => h) (Or.inr ⟨by rfl, rfl⟩) (by assumption) ?_; try simp only [Act.put, List.setIfInBounds_toArray, List.set_cons_zero, List.set_cons_succ, List.getElem_toArray, List.getElem_cons_zero, List.getElem_cons_succ])
      (refine wpAnyH_take (i := 13) (v := undef) rfl (by kernel_rfl) (by kernel_rfl) (by kernel_rfl) (fun _ _ _ h => h) (Or.inr ⟨by rfl, rfl⟩) (by assumption) ?_; try simp only [Act.put, List.setIfInBounds_toArray, List.set_cons_zero, List.set_cons_succ, List.getElem_toArray, List.getElem_cons_zero, List.getElem_cons_succ])
      (refine wpAnyH_take (i := 14) (v := undef) rfl (by kernel_rfl) (by kernel_rfl) (by kernel_rfl) (fun _ _ _ h => h) (Or.inr ⟨by rfl, rfl⟩) (by assumption) ?_; try simp only [Act.put, List.setIfInBounds_toArray, List.set_cons_zero, List.set_cons_succ, List.getElem_toArray, List.getElem_cons_zero, List.getElem_cons_succ])
      (refine wpAnyH_take (i := 15) (v := undef) rfl (by kernel_rfl) (by kernel_rfl) (by kernel_rfl) (fun _ _ _ h => h) (Or.inr ⟨by rfl, rfl⟩) (by assumption) ?_; try simp only [Act.put, List.setIfInBounds_toArray, List.set_cons_zero, List.set_cons_succ, List.getElem_toArray, List.getElem_cons_zero, List.getElem_cons_succ])
      (refine wpAnyH_take (i := 16) (v := ?_) rfl (by kernel_rfl) (by kernel_rfl) (by kernel_rfl) (fun _ _ _ h => h) (Or.inl ⟨by rfl, ?_⟩) (by assumption) ?_; rotate_left 1; (focus (intro w' hSw; (try dsimp only at hSw); go_simp; (try with_reducible rfl); done)); try simp only [Act.put, List.setIfInBounds_toArray, List.set_cons_zero, List.set_cons_succ, List.getElem_toArray, List.getElem_cons_zero, List.getElem_cons_succ])
      refine wpAnyH_done (by kernel_rfl) ?_ _
      go_wp2
      go_ret
      exact ⟨_, rfl, no_fit (fun h => HE2.out (HQ.out.1 h).2.1), HBD.out.drew⟩
  · have eb : (st != bt * 4294967296 + sq) = true := by simpa using e1
    have eb2 : (st == bt * 4294967296 + sq) = false := by simpa using e1
    have HE1 := Lib.hid e1
    clear e1
    go_enter Try.func75, Try.ntmps75
    go_wp2_with fail
    rw [← HU.out]
    go_region
    go_wp2
    go_ret
    exact ⟨_, rfl, no_fit (fun h => HE1.out (HQ.out.1 h).1), HBU.out.drew⟩

/-- Which numbers an increment that fits has. -/
theorem fits_perm {k n nw : Nat} {F : Nat → Fr} {sq bt fi la wo : Int} (h : FitsQ k n nw F sq bt fi la wo) : permB sq bt wo = true := by
  obtain ⟨⟨h1, h2, h3, h4, W, h5, _⟩, _⟩ := h
  simp only [permB, Bool.and_eq_true, decide_eq_true_eq]
  omega
theorem fits_zero {k n nw : Nat} {F : Nat → Fr} {sq bt fi la : Int} (hp : permB sq bt 0 = true) : FitsQ k n nw F sq bt fi la 0 ↔ fi = -1 ∧ la = -1 := by
  simp only [permB, Bool.and_eq_true, decide_eq_true_eq] at hp
  constructor
  · rintro ⟨⟨_, _, _, _, W, h, _, _, h2⟩, _⟩
    exact h2 (by omega)
  · rintro ⟨rfl, rfl⟩
    exact ⟨⟨by omega, by omega, by omega, by omega, 0, rfl, by omega, .inl ⟨ceilV_zero k, rfl⟩, fun _ => ⟨rfl, rfl⟩⟩, fun h => by omega⟩
theorem fits_first {k n nw : Nat} {F : Nat → Fr} {sq bt fi la wo : Int} (h : FitsQ k n nw F sq bt fi la wo) (hw : 0 < wo) : ∃ p : Nat, fi = p ∧ p < n ∧ (F p).ow = sq ∧ (F p).st = bt * 4294967296 + sq ∧ 0 ≤ sq := by
  obtain ⟨⟨h0, _, _, _, W, e, _, hc, _⟩, _⟩ := h
  have hpos := ceilV_pos (k := k) (W := W) (by omega)
  rcases hc with ⟨h7, _⟩ | ⟨_, p', l, h7, h8, _, _, _, _, h9, h10⟩
  · omega
  · exact ⟨p', h7, h8, h9, h10, h0⟩

set_option maxHeartbeats 4000000 in
theorem inc9_any (s : Int) (A A' : Option Addr) (nw c n c' : Nat) (wd : Nat → Int) (F : Nat → Fr) (sq bt fi la wo : Int) (w : World) (hA : Arr w w.heap.size A nw c wd) (hT : Tab w w.heap.size A' n c' F) :
    Calls Try.prog 58 #[.agg #[.int .i64 s, .slice A nw c, .slice A' n c'], .agg #[.int .i64 sq, .int .i64 bt, .int .i64 fi, .int .i64 la, .int .i64 wo]] w fun e w' => e = .returned (.bool (incB s nw wd n F sq bt fi la wo)) ∧ Below w.heap.size w w' := by
  obtain ⟨U, hU⟩ : ∃ U, U = (w.alloc (.cells #[.int .i64 s, .slice A nw c, .slice A' n c'] 25)).alloc (.cells #[.int .i64 sq, .int .i64 bt, .int .i64 fi, .int .i64 la, .int .i64 wo] 41) := ⟨_, rfl⟩
  have BS := Lib.hid (show Blk U w.heap.size 25 #[.int .i64 s, .slice A nw c, .slice A' n c'] by rw [hU]; exact (Blk.new _ _ _).alloc _)
  have BI := Lib.hid (show Blk U (w.heap.size + 1) 41 #[.int .i64 sq, .int .i64 bt, .int .i64 fi, .int .i64 la, .int .i64 wo] by rw [hU]; exact Blk.newAt _ _ _ _ (by simp))
  have HBU : Hid (Below w.heap.size w U) := by rw [hU]; exact ((Below.refl _ _).alloc (Nat.le_refl _) _).alloc (by simp) _
  have HU := Lib.hid hU
  have HA := Lib.hid (hA.next HBU.out)
  have HT := Lib.hid (hT.next HBU.out)
  have p0 := BS.out.cell 0
  have p1 := BS.out.cell 1
  have p2 := BS.out.cell 2
  have q2 := BI.out.cell 2
  simp at p0 p1 p2 q2
  clear hA hT hU
  obtain ⟨E, hE⟩ : ∃ z, z = lstE s nw wd n F fi := ⟨_, rfl⟩
  obtain ⟨L, hL⟩ : ∃ z, z = lstL s nw wd n F fi := ⟨_, rfl⟩
  have HE := Lib.hid hE
  have HL := Lib.hid hL
  clear hE hL
  go_enter Try.func58, Try.ntmps58
  go_wp2_with fail
  rw [← HU.out]
  refine (list5_any s A A' nw c n c' wd F fi U HA.out HT.out).mono ?_
  rintro e U1 ⟨Al, cl, rfl, hN, hb1⟩
  rw [← HE.out, ← HL.out]
  rw [← HL.out] at hN
  have HN := Lib.hid hN
  have BS1 := BS.out.next hb1
  have BI1 := BI.out.next hb1
  have HB1 : Hid (Below w.heap.size w U1) := below_next HBU.out (Nat.le_refl _) hb1
  have HT1 := Lib.hid (HT.out.next hb1)
  clear hb1 hN p0 p1 p2 q2
  have p0 := BS1.cell 0
  have p1 := BS1.cell 1
  have p2 := BS1.cell 2
  have q0 := BI1.cell 0
  have q1 := BI1.cell 1
  have q2 := BI1.cell 2
  have q3 := BI1.cell 3
  have q4 := BI1.cell 4
  simp at p0 p1 p2 q0 q1 q2 q3 q4
  cases hv : validB s nw wd n F with
  | false =>
    have HI := Lib.hid (incB_no (sq := sq) (bt := bt) (fi := fi) (la := la) (wo := wo) hv)
    obtain rfl : E = 1 := by rw [HE.out]; exact (lst_bad hv).1
    go_wp2
    go_ret
    exact ⟨by rw [HI.out]; rfl, HB1.out⟩
  | true =>
    have hvp := validB_of hv
    have hE1 : E = 0 ∨ E = 2 ∨ E = 5 := by
      rw [HE.out]
      cases hf : inB n fi with
      | false => exact .inr (.inl (lst_out hv hf).1)
      | true =>
        obtain ⟨p, rfl, hp⟩ := inB_nat hf
        by_cases ho : (F p).ow = -1
        · exact .inr (.inr (lst_free hv hp ho).1)
        · exact .inl (lst_ok hv hp ho).1
    have hE2 : (E == 1) = false := by simp; omega
    have HEE := Lib.hid hE1
    have HV := Lib.hid hv
    have HVP := Lib.hid hvp
    have BSH := Lib.hid BS1
    have BIH := Lib.hid BI1
    clear hE1 hv hvp BS1 BI1
    go_wp2_with fail
    refine (perm_any sq bt fi la wo U1).mono ?_
    rintro e U2 ⟨rfl, hb2⟩
    have HB2 : Hid (Below w.heap.size w U2) := below_next HB1.out (Nat.le_refl _) hb2
    have BS2 := BSH.out.next hb2
    have BI2 := BIH.out.next hb2
    have HN2 := Lib.hid (HN.out.next hb2)
    have HT2 := Lib.hid (HT1.out.next hb2)
    clear hb2 p0 p1 p2 q0 q1 q2 q3 q4
    have p0 := BS2.cell 0
    have p1 := BS2.cell 1
    have p2 := BS2.cell 2
    have q0 := BI2.cell 0
    have q1 := BI2.cell 1
    have q2 := BI2.cell 2
    have q3 := BI2.cell 3
    have q4 := BI2.cell 4
    simp at p0 p1 p2 q0 q1 q2 q3 q4
    clear BS2 BI2
    have HIV := Lib.hid (show ∀ b : Bool, (b = true ↔ FitsQ s.toNat n nw F sq bt fi la wo) → b = incB s nw wd n F sq bt fi la wo from fun b h => incB_of HV.out h)
    rcases hpm : permB sq bt wo with _ | _
    · have HR := Lib.hid (HIV.out false (no_fit (fun h => by have := fits_perm h; rw [hpm] at this; cases this)))
      clear hpm
      go_wp2
      go_ret
      exact ⟨by rw [← HR.out]; rfl, HB2.out⟩
    · have HPM := Lib.hid hpm
      clear hpm
      by_cases h0 : wo = 0
      · subst h0
        by_cases h1 : fi = -1
        · by_cases h2 : la = -1
          · have HR := Lib.hid (HIV.out true ⟨fun _ => (fits_zero HPM.out).2 ⟨h1, h2⟩, fun _ => rfl⟩)
            subst h1 h2
            go_wp2
            go_ret
            exact ⟨by rw [← HR.out]; rfl, HB2.out⟩
          · have HR := Lib.hid (HIV.out false (no_fit (fun h => h2 ((fits_zero HPM.out).1 h).2)))
            have hb2 : (la == -1) = false := by simpa using h2
            clear h2
            subst h1
            go_wp2
            go_ret
            exact ⟨by rw [← HR.out]; rfl, HB2.out⟩
        · have HR := Lib.hid (HIV.out false (no_fit (fun h => h1 ((fits_zero HPM.out).1 h).1)))
          have hb1 : (fi == -1) = false := by simpa using h1
          clear h1
          go_wp2
          go_ret
          exact ⟨by rw [← HR.out]; rfl, HB2.out⟩
      · have h0b : (wo == 0) = false := by simpa using h0
        have hprm := HPM.out
        simp only [permB, Bool.and_eq_true, decide_eq_true_eq] at hprm
        have hw0 : 0 < wo := by omega
        have HPR := Lib.hid hprm
        have HW0 := Lib.hid hw0
        clear h0 hprm hw0
        by_cases hE0 : E = 0
        · obtain ⟨p, hfi, hp, ho⟩ : ∃ p : Nat, fi = p ∧ p < n ∧ (F p).ow ≠ -1 := by
            have h := HE.out
            rw [hE0] at h
            cases hf : inB n fi with
            | false => rw [(lst_out HV.out hf).1] at h; omega
            | true =>
              obtain ⟨p, rfl, hp⟩ := inB_nat hf
              refine ⟨p, rfl, hp, fun ho => ?_⟩
              rw [(lst_free HV.out hp ho).1] at h
              omega
          subst hfi hE0
          obtain ⟨k, hk, hk3, hk8⟩ := valid_nat HVP.out
          subst hk
          have hll := (lst_ok HV.out hp ho).2
          have hn64 := (nfB_yes HVP.out.2.1).2
          have hnw := HVP.out.2.2.1
          have HLL := Lib.hid (HL.out.trans hll)
          have HN3 := HN2.out
          rw [HLL.out] at HN3
          have HN4 := Lib.hid HN3
          have HNW := Lib.hid hnw
          clear hll hnw HN3
          go_wp2_with fail
          rw [HLL.out]
          refine (isChain_any k (.slice A nw c) A' nw n c' p F sq bt la wo Al cl U2 HT2.out HN4.out (by omega) HVP.out.fv hk8 hp ho ⟨HPR.out.1, HPR.out.2.1⟩ ⟨HPR.out.2.2.1, HPR.out.2.2.2.1⟩ (by have := HNW.out; rwa [Int.toNat_natCast] at this) HW0.out).mono ?_
          rintro e U3 ⟨b, rfl, hbq, hb3⟩
          have HR := Lib.hid (HIV.out b (by rw [Int.toNat_natCast]; exact hbq))
          have HB3 : Hid (Below w.heap.size w U3) := below_next HB2.out (Nat.le_refl _) hb3
          clear hbq hb3
          go_wp2
          go_ret
          exact ⟨by rw [← HR.out]; simp, HB3.out⟩
        · have hE0b : (E == 0) = false := by simpa using hE0
          have HR := Lib.hid (HIV.out false (no_fit (fun h => by
            obtain ⟨p, rfl, hp, ho, _, h1⟩ := fits_first h HW0.out
            exact hE0 (HE.out.trans (lst_ok HV.out hp (by omega)).1))))
          clear hE0
          go_wp2
          go_ret
          exact ⟨by rw [← HR.out]; rfl, HB2.out⟩
end Go.Proofs.Ytkknmphigpcjjaa
