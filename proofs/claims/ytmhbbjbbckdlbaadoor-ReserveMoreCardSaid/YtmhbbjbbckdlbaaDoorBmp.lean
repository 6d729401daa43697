/-
  Contracts of package bump and of the reference of layer 9: Frames, Extra, countFrames, Valid, for every raw space and every increment. (Made by mkbmp-s9.py.)
-/
import Derived.Test.YtmhbbjbbckdlbaaDoorMSpace
import Derived.Test.YtmhbbjbbckdlbaaDoorMHead
import Derived.Test.YtmhbbjbbckdlbaaDoorMChain
import Derived.Deep.RegionHeld3
import Derived.Deep.DeepCutAuto
namespace Go.Proofs.YtmhbbjbbckdlbaaDoor
open Go.RowKit
set_option maxRecDepth 100000
set_option linter.unusedVariables false

theorem ceilZ_nat {W k : Nat} (h : W ≤ 1099511627776) (hk : k ≤ 20) : Hd.ceilZ W k = (ceilV W k : Nat) := by
  unfold Hd.ceilZ
  rw [if_pos ⟨by omega, by omega, by omega, by omega⟩, Int.toNat_natCast]
  exact ceilV_cast W k
theorem ceilZ_big {wo : Int} {k : Nat} (h : 1099511627776 < wo) : Hd.ceilZ wo k = 0 := by
  unfold Hd.ceilZ
  rw [if_neg (by omega)]
theorem frames9_any (s wo : Int) (V1 V2 : Value) (sq bt fi la : Int) (w : World) :
    Calls Tryd.prog 54 #[.agg #[.int .i64 s, V1, V2], .agg #[.int .i64 sq, .int .i64 bt, .int .i64 fi, .int .i64 la, .int .i64 wo]] w fun e w' => e = .returned (.int .i64 (Hd.ceilZ wo s)) ∧ Below w.heap.size w w' := by
  go_enter Tryd.func54, Tryd.ntmps54
  go_wp2_with fail
  refine (Hd.ceil_any wo s _).mono ?_
  rintro e w' ⟨rfl, rfl⟩
  go_wp2
  go_ret
  exact ⟨rfl, ((Below.refl _ _).alloc (Nat.le_refl _) _).alloc (by simp) _⟩
theorem refFrames9_any (s wo : Int) (V1 V2 : Value) (sq bt fi la : Int) (w : World) :
    Calls Tryd.prog 36 #[.agg #[.int .i64 s, V1, V2], .agg #[.int .i64 sq, .int .i64 bt, .int .i64 fi, .int .i64 la, .int .i64 wo]] w fun e w' => e = .returned (.int .i64 (Hd.ceilZ wo s)) ∧ Below w.heap.size w w' := by
  go_enter Tryd.func36, Tryd.ntmps36
  go_wp2_with fail
  refine (Hd.refCeil_any wo s _).mono ?_
  rintro e w' ⟨rfl, rfl⟩
  go_wp2
  go_ret
  exact ⟨rfl, ((Below.refl _ _).alloc (Nat.le_refl _) _).alloc (by simp) _⟩
/-- How many frames more, as Extra computes it. -/
def extZ (s wo d : Int) : Int := IntKind.i64.wrap (Hd.ceilZ (IntKind.i64.wrap (wo + d)) s - Hd.ceilZ wo s)
set_option maxHeartbeats 1000000 in
theorem extra9_any (s wo d : Int) (V1 V2 : Value) (sq bt fi la : Int) (w : World) :
    Calls Tryd.prog 34 #[.agg #[.int .i64 s, V1, V2], .agg #[.int .i64 sq, .int .i64 bt, .int .i64 fi, .int .i64 la, .int .i64 wo], .int .i64 d] w fun e w' => e = .returned (.int .i64 (extZ s wo d)) ∧ Below w.heap.size w w' := by
  obtain ⟨W, hW⟩ : ∃ W, W = (w.alloc (.cells #[.int .i64 s, V1, V2] 31)).alloc (.cells #[.int .i64 sq, .int .i64 bt, .int .i64 fi, .int .i64 la, .int .i64 wo] 38) := ⟨_, rfl⟩
  have hBW : Below w.heap.size w W := by rw [hW]; exact ((Below.refl _ _).alloc (Nat.le_refl _) _).alloc (by simp) _
  have a0 : W.cell? ⟨w.heap.size, 0, none⟩ = some (.int .i64 s) := by rw [hW]; go_simp
  have a1 : W.cell? ⟨w.heap.size, 1, none⟩ = some V1 := by rw [hW]; go_simp
  have a2 : W.cell? ⟨w.heap.size, 2, none⟩ = some V2 := by rw [hW]; go_simp
  have b0 : W.cell? ⟨w.heap.size + 1, 0, none⟩ = some (.int .i64 sq) := by rw [hW]; go_simp
  have b1 : W.cell? ⟨w.heap.size + 1, 1, none⟩ = some (.int .i64 bt) := by rw [hW]; go_simp
  have b2 : W.cell? ⟨w.heap.size + 1, 2, none⟩ = some (.int .i64 fi) := by rw [hW]; go_simp
  have b3 : W.cell? ⟨w.heap.size + 1, 3, none⟩ = some (.int .i64 la) := by rw [hW]; go_simp
  have b4 : W.cell? ⟨w.heap.size + 1, 4, none⟩ = some (.int .i64 wo) := by rw [hW]; go_simp
  have z1 : w.heap.size < W.heap.size := by rw [hW]; simp; omega
  have z2 : w.heap.size + 1 < W.heap.size := by rw [hW]; simp
  have HW := Lib.hid hW
  have HBW := Lib.hid hBW
  obtain ⟨R1, hR1⟩ : ∃ z, z = Hd.ceilZ (IntKind.i64.wrap (wo + d)) s := ⟨_, rfl⟩
  obtain ⟨R2, hR2⟩ : ∃ z, z = Hd.ceilZ wo s := ⟨_, rfl⟩
  have HR := Lib.hid (show IntKind.i64.wrap (R1 - R2) = extZ s wo d by rw [hR1, hR2]; rfl)
  have HR1 := Lib.hid hR1
  have HR2 := Lib.hid hR2
  clear hW hBW hR1 hR2
  go_enter Tryd.func34, Tryd.ntmps34
  go_wp2
  rw [← HW.out]
  go_region_held3 (fun w' => w'.cell? ⟨w.heap.size, 0, none⟩ = some (.int .i64 s) ∧ w'.cell? ⟨w.heap.size, 1, none⟩ = some V1 ∧ w'.cell? ⟨w.heap.size, 2, none⟩ = some V2 ∧ w'.cell? ⟨w.heap.size + 1, 0, none⟩ = some (.int .i64 sq) ∧ w'.cell? ⟨w.heap.size + 1, 1, none⟩ = some (.int .i64 bt) ∧ w'.cell? ⟨w.heap.size + 1, 2, none⟩ = some (.int .i64 fi) ∧ w'.cell? ⟨w.heap.size + 1, 3, none⟩ = some (.int .i64 la) ∧ w'.cell? ⟨w.heap.size + 1, 4, none⟩ = some (.int .i64 wo))
    (first | exact ⟨a0, a1, a2, b0, b1, b2, b3, b4⟩ | exact ⟨(hb1.cell (p := ⟨_, _, none⟩) z1).trans a0, (hb1.cell (p := ⟨_, _, none⟩) z1).trans a1, (hb1.cell (p := ⟨_, _, none⟩) z1).trans a2, (hb1.cell (p := ⟨_, _, none⟩) z2).trans b0, (hb1.cell (p := ⟨_, _, none⟩) z2).trans b1, (hb1.cell (p := ⟨_, _, none⟩) z2).trans b2, (hb1.cell (p := ⟨_, _, none⟩) z2).trans b3, (hb1.cell (p := ⟨_, _, none⟩) z2).trans b4⟩)
    (first
      | (go_at_call 56; refine (Hd.ceil_any _ s _).mono ?_; rintro e w' ⟨rfl, rfl⟩; rw [← HR1.out])
      | (go_at_call 54; refine (frames9_any s wo V1 V2 sq bt fi la _).mono ?_; rintro e w1 ⟨rfl, hb1⟩; rw [← HR2.out]))
  all_goals
    have HB1 := Lib.hid hb1
    clear hb1
    go_wp2
    go_ret
    exact ⟨ret_i64 HR.out, below_next HBW.out.drew (Nat.le_refl _) HB1.out⟩
set_option maxHeartbeats 1000000 in
theorem refExtra9_any (s wo d : Int) (V1 V2 : Value) (sq bt fi la : Int) (w : World) :
    Calls Tryd.prog 17 #[.agg #[.int .i64 s, V1, V2], .agg #[.int .i64 sq, .int .i64 bt, .int .i64 fi, .int .i64 la, .int .i64 wo], .int .i64 d] w fun e w' => e = .returned (.int .i64 (extZ s wo d)) ∧ Below w.heap.size w w' := by
  obtain ⟨W, hW⟩ : ∃ W, W = (w.alloc (.cells #[.int .i64 s, V1, V2] 31)).alloc (.cells #[.int .i64 sq, .int .i64 bt, .int .i64 fi, .int .i64 la, .int .i64 wo] 38) := ⟨_, rfl⟩
  have hBW : Below w.heap.size w W := by rw [hW]; exact ((Below.refl _ _).alloc (Nat.le_refl _) _).alloc (by simp) _
  have a0 : W.cell? ⟨w.heap.size, 0, none⟩ = some (.int .i64 s) := by rw [hW]; go_simp
  have a1 : W.cell? ⟨w.heap.size, 1, none⟩ = some V1 := by rw [hW]; go_simp
  have a2 : W.cell? ⟨w.heap.size, 2, none⟩ = some V2 := by rw [hW]; go_simp
  have b0 : W.cell? ⟨w.heap.size + 1, 0, none⟩ = some (.int .i64 sq) := by rw [hW]; go_simp
  have b1 : W.cell? ⟨w.heap.size + 1, 1, none⟩ = some (.int .i64 bt) := by rw [hW]; go_simp
  have b2 : W.cell? ⟨w.heap.size + 1, 2, none⟩ = some (.int .i64 fi) := by rw [hW]; go_simp
  have b3 : W.cell? ⟨w.heap.size + 1, 3, none⟩ = some (.int .i64 la) := by rw [hW]; go_simp
  have b4 : W.cell? ⟨w.heap.size + 1, 4, none⟩ = some (.int .i64 wo) := by rw [hW]; go_simp
  have z1 : w.heap.size < W.heap.size := by rw [hW]; simp; omega
  have z2 : w.heap.size + 1 < W.heap.size := by rw [hW]; simp
  have HW := Lib.hid hW
  have HBW := Lib.hid hBW
  obtain ⟨R1, hR1⟩ : ∃ z, z = Hd.ceilZ (IntKind.i64.wrap (wo + d)) s := ⟨_, rfl⟩
  obtain ⟨R2, hR2⟩ : ∃ z, z = Hd.ceilZ wo s := ⟨_, rfl⟩
  have HR := Lib.hid (show IntKind.i64.wrap (R1 - R2) = extZ s wo d by rw [hR1, hR2]; rfl)
  have HR1 := Lib.hid hR1
  have HR2 := Lib.hid hR2
  clear hW hBW hR1 hR2
  go_enter Tryd.func17, Tryd.ntmps17
  go_wp2
  rw [← HW.out]
  go_region_held3 (fun w' => w'.cell? ⟨w.heap.size, 0, none⟩ = some (.int .i64 s) ∧ w'.cell? ⟨w.heap.size, 1, none⟩ = some V1 ∧ w'.cell? ⟨w.heap.size, 2, none⟩ = some V2 ∧ w'.cell? ⟨w.heap.size + 1, 0, none⟩ = some (.int .i64 sq) ∧ w'.cell? ⟨w.heap.size + 1, 1, none⟩ = some (.int .i64 bt) ∧ w'.cell? ⟨w.heap.size + 1, 2, none⟩ = some (.int .i64 fi) ∧ w'.cell? ⟨w.heap.size + 1, 3, none⟩ = some (.int .i64 la) ∧ w'.cell? ⟨w.heap.size + 1, 4, none⟩ = some (.int .i64 wo))
    (first | exact ⟨a0, a1, a2, b0, b1, b2, b3, b4⟩ | exact ⟨(hb1.cell (p := ⟨_, _, none⟩) z1).trans a0, (hb1.cell (p := ⟨_, _, none⟩) z1).trans a1, (hb1.cell (p := ⟨_, _, none⟩) z1).trans a2, (hb1.cell (p := ⟨_, _, none⟩) z2).trans b0, (hb1.cell (p := ⟨_, _, none⟩) z2).trans b1, (hb1.cell (p := ⟨_, _, none⟩) z2).trans b2, (hb1.cell (p := ⟨_, _, none⟩) z2).trans b3, (hb1.cell (p := ⟨_, _, none⟩) z2).trans b4⟩)
    (first
      | (go_at_call 39; refine (Hd.refCeil_any _ s _).mono ?_; rintro e w' ⟨rfl, rfl⟩; rw [← HR1.out])
      | (go_at_call 36; refine (refFrames9_any s wo V1 V2 sq bt fi la _).mono ?_; rintro e w1 ⟨rfl, hb1⟩; rw [← HR2.out]))
  all_goals
    have HB1 := Lib.hid hb1
    clear hb1
    go_wp2
    go_ret
    exact ⟨ret_i64 HR.out, below_next HBW.out.drew (Nat.le_refl _) HB1.out⟩

/-- Whether the numbers of an increment are permitted. -/
def permB (sq bt wo : Int) : Bool := decide (0 ≤ sq) && (decide (sq ≤ 4294967295) && (decide (0 ≤ bt) && (decide (bt < 4) && decide (0 ≤ wo))))
/-- When the frames from p on are an increment's. -/
theorem chain_fits {k n nw p : Nat} {F : Nat → Fr} {sq bt la wo : Int} (hv : FV F n) (hp : p < n) (ho : (F p).ow ≠ -1) (hq : 0 ≤ sq ∧ sq ≤ 4294967295) (hb : 0 ≤ bt ∧ bt < 4) (h8 : k ≤ 8) (hn : n ≤ 64) (hnw : nw = n * 2 ^ k) (hw : 0 < wo) :
    FitsQ k n nw F sq bt p la wo ↔ (F p).st = bt * 4294967296 + sq ∧ iter F ((chL F n p).length - 1) p = la ∧ ((chL F n p).length : Int) = Hd.ceilZ wo k ∧ cntO F sq n = (chL F n p).length := by
  obtain ⟨m, hm1, hlen⟩ := hv.len hp
  rw [chL_length hlen hm1]
  have hpl := prod_le hn h8
  rw [← hnw] at hpl
  constructor
  · rintro ⟨⟨_, _, _, _, W, hW, hWn, hc, _⟩, h2⟩
    have hst : stB (bt * 4294967296 + sq) sq = true := by
      refine decide_eq_true ⟨hq.1, hq.2, ?_⟩
      rcases (show bt = 0 ∨ bt = 1 ∨ bt = 2 ∨ bt = 3 by omega) with h | h | h | h <;> subst h <;> omega
    have h3 := h2 (by omega)
    subst hW
    rw [Int.toNat_natCast] at h3
    have hM := ceilV_pos (k := k) (W := W) (by omega)
    have h5 : LenP F p (ceilV W k) := ⟨hc.end_ hM, fun i hi he => by obtain ⟨q, hq1, _⟩ := hc.at_ hv hst hi; omega⟩
    have h6 := hlen.uniq h5
    rcases hc with ⟨h7, _⟩ | ⟨_, p', l, h7, _, h8', _, h9, _, h10, h11⟩
    · omega
    · obtain rfl : p = p' := by omega
      refine ⟨h11, by rw [h6, h9, h8'], ?_, by omega⟩
      rw [ceilZ_nat (by omega) (by omega), h6]
  · rintro ⟨h1, h2, h3, h4⟩
    have hmn : m ≤ n := by rw [← h4]; exact cntO_le F sq n
    have hm0 := hlen.pos
    have hle : wo ≤ 1099511627776 := by
      rcases (show wo ≤ 1099511627776 ∨ 1099511627776 < wo by omega) with h | h
      · exact h
      · rw [ceilZ_big h] at h3; omega
    obtain ⟨W, rfl⟩ : ∃ W : Nat, wo = W := ⟨wo.toNat, by omega⟩
    rw [ceilZ_nat (by omega) (by omega)] at h3
    have h3' : m = ceilV W k := by omega
    have hcov := ceilV_cover W k
    have hle2 : ceilV W k * 2 ^ k ≤ n * 2 ^ k := Nat.mul_le_mul_right _ (by omega)
    have hsb := stB_yes (ownB_yes (hv.own hp ho)).1
    have how : (F p).ow = sq := by rw [h1] at hsb; omega
    obtain ⟨_, hcm⟩ := chain_mk hv hp how h1 hlen.1 hlen.2
    refine ⟨⟨hq.1, hq.2, hb.1, hb.2, W, rfl, by omega, by rw [← h3']; exact hcm la h2, fun h => by omega⟩, fun _ => ?_⟩
    rw [Int.toNat_natCast, h4, h3']

/-- Which numbers an increment that fits has. -/
theorem fits_perm {k n nw : Nat} {F : Nat → Fr} {sq bt fi la wo : Int} (h : FitsQ k n nw F sq bt fi la wo) : permB sq bt wo = true := by
  obtain ⟨⟨h1, h2, h3, h4, W, h5, _⟩, _⟩ := h
  simp only [permB, Bool.and_eq_true, decide_eq_true_eq]
  omega
theorem fits_zero {k n nw : Nat} {F : Nat → Fr} {sq bt fi la : Int} (hp : permB sq bt 0 = true) : FitsQ k n nw F sq bt fi la 0 ↔ fi = -1 ∧ la = -1 := by
  simp only [permB, Bool.and_eq_true, decide_eq_true_eq] at hp
  constructor
  · rintro ⟨⟨_, _, _, _, W, h, _, _, h2⟩, _⟩
    exact h2 (by omega)
  · rintro ⟨rfl, rfl⟩
    exact ⟨⟨by omega, by omega, by omega, by omega, 0, rfl, by omega, .inl ⟨ceilV_zero k, rfl⟩, fun _ => ⟨rfl, rfl⟩⟩, fun h => by omega⟩
theorem fits_first {k n nw : Nat} {F : Nat → Fr} {sq bt fi la wo : Int} (h : FitsQ k n nw F sq bt fi la wo) (hw : 0 < wo) : ∃ p : Nat, fi = p ∧ p < n ∧ (F p).ow = sq ∧ (F p).st = bt * 4294967296 + sq ∧ 0 ≤ sq := by
  obtain ⟨⟨h0, _, _, _, W, e, _, hc, _⟩, _⟩ := h
  have hpos := ceilV_pos (k := k) (W := W) (by omega)
  rcases hc with ⟨h7, _⟩ | ⟨_, p', l, h7, h8, _, _, _, _, h9, h10⟩
  · omega
  · exact ⟨p', h7, h8, h9, h10, h0⟩

end Go.Proofs.YtmhbbjbbckdlbaaDoor
